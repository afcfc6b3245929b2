import PyProof.Rows.All
import Wide.All
import OpenK.AllK
import Wide.FinOn
import Lean
import PyProof.EqAt
import PyProof.EqKinds
import PyProof.TupleCall
import PyProof.NeKinds
import PyProof.Rows.Range3
import KE.KIsAll
import PyProof.ExcClass3
import PyProof.InstStoreFacts
import PyProof.ExcArgsOwn
import PyProof.ExcBaseAll.ValueError
import PyProof.ExcAttrAll.ValueError
import PyProof.Draws
import PyProof.ZipIter
import PyProof.SumWalk
import PyProof.Rows.FactsT2
import PyProof.EnumMake
import PyProof.Rows.EnumRows
import KE.KTab
import PyProof.StationsW
import PyProof.RulesAs
import PyProof.NsDelKeeps
import PyProof.PassesOwn
import PyProof.Rows.ListMulArg
import PyProof.StrWalks
import PyProof.MeetsStr
import PyProof.MeetsStr2
import PyProof.StrBlockL
import PyProof.SliceStr2
import PyProof.StrLawsIdx
import PyProof.FitsStr
import PyProof.StrLaws
import PyProof.Rows.FStr
import KE.KIntText
import PyProof.StrLawsTight
import PyProof.Rows.StrIntSpec
import PyProof.Rows.CountFlat
import PyProof.Rows.SeqMore2
import PyProof.SeqRoads
import PyProof.StrLawsAffix
import PyProof.InstEq
import PyProof.DictUpdate
import PyProof.DictWalks
import KE.KDictList
import PyProof.FactsAll.NoneType_1
import Wide.Seal
import PySem.Challenge.RW_cutrestore_k31_whole_heard
set_option compiler.extract_closed false
set_option Elab.async false
set_option linter.all false
set_option maxRecDepth 100000
theorem L2.fo{p:Prop}(h:∀g:Prop,(p->g)->g):p:=h p id
theorem L2.yo1{A:Sort _}{p:A->Prop}{z:Prop}(h:∃a,p a)(y:∀a,p a->z):z:=h.elim λa x=>y a x
theorem L2.yo2{A B:Sort _}{p:A->B->Prop}{z:Prop}(h:∃a b,p a b)(y:∀a b,p a b->z):z:=h.elim λa x=>x.elim λb x=>y a b x
theorem L2.yo3{A B C:Sort _}{p:A->B->C->Prop}{z:Prop}(h:∃a b c,p a b c)(y:∀a b c,p a b c->z):z:=h.elim λa x=>x.elim λb x=>x.elim λc x=>y a b c x
theorem L2.yo4{A B C D:Sort _}{p:A->B->C->D->Prop}{z:Prop}(h:∃a b c d,p a b c d)(y:∀a b c d,p a b c d->z):z:=h.elim λa x=>x.elim λb x=>x.elim λc x=>x.elim λd x=>y a b c d x
theorem L2.yo5{A B C D E:Sort _}{p:A->B->C->D->E->Prop}{z:Prop}(h:∃a b c d e,p a b c d e)(y:∀a b c d e,p a b c d e->z):z:=h.elim λa x=>x.elim λb x=>x.elim λc x=>x.elim λd x=>x.elim λe x=>y a b c d e x
theorem L2.yo6{A B C D E F:Sort _}{p:A->B->C->D->E->F->Prop}{z:Prop}(h:∃a b c d e f,p a b c d e f)(y:∀a b c d e f,p a b c d e f->z):z:=h.elim λa x=>x.elim λb x=>x.elim λc x=>x.elim λd x=>x.elim λe x=>x.elim λf x=>y a b c d e f x
theorem L2.yo7{A B C D E F G:Sort _}{p:A->B->C->D->E->F->G->Prop}{z:Prop}(h:∃a b c d e f g,p a b c d e f g)(y:∀a b c d e f g,p a b c d e f g->z):z:=h.elim λa x=>x.elim λb x=>x.elim λc x=>x.elim λd x=>x.elim λe x=>x.elim λf x=>x.elim λg x=>y a b c d e f g x
theorem L2.yo8{A B C D E F G H:Sort _}{p:A->B->C->D->E->F->G->H->Prop}{z:Prop}(h:∃a b c d e f g h,p a b c d e f g h)(y:∀a b c d e f g h,p a b c d e f g h->z):z:=h.elim λa x=>x.elim λb x=>x.elim λc x=>x.elim λd x=>x.elim λe x=>x.elim λf x=>x.elim λg x=>x.elim λh x=>y a b c d e f g h x
theorem L2.ya2{A B y:Prop}(h:A/\B)(x:A->B->y):y:=x h.1 h.2
theorem L2.ya3{A B C y:Prop}(h:A/\B/\C)(x:A->B->C->y):y:=x h.1 h.2.1 h.2.2
theorem L2.ya4{A B C D y:Prop}(h:A/\B/\C/\D)(x:A->B->C->D->y):y:=x h.1 h.2.1 h.2.2.1 h.2.2.2
theorem L2.ya5{A B C D E y:Prop}(h:A/\B/\C/\D/\E)(x:A->B->C->D->E->y):y:=x h.1 h.2.1 h.2.2.1 h.2.2.2.1 h.2.2.2.2
theorem L2.ya6{A B C D E F y:Prop}(h:A/\B/\C/\D/\E/\F)(x:A->B->C->D->E->F->y):y:=x h.1 h.2.1 h.2.2.1 h.2.2.2.1 h.2.2.2.2.1 h.2.2.2.2.2
theorem L2.ya7{A B C D E F G y:Prop}(h:A/\B/\C/\D/\E/\F/\G)(x:A->B->C->D->E->F->G->y):y:=x h.1 h.2.1 h.2.2.1 h.2.2.2.1 h.2.2.2.2.1 h.2.2.2.2.2.1 h.2.2.2.2.2.2
theorem L2.ya8{A B C D E F G H y:Prop}(h:A/\B/\C/\D/\E/\F/\G/\H)(x:A->B->C->D->E->F->G->H->y):y:=x h.1 h.2.1 h.2.2.1 h.2.2.2.1 h.2.2.2.2.1 h.2.2.2.2.2.1 h.2.2.2.2.2.2.1 h.2.2.2.2.2.2.2
theorem L2.ya9{A B C D E F G H I y:Prop}(h:A/\B/\C/\D/\E/\F/\G/\H/\I)(x:A->B->C->D->E->F->G->H->I->y):y:=x h.1 h.2.1 h.2.2.1 h.2.2.2.1 h.2.2.2.2.1 h.2.2.2.2.2.1 h.2.2.2.2.2.2.1 h.2.2.2.2.2.2.2.1 h.2.2.2.2.2.2.2.2
section
set_option hygiene false
local macro_rules | `(tactic| calc $e:term) => `(tactic| refine $e)
local macro_rules | `(tactic| lia) => `(tactic| first | with_reducible assumption | exact Nat.zero_le _ | exact Nat.le_refl _ | (refine Nat.le_of_lt ?_; with_reducible assumption) | (refine Nat.lt_succ_of_le ?_; with_reducible assumption) | (refine Int.ofNat_lt.mpr ?_; with_reducible assumption) | (refine Eq.symm ?_; with_reducible assumption) | omega)
local macro_rules | `(tactic| obtain $p:rcasesPatMed := $e:term) => `(tactic| (refine L2.fo λgZ hZ => ?_; rcases $e:term with $p:rcasesPatMed) <;> (refine hZ ?_; clear hZ gZ))
local macro_rules
 | `(tactic| obtain ⟨$ps,*⟩ := $e:term) => do
  let q := ps.getElems
  let n := q.size
  let k0 ← `(tactic| skip)
  let i : Lean.Ident := ⟨e.raw⟩
  let ce ← if e.raw.isIdent then `(tactic| try clear $i:ident) else pure k0
  let mut xs := #[]
  let mut re := #[]
  for p in q do
    let a := p.raw[0][0]
    let x := a[0][0]
    let z := Lean.mkIdent (.num `z_ xs.size)
    let b := x.isIdent && a.getNumArgs == 1 && x.getId != `rfl
    let r ← `(tactic| rcases $z:ident with $p:rcasesPatLo)
    xs := xs.push (if b then ⟨x⟩ else z)
    re := re.push (if b then k0 else r)
  let mut t ← `(tactic| rcases $e:term with ⟨$q,*⟩)
  for m in [2:n+n] do
    let c := if m ≤ n then m - 1 else m - n
    let l := Lean.mkIdent (.str `L2 (if m ≤ n then s!"ya{m}" else s!"yo{c}"))
    let w := q[c:].toArray
    let w ← `(tactic| obtain ⟨$w,*⟩ := zH)
    let f := n ≤ c + 1
    let y := if f then xs else xs[:c].toArray.push (Lean.mkIdent `zH)
    let r := if f then re else re[:c].toArray.push w
    t ← `(tactic| first | (refine $l $e ?_; ($ce:tactic); intro $y*; $[$r]*) | $t:tactic)
  if e.raw.getId == `zH then return t
  `(tactic| (refine L2.fo λgZ hZ => ?_; $t:tactic) <;> (refine hZ ?_; clear hZ gZ))
local macro_rules | `(tactic| nofun) => `(tactic| refine L2.fo λgZ hZ => ?_)
local macro_rules | `(tactic| ac_rfl) => `(tactic| (refine hZ ?_; clear hZ gZ))
local macro_rules | `(()) => `(by lia)
local macro_rules | `(∅) => `(by decide)
local macro_rules | `(⋯) => `(by decide +kernel)
local macro_rules | `(nofun) => `(by simp)
local macro_rules | `(Sort) => `(by grind)
set_option hygiene true
set_option hygiene false
local macro_rules | `(tactic| grind) => `(tactic| first | exact Or.inl rfl | exact Or.inr rfl | assumption)
local macro_rules | `(tactic| symm) => `(tactic| (refine D.ok sc (λvs H Q E h => ?_) (λf gp A outer s H vs Q E hr h => ?_); (first | (cases h; subst_vars; rfl) | ((repeat rcases h with ⟨_, h⟩) <;> subst_vars <;> rfl))))
local macro_rules
 | `(tactic| walk_at "xc") => `(tactic| (refine ⟨?_⟩; intro pins s σ H Q I h))
 | `(tactic| walk_at "xd") => `(tactic| (refine ⟨?_⟩; intro pins s σ H D I h))
 | `(tactic| walk_at "xf") => `(tactic| refine ⟨Ext.set (Ext.refl _) rfl, ?_⟩)
set_option hygiene true
abbrev IL:= @PySem.F.slot_dict_get
abbrev Rk:= @PySem.F.entry_dict_get
abbrev SK:= @PySem.F.plainAttrs_dict
abbrev Xs:= @PySem.F.type_dict_get
abbrev wK:= @PyProof.Rows.boot_isinstance
abbrev oE:= @PySem.F.plainAttrs_list
abbrev qH:= @PySem.F.slot_list_append
abbrev qI:= @PySem.F.type_list_append
abbrev qJ:= @PyProof.Rows.boot_tuple
abbrev ke:= @PyProof.Rows.boot_list
abbrev Eu:= @PyProof.Rows.boot_all
section
open PySem
abbrev E':= @wpAny_bind
abbrev J':= @wpAny_pure
abbrev K':= @Heap.get?_push_of_some
abbrev P':= @Nat.le_refl
abbrev S':= @Nat.le_of_lt
abbrev T':= @Bool.false_ne_true
abbrev U':= @Heap.lt_size
abbrev V':= @Nat.lt_of_lt_of_le
abbrev W':= @PySem.boot_len
abbrev X':= @Heap.get?_push_size
abbrev Y':= @Nat.zero_le
abbrev aaa:= @Nat.ne_of_lt
abbrev aab:= @Nat.le_trans
abbrev aac:= @List.mem_cons_of_mem
abbrev aad:= @List.mem_of_getElem?
abbrev aae:= @List.getElem_mem
abbrev aaf:= @List.mem_append_right
abbrev aag:= @List.mem_cons_self
abbrev aah:= @True.intro
abbrev aai:= @wpAny_callSpecial?_slot
abbrev aaj:= @W.mg_none_of
abbrev aak:= @wpAny_mono
abbrev aal:= @wpAny_newObj_type
abbrev aam:= @wpAny_dictEntries
abbrev aan:= @wpAny_field
abbrev aao:= @Int.eq_ofNat_of_zero_le
abbrev aaq:= @False.elim
abbrev aar:= @wpAny_call_entry
abbrev aaz:= @wpAny_pyIter_tuple
abbrev aaD:= @Int.emod_lt_of_pos
abbrev aaE:= @Nat.lt_irrefl
abbrev aaF:= @wpAny_holding
abbrev aaG:= @wpAny_truthy_bool
abbrev aaH:= @PySem.mem_of_lookup
abbrev aaI:= @Nat.lt_of_le_of_lt
abbrev aaJ:= @PyProof.Rows.slot_tuple_getitem
abbrev aaK:= @Int.emod_nonneg
abbrev aaN:= @wpAny_typeNameOfWhole_keyiter
abbrev aaQ:= @Int.toNat_of_nonneg
abbrev aaR:= @wpAny_seqItems
end
namespace L2
open PySem PySem.Spec PyProof.Rows
section
theorem cy{α:Type _}{l:List α}{i:Nat}(h:i<l.length):l[i]?=some l[i]:=List.getElem?_eq_getElem h
abbrev Key:=Sum Int Str
def ud:Key->Value->Bool
 | .inl k,v=>Value.isInt k v
 | .inr x,v=>Value.isStrOf x v
def YL(w:World):Key->Int
 | .inl k=>hashInt k
 | .inr x=>hashStr w x
theorem da:∀{k:Key}{v:Value},ud k v=true->(∃i t,k=Sum.inl i/\v=Value.int i t)\/(∃x t,k=Sum.inr x/\v=Value.str x t)
 | .inl i,v,h=>by
  obtain⟨t,e⟩:=Value.isInt_shape (k:=i) (v:=v) h;calc .inl ⟨i,t,rfl,e⟩
 | .inr x,v,h=>by
  obtain⟨t,e⟩:=Value.isStrOf_shape (x:=x) (v:=v) h;calc .inr ⟨x,t,rfl,e⟩
theorem Cp(i:Int)(t:Tok):ud (.inl i) (.int i t)=true:=by simp[ud,Value.isInt]
theorem Cq(x:Str)(t:Tok):ud (.inr x) (.str x t)=true:=by simp[ud,Value.isStrOf]
theorem NA(a b:Int):decide ((Sum.inl a:Key)=Sum.inl b)=(a==b):=by
 by_cases e:a=b
 ·subst e;simp
 ·have h:¬(Sum.inl a:Key)=Sum.inl b:=λq=>e (Sum.inl.inj q);rw[decide_eq_false h];calc(beq_eq_false_iff_ne.mpr e).symm
theorem NB(a b:Str):decide ((Sum.inr a:Key)=Sum.inr b)=decide (a=b):=by
 by_cases e:a=b
 ·subst e;simp
 ·have h:¬(Sum.inr a:Key)=Sum.inr b:=λq=>e (Sum.inr.inj q);rw[decide_eq_false h,decide_eq_false e]
theorem NC(a:Int)(b:Str):decide ((Sum.inl a:Key)=Sum.inr b)=false:=decide_eq_false (λq=>nomatch q)
theorem ND(a:Str)(b:Int):decide ((Sum.inr a:Key)=Sum.inl b)=false:=decide_eq_false (λq=>nomatch q)
def bG(prog:Program)(w:World):PySem.KeyKind prog w Key where
 is:=ud
 hash:=YL w
 inj:=λv a b f d=>by
  rcases da f with⟨i,t,rfl,rfl⟩|⟨x,t,rfl,rfl⟩
  ·rcases da d with⟨j,u,rfl,e⟩ | ⟨y,u,rfl,e⟩
   ·injection e with e1 _;rw[e1]
   ·exact nomatch e
  ·rcases da d with⟨j,u,rfl,e⟩ | ⟨y,u,rfl,e⟩
   ·exact nomatch e
   ·injection e with e1 _;rw[e1]
 byValue:=λk v h=>by
  rcases da h with⟨i,t,rfl,rfl⟩|⟨x,t,rfl,rfl⟩<;>rfl
 pyHash:=λc h=>by
  rcases da c with⟨i,t,rfl,rfl⟩|⟨x,t,rfl,rfl⟩
  ·exact wpAny_pyHash_int h
  ·exact wpAny_pyHash_str h
 eqBool:=λg c h=>by
  rcases da g with⟨i,t,rfl,rfl⟩|⟨x,t,rfl,rfl⟩
  ·rcases da c with⟨j,u,rfl,rfl⟩ | ⟨y,u,rfl,rfl⟩
   ·rw[NA]at h;exact wpAny_eqBool_int h
   ·rw[NC]at h;exact SeqAt.EqAt.int_str i t y u _ _ _ _ h
  ·rcases da c with⟨j,u,rfl,rfl⟩ | ⟨y,u,rfl,rfl⟩
   ·rw[ND]at h;exact SeqAt.EqAt.str_int x t j u _ _ _ _ h
   ·rw[NB]at h;exact wpAny_eqBool_str h
 «strs»:=λk x t v h=>by
  rcases da h with⟨i,u,rfl,e⟩|⟨y,u,rfl,e⟩
  ·exact nomatch e
  ·injection e with e1 _
   subst e1
   cases v<;>rfl
theorem wL(prog:Program)(w:World)(i:Int)(t:Tok):(bG prog w).is (.inl i) (.int i t)=true:=Cp i t
theorem wM(prog:Program)(w:World)(x:Str)(t:Tok):(bG prog w).is (.inr x) (.str x t)=true:=Cq x t
end
section
variable {a b:Addr}{H:Hp}
inductive V where
 |bC|bl (b:Bool)|int (i:Int)|str (x:Str)|Au (b:Array UInt8)|LV (b:UInt64)|ref (a:Addr)|ty (n:String)
 deriving DecidableEq
def RelV:V->Value->Prop
 | .bC,u=>u=Value.none
 | .bl b,u=>u=Value.bool b
 | .int i,u=>∃t,u=Value.int i t
 | .str x,u=>∃t,u=Value.str x t
 | .Au b,u=>∃t,u=Value.bytes b t
 | .LV b,u=>∃t,u=Value.float b t
 | .ref a,u=>u=Value.ref a
 | .ty n,u=>u=Value.type n
abbrev Vals:List V->List Value->Prop:=Paired RelV
theorem Vals.length{xs:List V}{us:List Value}(r:Vals xs us):xs.length=us.length:=Paired.length r
theorem Vals.get:∀{xs:List V}{us:List Value}{i:Nat}{x:V},Vals xs us->xs[i]?=some x->∃u,us[i]?=some u/\RelV x u
 |_,_,_,_,.nil,e=>by simp at e
 |_,_,0,_,.cons r _,e=>by simp at e;subst e;calc⟨_,rfl,r⟩
 |_,_,i+1,x,.cons _ t,e=>by
  obtain⟨u,a,b⟩:=Vals.get (i:=i) (x:=x) t (by simpa using e);calc⟨u,by simpa using a,b⟩
theorem Vals.set{x:V}{u:Value}(r:RelV x u):∀{xs:List V}{us:List Value}(i:Nat),Vals xs us->Vals (xs.set i x) (us.set i u)
 |_,_,_,.nil=>.nil
 |_,_,0,.cons _ t=>.cons r t
 |_,_,i+1,.cons q t=>.cons q (Vals.set r i t)
theorem Vals.append:∀{xs a:List V}{us ws:List Value},Vals xs us->Vals a ws->Vals (xs++a) (us++ws)
 |_,_,_,_,.nil,s=>s
 |_,_,_,_,.cons r t,s=>.cons r (Vals.append t s)
theorem Vals.take:∀{xs:List V}{us:List Value}(n:Nat),Vals xs us->Vals (xs.take n) (us.take n)
 |_,_,0,_=>.nil
 |_,_,_+1,.nil=>.nil
 |_,_,n+1,.cons r t=>.cons r (Vals.take n t)
theorem Vals.drop:∀{xs:List V}{us:List Value}(n:Nat),Vals xs us->Vals (xs.drop n) (us.drop n)
 |_,_,0,r=>r
 |_,_,_+1,.nil=>.nil
 |_,_,n+1,.cons _ t=>Vals.drop n t
def j5:Option V->Option Value->Prop
 |some v,some u=>RelV v u
 |none,none=>True
 |_,_=>False
def KV{κ:Type}:List (κ×V)->List (κ×Value)->Prop:=Paired λ(p:κ×V) (q:κ×Value)=>p.1=q.1/\RelV p.2 q.2
def kV:Key->V
 | .inl i=>.int i
 | .inr x=>.str x
inductive HO where
 |lst (xs:List V)
 |tup (xs:List V)
 |dK (kvs:List (Key×V))|dT (kvs:List (List Key×V))
 |set (S:Int->Bool) (n:Nat)
 |ins (C dx:Addr) (fs:List (Str×V))
 |own (x:Addr)
 |xd (fs:List (Str×V))
 |met (f x:Addr)
 |YM (lo hi:Int)
 |lD (o:Obj) (u:HO)
 |NF (ps:Array Value)
 |ext (φ:Heap->Prop)
abbrev Hp:=Addr->Option HO
def upd(H:Hp)(a:Addr)(o:HO):Hp:=λb=>if b=a then some o else H b
theorem ab{o:HO}:upd H a o a=some o:=by unfold upd;rw[if_pos rfl]
theorem av{o:HO}(h:b≠a):upd H a o b=H b:=by unfold upd;rw[if_neg h]
theorem eD{o u:HO}(h:H a=some o)(h':H b=some u)(d:o≠u):a≠b:=by
 intro e;subst e;rw[h]at h';calc d (Option.some.inj h')
theorem ao{o:HO}(h:H a=some o)(h':H b=none):a≠b:=by
 intro e;subst e;rw[h]at h';cases h'
section
variable (P:Program)(w:World)
def cg(H:Hp)(h:Heap)(a:Addr):HO->Prop
 | .lst xs=>xs.length<=sizeLine/\∃(b:List Value) (n:Nat),Vals xs b/\h.get? a=some {cls:=.type "list",data:=.seq b.toArray n}
 | .tup xs=>xs.length<=sizeLine/\∃b:List Value,Vals xs b/\IsTup h a b.toArray
 | .dK kvs=>kvs.length<=sizeLine/\(a==sysModules)=false/\∃vs,KV kvs vs/\h.DictOf (bG P w) a vs
 | .dT kvs=>kvs.length<=sizeLine/\(a == sysModules)=false/\∃xs:List (List Key×Addr×Value),
   Paired (λ(p:List Key×V) (q:List Key×Addr×Value)=>p.1=q.1/\H q.2.1=some (.tup (p.1.map kV))/\RelV p.2 q.2.2) kvs xs/\
   ∃o es ep,h.get? a=some o/\o.ExactDict/\o.data=.dict es ep/\es.toList=xs.map (entryOfKey (tupleKind (bG P w)))/\(xs.map (·.1)).Nodup
 | .set S n=>h.SetOf (intKind P w) a S n
 | .ins C d c=>H d=some (.own a)/\c.length<=1000/\d≠a/\h.get? a=some (W.instObj C d)/\
   ∃b,h.Ns1 d b/\(∀f,j5 (c.lookup f) (b f))/\PySem.Within b (c.map (·.1))
 | .own _=>∃o,h.get? a=some o
 | .xd c=>∃b,h.Ns1 a b/\∀f,j5 (c.lookup f) (b f)
 | .YM b c=>∃t u v,h.get? a=some {cls:=.type "range",data:=.fields #[.int b t,.int c u,.int 1 v]}
 | .lD o u=>h.get? a=some o/\cg H h a u
 | .NF b=>h.get? a=some {cls:=.none,data:=.fields b}
 | .met f x=>h.get? a=some (W.methodObj (.ref f) (.ref x))
 | .ext φ=>φ h/\(∃o,h.get? a=some o)/\∀b c:Heap,φ b->(∀o,b.get? a=some o->c.get? a=some o)->φ c
def lZ(H:Hp)(h:Heap):Prop:=∀a o,H a=some o->cg P w H h a o
end
section
variable {P:Program}{w:World}{H H':Hp}{h h':Heap}{a:Addr}{o:HO}
theorem cg.lt(x:cg P w H h a o):a<h.objs.size:=by
 cases o with
 |lst b=>obtain⟨_,_,_,_,e⟩:=x;calc U' e
 |tup b=>obtain⟨_,_,_,p⟩:=x;calc p.lt
 |dK b=>obtain⟨_,_,_,_,o,_,_,e,_⟩:=x;calc U' e
 |dT b=>obtain⟨_,_,_,_,o,_,_,e,_⟩:=x;calc U' e
 |set S n=>obtain⟨o,_,_,_,e,_⟩:=x;calc U' e
 |ins C c b=>obtain⟨_,_,_,e,_⟩:=x;calc U' e
 |own y=>obtain⟨_,e⟩:=x;calc U' e
 |xd b=>obtain⟨_,⟨_,_,_,e,_⟩,_⟩:=x;calc U' e
 |YM b c=>obtain⟨_,_,_,e⟩:=x;calc U' e
 |lD b u=>obtain⟨e,_⟩:=x;calc U' e
 |NF b=>calc U' (show h.get? a=some _ from x)
 |met f y=>calc U' (show h.get? a=some _ from x)
 |ext φ=>obtain⟨_,⟨_,e⟩,_⟩:=x;calc U' e
theorem Paired.Cr{α β:Type}{F G:α->β->Prop}:∀{c:List α}{d:List β},Paired F c d->(∀a b,F a b->G a b)->Paired G c d
 |_,_,.nil,_=>.nil
 |_,_,.cons r t,f=>.cons (f _ _ r) (Paired.Cr t f)
theorem cg.aG(x:cg P w H h a o)(k:∀b u,(b=a\/H b=some (.own a))->h.get? b=some u->h'.get? b=some u)
  (m:∀b,H b=some (.own a)->H' b=some (.own a)) (j:∀b xs,H b=some (.tup xs)->H' b=some (.tup xs)):cg P w H' h' a o:=by
 induction o with
 |lst xs=>obtain⟨z,d,n,r,e⟩:=x;calc⟨z,d,n,r,k _ _ (.inl rfl) e⟩
 |tup xs=>obtain⟨z,d,r,f,e,c⟩:=x;calc⟨z,d,r,f,k _ _ (.inl rfl) e,c⟩
 |dK d=>obtain⟨z,y,l,r,f,g,i,e,c⟩:=x;calc⟨z,y,l,r,f,g,i,k _ _ (.inl rfl) e,c⟩
 |dT d=>
  obtain⟨z,y,xs,r,f,g,i,e,c⟩:=x;calc⟨z,y,xs,Paired.Cr r λp q z=>⟨z.1,j _ _ z.2.1,z.2.2⟩,f,g,i,k _ _ (.inl rfl) e,c⟩
 |set S n=>obtain⟨f,g,i,t,e,c⟩:=x;calc⟨f,g,i,t,k _ _ (.inl rfl) e,c⟩
 |ins C d n=>
  obtain⟨d,z,s,e,j,⟨l,g,i,v,c⟩,r⟩:=x;calc⟨m _ d,z,s,k _ _ (.inl rfl) e,j,⟨l,g,i,k _ _ (.inr d) v,c⟩,r⟩
 |own y=>obtain⟨f,e⟩:=x;calc⟨f,k _ _ (.inl rfl) e⟩
 |xd n=>obtain⟨j,⟨l,g,i,e,c⟩,r⟩:=x;calc⟨j,⟨l,g,i,k _ _ (.inl rfl) e,c⟩,r⟩
 |YM c d=>obtain⟨t,u,v,e⟩:=x;calc⟨t,u,v,k _ _ (.inl rfl) e⟩
 |lD f u c=>obtain⟨e,q⟩:=x;calc⟨k _ _ (.inl rfl) e,c q⟩
 |NF c=>
  have e:h.get? a=some {cls:=.none,data:=.fields c}:=x;show h'.get? a=some {cls:=.none,data:=.fields c};calc k a _ (.inl rfl) e
 |met f y=>
  have e:h.get? a=some (W.methodObj (.ref f) (.ref y)):=x;show h'.get? a=some (W.methodObj (.ref f) (.ref y));calc k a _ (.inl rfl) e
 |ext φ=>obtain⟨p,⟨o,e⟩,c⟩:=x;calc⟨c _ _ p λo q=>k _ _ (.inl rfl) q,⟨o,k _ _ (.inl rfl) e⟩,c⟩
theorem lZ.lt(x:lZ P w H h)(e:H a=some o):a<h.objs.size:=(x a o e).lt
theorem lZ.fresh(x:lZ P w H h)(e:h.objs.size<=a):H a=none:=by
 cases q:H a with
 |none=>rfl
 |some u=>calc absurd (V' (x.lt q) e) (aaE _)
theorem lZ.kept(x:lZ P w H h)(k:∀b u,h.get? b=some u->h'.get? b=some u):lZ P w H h':=λa o e=>
 (x a o e).aG (λb u _ q=>k b u q) (λ_ q=>q) λ_ _ q=>q
theorem lZ.laid(x:lZ P w H h)(k:∀b u,h.get? b=some u->h'.get? b=some u)(g:h.objs.size<=a)(c:cg P w (upd H a o) h' a o):lZ P w (upd H a o) h':=λb u e=>by
 have d:=x.fresh g;by_cases f:b=a
 ·subst f;rw[ab]at e;cases e;exact c
 ·rw[av f]at e;exact(x b u e).aG (λc v _ q=>k c v q) (λc q=>by rw[av (ao q d)];calc q) λc e q=>by rw[av (ao q d)];calc q
end
def Rd(H:Hp)(a:Addr)(u:HO):Prop:=H a=some u\/∃o,H a=some (.lD o u)
theorem Rd.ok{P:Program}{w:World}{h:Heap}{u:HO}(r:Rd H a u)(x:lZ P w H h):cg P w H h a u:=by
 rcases r with r|⟨o,r⟩
 ·exact x a u r
 ·obtain⟨_,q⟩:=x a _ r;calc q
def SM:Option HO->Prop
 |some (.lst _)=>True
 |some (.dK _)=>True
 |some (.dT _)=>True
 |some (.set _ _)=>True
 |some (.ins _ _ _)=>True
 |some (.ext _)=>True
 |_=>False
section
variable {P:Program}{w:World}{H:Hp}{h h':Heap}{x e:Addr}{o':HO}
theorem lZ.write(o:lZ P w H h)(a:SM (H x))(l:e=x\/H e=some (.own x))(k:∀b u,b≠e->h.get? b=some u->h'.get? b=some u)(p:∃u,h'.get? e=some u)
  (j:cg P w (upd H x o') h' x o'):lZ P w (upd H x o') h':=λb u q=>by
 have m:∀c y,H c=some (.own y)->c≠x:=λc y r z=>by subst z;rw[r]at a;exact a
 have s:∀c d,H c=some (.tup d)->c≠x:=λc d r z=>by subst z;rw[r]at a;exact a
 by_cases f:b=x
 ·subst f;rw[ab]at q;cases q;exact j
 ·rw[av f] at q;by_cases g:b=e
  ·have n:H b=some (.own x):=by
    rcases l with z|z
    ·exact absurd (g.trans z) f
    ·rw[g];exact z
   rw[q]at n;cases n;obtain⟨v,a⟩:=p;exact⟨v,by rw[g];calc a⟩
  ·refine(o b u q).aG (λc v i r=>k c v ?_ r) (λc r=>by rw[av (m c b r)];calc r) λc d r=>by rw[av (s c d r)];exact r
   rcases i with rfl|i
   ·exact g
   ·rintro rfl;rcases l with z | z
    ·exact m c b i z
    ·rw[i]at z;cases z;calc f rfl
end
structure Un(fs ex:List Addr)(H H':Hp)(h h':Heap):Prop where
 keep:∀b o,h.get? b=some o->H b=none->b∉fs->b∉ex->h'.get? b=some o
 slot:∀b o,h.get? b=some o->H b=none->b∈fs->b∉ex->∃sl,h'.get? b=some {o with slots:=sl}
 free:∀b o,h.get? b=some o->H b=none->b∉ex->H' b=none
 there:∀b o,h.get? b=some o->b∉ex->∃o',h'.get? b=some o'
 aM:∀b xs,H b=some (.tup xs)->H' b=some (.tup xs)
 qp:∀b o u,H b=some (.lD o u)->H' b=some (.lD o u)
 vd:∀b ps,H b=some (.NF ps)->∃more,H' b=some (.NF (ps++more))
section
variable {fs yJ ex ex':List Addr}{H H1 H2:Hp}{h h1 h2 h':Heap}{a x e:Addr}{o:HO}
theorem Un.any(u:Un fs ex H H1 h h1){b:Addr}{ob:Obj}(q:h.get? b=some ob)(n:H b=none)(a:b∉ex):∃c,h1.get? b=some {ob with slots:=c}:=by
 by_cases c:b∈fs
 ·exact u.slot b ob q n c a
 ·calc⟨ob.slots,u.keep b ob q n c a⟩
theorem Un.kept(k:∀b u,h.get? b=some u->h'.get? b=some u):Un fs ex H H h h':=
 ⟨λb a q _ _ _=>k b a q,λb a q _ _ _=>⟨a.slots,k b a q⟩,λ_ _ _ n _=>n,λb a q _=>⟨a,k b a q⟩,λ_ _ q=>q,λ_ _ _ q=>q,λ_ a q=>⟨#[],by rw[q];simp⟩⟩
theorem Un.refl:Un fs ex H H h h:=Un.kept λ_ _ q=>q
theorem Un.laid(k:∀b u,h.get? b=some u->h'.get? b=some u)(d:h.objs.size<=a)(c:H a=none):Un fs ex H (upd H a o) h h' where
 keep:=λb u q _ _ _=>k b u q
 slot:=λb u q _ _ _=>⟨u.slots,k b u q⟩
 free:=λb u q n _=>by rw[av (Nat.ne_of_lt (Nat.lt_of_lt_of_le (Heap.lt_size q) d))];exact n
 there:=λb u q _=>⟨u,k b u q⟩
 aM:=λb d q=>by rw[av (ao q c)];exact q
 qp:=λb u d q=>by rw[av (ao q c)];exact q
 vd:=λb d q=>⟨#[],by rw[av (ao q c),q];simp⟩
theorem Un.write(a:SM (H x))(i:e=x\/H e=some (.own x))(k:∀b u,b≠e->h.get? b=some u->h'.get? b=some u)(j:∃u,h'.get? e=some u):Un fs ex H (upd H x o) h h':=by
 have d:∀b,H b=none->b≠x:=λb n z=>by subst z;rw[n]at a;exact a
 have f:∀b,H b=none->b≠e:=λb n z=>by
  subst z;rcases i with r|r
  ·exact d b n r
  ·rw[n]at r;cases r
 have c:∀b u,H b=some u->¬SM (some u)->b≠x:=λb u q l z=>by subst z;rw[q]at a;exact l a
 refine⟨λb u q n _ _=>k b u (f b n) q,λb u q n _ _=>⟨u.slots,k b u (f b n) q⟩,λb u q n _=>by rw[av (d b n)];exact n,λb u q _=>?_,
  λb a q=>by rw[av (c b _ q λz=>z)];calc q,λb u a q=>by rw[av (c b _ q λz=>z)];calc q,λb a q=>⟨#[],by rw[av (c b _ q λz=>z),q];simp⟩⟩
 by_cases g:b=e
 ·subst g;exact j
 ·calc⟨u,k b u g q⟩
end
def Xt(h:Heap)(H:Hp):List Addr:=(List.range h.objs.size).filter λa=>(H a).isSome
def ve(h:Heap)(H:Hp):Heap:=W.hideAll h (Xt h H)
theorem Cs(h:Heap)(H:Hp):(ve h H).objs.size=h.objs.size:=W.hideAll_size _ _
theorem Ew{h:Heap}{o:Obj}(e:h.get? b=some o)(n:H b=none):(ve h H).get? b=some o:=
 W.hideAll_get _ e λa=>by
  have q:(H b).isSome=true:=(List.mem_filter.mp a).2;rw[n]at q;simp at q
theorem JA{h:Heap}{H:Hp}{b:Addr}{o:Obj}(e:(ve h H).get? b=some o):h.get? b=some o/\H b=none:=by
 have a:h.get? b=some o:=W.of_hideAll (Xt h H) e;refine⟨a,?_⟩
 cases q:H b with
 |none=>rfl
 |some x=>
  have c:b∈Xt h H:=List.mem_filter.mpr ⟨List.mem_range.mpr (U' a),by simp[q]⟩;have z:(ve h H).get? b=none:=W.hideAll_none (Xt h H) c;rw[z]at e;cases e
end
section
variable {A:Around}{ch:List Addr}{t':Nat}{E:Value->Shared->Prop}
structure Mod(K:W.Frag)(mg:Str->Option Value)(base:Heap):Prop where
 Rl:K.In base
 glob:base.Ns mainGlobals mg
 blt:∃mb,base.Ns builtinsNs mb/\∀x:Str,x≠"__name__"->mb x=bootBuiltins x
 nolimit:base.NoLimit
structure Cx where
 prog:Program
 w:World
 K:W.Frag
 mg:Str->Option Value
 base:Heap
 A:Around
 N:List Str
 s₀:Shared
 H₀:Hp
 env:Env
 outer:List Env
 stack:List Env
 ex:List Addr
 fn:Str->Bool
 calm:Bool
 pn:List (Addr×Obj)
 xe:Value->Shared->Prop
def Ct(l:List Env):List Addr:=l.filterMap (·.frame)
abbrev Cx.fs(X:Cx):List Addr:=Ct X.outer
def SO(a:Scope)(x:Str):Prop:=a.names.lookup x=some .local\/a.names.lookup x=some .cell\/a.names.lookup x=some .free
def Loc(a:Scope)(x:Str):Prop:=a.names.lookup x=some .local\/a.names.lookup x=some .cell
def Look(env:Env)(h:Heap)(m:Str->Option Value)(x:Str)(u:Value):Prop:=
 (env.kindOf x=some .local/\m x=some u)\/((env.kindOf x=some .cell\/env.kindOf x=some .free)/\∃c,env.cells.lookup x=some c/\h.IsCell c (some u))
structure Cx.Ok(X:Cx):Prop where
 mod:Mod X.K X.mg X.base
 kind:X.env.scope.kind=.function
 glob:X.env.globals=mainGlobals
 blt:X.env.builtins=builtinsNs
 above:X.s₀.heap.objs.size<=X.env.locals
 inj:∀x y c,X.env.cells.lookup x=some c->X.env.cells.lookup y=some c->x=y
 has:∀x,(X.env.kindOf x=some .cell\/X.env.kindOf x=some .free)->∃c,X.env.cells.lookup x=some c
 Rm:∀x c,X.fn x=true->X.env.cells.lookup x=some c->X.s₀.heap.objs.size<=c
 hd:X.calm=true->X.A.handled=none
 frames:X.A.frames=some X.stack
 SQ:X.stack=X.outer\/(X.stack=X.env::X.outer/\X.env.frame=some X.env.locals)
 Xu:∀b∈X.ex,b≠X.env.locals/\∀x c,X.env.cells.lookup x=some c->c≠b
 bs:∀b o,X.base.get? b=some o->X.s₀.heap.get? b=some o/\X.H₀ b=none
 Ex:X.base.objs.size<=X.s₀.heap.objs.size
 yQ:∀b o,X.base.get? b=some o->b∉X.ex
 Cu:∀b∈X.ex,b∉X.fs
 oK:X.s₀.heap.FunFrames X.base X.outer
 LW:∀b∈X.fs,X.H₀ b=none
structure Inv(X:Cx)(pins:List (Addr×Obj))(σ:List (Option V))(H:Hp)(s:Shared):Prop where
 ok:X.Ok
 os:s.os=X.s₀.os
 bare:AllBare s.gens
 base:Un X.fs X.ex X.H₀ H X.s₀.heap s.heap
 loc:∃m,s.heap.Ns X.env.locals m/\∀(i:Nat) (x:Str) (v:V),X.N[i]?=some x->σ[i]?=some (some v)->SO X.env.scope x->∃u,RelV v u/\Look X.env s.heap m x u
 cell:∀x c,X.env.cells.lookup x=some c->∃v,s.heap.IsCell c v
 free:H X.env.locals=none
 j1:∀x c,X.env.cells.lookup x=some c->H c=none
 pin:∀p∈X.pn++pins,s.heap.get? p.1=some p.2/\H p.1=none/\p.1≠X.env.locals/\p.1∉X.fs/\∀v,p.2.data≠.cell v
 aO:lZ X.prog X.w H s.heap
 len:σ.length=X.N.length
section
variable {X:Cx}{pins:List (Addr×Obj)}{σ:List (Option V)}{H H':Hp}{s:Shared}{h':Heap}
theorem Cx.Ok.NH(a:X.Ok){b:Addr}{o:Obj}(e:X.base.get? b=some o):b∉X.fs:=λc=>by
 have:=(a.oK.mem c).1;rw[e]at this;cases this
theorem Inv.bs(I:Inv X pins σ H s):∀b o,X.base.get? b=some o->s.heap.get? b=some o/\H b=none:=λb o e=>
 ⟨I.base.keep b o (I.ok.bs b o e).1 (I.ok.bs b o e).2 (I.ok.NH e) (I.ok.yQ b o e),I.base.free b o (I.ok.bs b o e).1 (I.ok.bs b o e).2 (I.ok.yQ b o e)⟩
theorem Inv.bk(I:Inv X pins σ H s):∀b o,X.base.get? b=some o->s.heap.get? b=some o:=λb o e=>(I.bs b o e).1
theorem Inv.mod(I:Inv X pins σ H s):Mod X.K X.mg X.base:=I.ok.mod
theorem Inv.j2(I:Inv X pins σ H s):X.K.In s.heap:=I.ok.mod.Rl.keeps I.bk
theorem Inv.lt(I:Inv X pins σ H s):X.env.locals<s.heap.objs.size:=let ⟨_,a,_⟩:=I.loc;a.lt
theorem Inv.sz(I:Inv X pins σ H s):X.s₀.heap.objs.size<=s.heap.objs.size:=aab I.ok.above (S' I.lt)
theorem Inv.NI(I:Inv X pins σ H s){a:Addr}(h:s.heap.objs.size<=a):a∉X.fs:=λa=>by
 obtain⟨_,o,b,_⟩:=I.ok.oK.mem a;calc absurd (V' (U' b) (aab I.sz h)) (aaE _)
theorem Inv.NJ(I:Inv X pins σ H s):∀x c,X.env.cells.lookup x=some c->c≠X.env.locals:=λx c e z=>by
 obtain⟨v,o,a,b⟩:=I.cell x c e;obtain⟨m,⟨g,h,i,d,f,_⟩,_⟩:=I.loc;rw[z,d]at a;cases a;rw[f]at b;cases b
theorem Inv.oK(I:Inv X pins σ H s):s.heap.FunFrames X.base X.outer:=by
 have a:∀(l:List Env),(∀b∈Ct l,b∈X.fs)->X.s₀.heap.FunFrames X.base l->s.heap.FunFrames X.base l:=by
  intro l;induction l with
  |nil=>intro _ _;trivial
  |cons c r h=>
   intro g e;obtain⟨i,⟨L,o,c,j,f,k⟩,l⟩:=e;have d:L∈X.fs:=g L (by unfold Ct;rw[List.filterMap_cons,c];calc aag);obtain⟨m,e⟩:=I.base.slot L o f (I.ok.LW L d) d λz=>I.ok.Cu L z d;exact⟨i,⟨L,_,c,j,e,k⟩,h (λb f=>g b (by unfold Ct;rw[List.filterMap_cons,c];calc aac _ f)) l⟩
 calc a X.outer (λ_ f=>f) I.ok.oK
theorem Inv.stack(I:Inv X pins σ H s):s.heap.FunFrames X.base X.stack:=by
 rcases I.ok.SQ with e|⟨e,a⟩
 ·rw[e];exact I.oK
 ·rw[e];obtain⟨m,b,_⟩:=I.loc;calc .cons (by rw[I.ok.kind];decide) a b ?_ I.oK;calc Heap.get?_none_of_le (aab I.ok.Ex I.ok.above)
theorem Inv.vf(I:Inv X pins σ H s):∀b∈Ct X.stack,b∈X.env.locals::X.fs:=λb a=>by
 rcases I.ok.SQ with e|⟨e,b⟩
 ·rw[e]at a;exact aac _ a
 ·rw[e]at a;unfold Ct at a;rw[List.filterMap_cons,b]at a;calc a
theorem Inv.Av(I:Inv X pins σ H s):∀b∈Ct X.stack,H b=none:=λb a=>by
 rcases List.mem_cons.mp (I.vf b a) with e|a
 ·rw[e];exact I.free
 ·obtain⟨_,o,c,_⟩:=I.ok.oK.mem a;calc I.base.free b o c (I.ok.LW b a) λz=>I.ok.Cu b z a
theorem Inv.step{g':Array GenState}{t':Nat}{d':Drawn}(I:Inv X pins σ H s)
  (j:∀b∈ch,(b∈X.ex\/X.s₀.heap.objs.size<=b)/\b≠X.env.locals/\(∀x c,X.env.cells.lookup x=some c->c≠b)/\∀p∈X.pn++pins,p.1≠b)
  (keep:∀b o,b≠X.env.locals->b∉X.fs->b∉ch->s.heap.get? b=some o->H b=none->h'.get? b=some o)
  (slot:∀b o,b≠X.env.locals->b∈X.fs->b∉ch->s.heap.get? b=some o->H b=none->∃D,h'.get? b=some {o with slots:=D}) (free:∀b o,b∉ch->s.heap.get? b=some o->H b=none->H' b=none)
  (there:∀b o,b∉ch->s.heap.get? b=some o->∃k,h'.get? b=some k)
  (J:∀b xs,H b=some (.tup xs)->H' b=some (.tup xs)) (K:∀b o u,H b=some (.lD o u)->H' b=some (.lD o u)) (L:∀b B,H b=some (.NF B)->∃q,H' b=some (.NF (B++q)))
  (M:∀m,s.heap.Ns X.env.locals m->h'.Ns X.env.locals m) (N:lZ X.prog X.w H' h') (O:AllBare g'):
  Inv X pins σ H' {s with heap:=h',gens:=g',drawn:=d',toks:=t'}:=by
 have t:∀b o,X.s₀.heap.get? b=some o->b≠X.env.locals:=λb o e=>aaa (V' (U' e) I.ok.above);have C:∀b o,X.s₀.heap.get? b=some o->b∉X.ex->b∉ch:=λb o e a g=>by
  rcases(j b g).1 with z|z
  ·exact a z
  ·exact absurd (V' (U' e) z) (aaE _)
 have d:∀x c,X.env.cells.lookup x=some c->∀v,s.heap.IsCell c v->h'.IsCell c v:=λx c e v ⟨o,h,E⟩=>by
  have y:c∉ch:=λz=>(j c z).2.2.1 x c e rfl;by_cases F:c∈X.fs
  ·obtain⟨D,q⟩:=slot c o (I.NJ x c e) F y h (I.j1 x c e);exact⟨_,q,E⟩
  ·exact⟨o,keep c o (I.NJ x c e) F y h (I.j1 x c e),E⟩
 refine⟨I.ok,I.os,O,⟨λb o e n g a=>?_,λb o e n g a=>?_,λb o e n a=>?_,λb o e a=>?_,λb xs e=>J b xs (I.base.aM b xs e),λb o xs e=>K b o xs (I.base.qp b o xs e),λb B e=>?_⟩,?_,λx c e=>?_,?_,λx c e=>?_,λp G=>?_,N,I.len⟩
 ·exact keep b o (t b o e) g (C b o e a) (I.base.keep b o e n g a) (I.base.free b o e n a)
 ·obtain⟨D,f⟩:=I.base.slot b o e n g a;obtain⟨q,A⟩:=slot b _ (t b o e) g (C b o e a) f (I.base.free b o e n a);exact⟨q,A⟩
 ·obtain⟨k,f⟩:=I.base.there b o e a;exact free b k (C b o e a) f (I.base.free b o e n a)
 ·obtain⟨k,f⟩:=I.base.there b o e a;exact there b k (C b o e a) f
 ·obtain⟨a,f⟩:=I.base.vd b B e;obtain⟨g,A⟩:=L b _ f;exact⟨a++g,by rw[A,Array.append_assoc]⟩
 ·obtain⟨m,a,P⟩:=I.loc;calc⟨m,M m a,λi x v f A Q=>?_⟩;obtain⟨u,r,l⟩:=P i x v f A Q;calc⟨u,r,?_⟩;rcases l with l | ⟨k,c,e,z⟩
  ·exact .inl l
  ·exact .inr ⟨k,c,e,d x c e _ z⟩
 ·obtain⟨v,z⟩:=I.cell x c e;exact⟨v,d x c e v z⟩
 ·obtain⟨m,⟨o,_,_,h,_⟩,_⟩:=I.loc;exact free _ o (λz=>(j _ z).2.1 rfl) h I.free
 ·obtain⟨v,o,h,E⟩:=I.cell x c e;exact free c o (λz=>(j c z).2.2.1 x c e rfl) h (I.j1 x c e)
 ·obtain⟨e,n,a,b,d⟩:=I.pin p G;have y:p.1∉ch:=λz=>(j p.1 z).2.2.2 p G rfl;calc⟨keep p.1 p.2 a b y e n,free p.1 p.2 y e n,a,b,d⟩
theorem Inv.un(I:Inv X pins σ H s)(u:Un X.fs [] H H' s.heap h')(f:lZ X.prog X.w H' h'):Inv X pins σ H' {s with heap:=h',toks:=t'}:=by
 obtain⟨m,⟨o,a,b,c,r⟩,_⟩:=id I.loc;obtain⟨a,g⟩:=u.any c I.free nofun;exact I.step (g':=s.gens) (d':=s.drawn) (ch:=[]) (λ_ z=>nomatch z) (λb o _ a _ e n=>u.keep b o e n a nofun) (λb o _ a _ e n=>u.slot b o e n a nofun) (λb o _ e n=>u.free b o e n nofun) (λb o _ e=>u.there b o e nofun) u.aM u.qp u.vd (λa h=>by
  obtain⟨a,i,j,d,k⟩:=h;rw[c] at d;cases d;calc⟨_,i,j,g,k⟩) f I.bare
theorem Inv.call{g':Array GenState}{d':Drawn}(I:Inv X pins σ H s)(u:Un (Ct X.stack) ch H H' s.heap h')(i:lZ X.prog X.w H' h')(j:AllBare g')
  (f:∀b∈ch,(b∈X.ex\/X.s₀.heap.objs.size<=b)/\b≠X.env.locals/\(∀x c,X.env.cells.lookup x=some c->c≠b)/\∀p∈X.pn++pins,p.1≠b):
  Inv X pins σ H' {s with heap:=h',gens:=g',drawn:=d',toks:=t'}:=by
 obtain⟨m,⟨o,a,c,g,r⟩,_⟩:=id I.loc;obtain⟨a,d⟩:=u.any g I.free λz=>(f _ z).2.1 rfl;exact I.step (ch:=ch) f (λb o d c a e n=>u.keep b o e n (λz=>(List.mem_cons.mp (I.vf b z)).elim d c) a) (λb o _ _ a e n=>u.any e n a) (λb o a e n=>u.free b o e n a) (λb o a e=>u.there b o e a) u.aM u.qp u.vd (λc k=>by
  obtain⟨a,l,q,h,t⟩:=k;rw[g] at h;cases h;calc⟨_,l,q,d,t⟩) i j
theorem Inv.turned{a:Addr}(I:Inv X pins σ H s)(k:∀b o,b≠a->s.heap.get? b=some o->h'.get? b=some o)(j:H a=none)(g:a≠X.env.locals)
  (l:a∈X.ex\/X.s₀.heap.objs.size<=a) (r:∀x c,X.env.cells.lookup x=some c->c≠a) (t:∀p∈X.pn++pins,p.1≠a):Inv X pins σ H {s with heap:=h',toks:=t'}:=by
 have i:∀b u,H b=some u->b≠a:=λb u e z=>by rw[z,j]at e;cases e
 refine I.step (g':=s.gens) (d':=s.drawn) (ch:=[a]) (λb j=>?_) (λb o _ _ d e _=>k b o (λz=>d (by simp[z])) e) (λb o _ _ d e _=>⟨o.slots,k b o (λz=>d (by simp[z])) e⟩) (λ_ _ _ _ n=>n)
  (λb o d e=>⟨o,k b o (λz=>d (by simp[z])) e⟩) (λ_ _ e=>e) (λ_ _ _ e=>e) (λb m e=>⟨#[],by rw[e];simp⟩) (λm v=>?_) (λb u e=>?_) I.bare
 ·have e:b=a:=by simpa using j
  subst e;exact⟨l,g,r,t⟩
 ·obtain⟨o,a,j,l,r⟩:=v;exact⟨o,a,j,k _ o (Ne.symm g) l,r⟩
 ·calc(I.aO b u e).aG (λc v d q=>k c v ?_ q) (λ_ q=>q) λ_ _ q=>q;rcases d with z | z
  ·rw[z];exact i b u e
  ·calc i c _ z
theorem Inv.tok(I:Inv X pins σ H s)(t:Nat):Inv X pins σ H {s with toks:=t}:=I.un (h':=s.heap) (t':=t) Un.refl I.aO
theorem Inv.kept(I:Inv X pins σ H s)(k:∀b u,s.heap.get? b=some u->h'.get? b=some u):Inv X pins σ H {s with heap:=h',toks:=t'}:=I.un (Un.kept k) (I.aO.kept k)
theorem Inv.laid{a:Addr}{o:HO}(I:Inv X pins σ H s)(k:∀b u,s.heap.get? b=some u->h'.get? b=some u)(c:s.heap.objs.size<=a)(d:cg X.prog X.w (upd H a o) h' a o):
  Inv X pins σ (upd H a o) {s with heap:=h',toks:=t'}:=I.un (Un.laid k c (I.aO.fresh c)) (I.aO.laid k c d)
theorem Inv.write{x e:Addr}{o:HO}(I:Inv X pins σ H s)(c:SM (H x))(d:e=x\/H e=some (.own x))(k:∀b u,b≠e->s.heap.get? b=some u->h'.get? b=some u)(f:∃u,h'.get? e=some u)
  (a:cg X.prog X.w (upd H x o) h' x o):Inv X pins σ (upd H x o) {s with heap:=h',toks:=t'}:=I.un (Un.write c d k f) (I.aO.write c d k f a)
theorem Inv.vg{a:List (Addr×Obj)}(I:Inv X pins σ H s)(h:∀p∈a,s.heap.get? p.1=some p.2/\H p.1=none/\p.1≠X.env.locals/\p.1∉X.fs/\∀v,p.2.data≠.cell v):Inv X a σ H s:=
 ⟨I.ok,I.os,I.bare,I.base,I.loc,I.cell,I.free,I.j1,λp a=>(List.mem_append.mp a).elim (λz=>I.pin p (List.mem_append_left _ z)) (h p),I.aO,I.len⟩
theorem wN{N:List Str}(c:N.Nodup){i j:Nat}{x:Str}(a:N[i]?=some x)(b:N[j]?=some x):i=j:=by
 obtain⟨e,d⟩:=List.getElem?_eq_some_iff.mp a;obtain⟨g,e⟩:=List.getElem?_eq_some_iff.mp b;calc(List.getElem_inj c).mp (d.trans e.symm)
theorem Cw{M:Model}{i:Nat}{x:Str}{v:V}{u:Value}{Q:Unit->Shared->Prop}(I:Inv X pins σ H s)(hN:X.N.Nodup)(O:X.N[i]?=some x)(C:Loc X.env.scope x)(r:RelV v u)
  (h:∀s',Inv X pins (σ.set i (some v)) H s'->(∃a,Heap.SameBut a s.heap s'.heap/\(a=X.env.locals\/X.env.cells.lookup x=some a))->Q ⟨⟩ s') (hf:X.fn x=true\/X.env.scope.names.lookup x=some .local:=by grind):wpAny M A (storeName X.env x u) Q E s:=by
 obtain⟨m,T,hl⟩:=id I.loc;have YN:(X.env.scope.kind == .class||(X.env.scope.kind == .module&&X.env.locals !=X.env.globals))=false:=by rw[I.ok.kind];rfl
 have G:i<σ.length:=by rw[I.len];exact(List.getElem?_eq_some_iff.mp O).1
 have U:=I.NJ;have l:∀{a:Addr} {h':Heap},(∃o,s.heap.get? a=some o/\H a=none)->Heap.SameBut a s.heap h'->lZ X.prog X.w H h':=λ{a h'} v g b M e=>by
  obtain⟨_,_,LZ⟩:=v;calc(I.aO b M e).aG (λc P B q=>(g.2 c ?_).trans q) (λ_ q=>q) λ_ _ q=>q;rintro rfl;rcases B with rfl|B
  ·rw[LZ]at e;cases e
  ·rw[LZ]at B;cases B
 rcases C with J|J
 ·calc wpAny_storeName_local J T (λh' a g=>?_) YN;obtain⟨M,_,_,v,_⟩:=id T;refine h _ ⟨I.ok,I.os,I.bare,⟨λb o e n K C=>?_,λb o e n K C=>?_,I.base.free,λb o e C=>?_,I.base.aM,I.base.qp,I.base.vd⟩,⟨_,a,λj y W t F Y=>?_⟩,λy c e=>?_,I.free,I.j1,λp Z=>?_,l ⟨M,v,I.free⟩ g,by simpa using I.len⟩ ⟨_,g,.inl rfl⟩
  ·exact(g.2 b (aaa (V' (U' e) I.ok.above))).trans (I.base.keep b o e n K C)
  ·obtain⟨sl,t⟩:=I.base.slot b o e n K C;exact⟨sl,(g.2 b (aaa (V' (U' e) I.ok.above))).trans t⟩
  ·obtain⟨o',t⟩:=I.base.there b o e C;exact⟨o',(g.2 b (aaa (V' (U' e) I.ok.above))).trans t⟩
  ·by_cases L:j=i
   ·subst L;rw[O] at t;cases t;rw[List.getElem?_set_self G] at F
    cases F;exact⟨u,r,.inl ⟨J,nofun⟩⟩
   ·rw[List.getElem?_set_ne (Ne.symm L)] at F;obtain⟨u',r',q⟩:=hl j y W t F Y;calc⟨u',r',?_⟩;rcases q with⟨k,e⟩ | ⟨k,c,e,z⟩
    ·calc .inl ⟨k,?_⟩;have:y≠x:=λe=>L (wN hN t (e▸O));simp[this,e]
    ·exact .inr ⟨k,c,e,z.sameBut g (U y c e)⟩
  ·obtain⟨P,z⟩:=I.cell y c e;exact⟨P,z.sameBut g (U y c e)⟩
  ·obtain⟨e,n,R,nf,d⟩:=I.pin p Z;exact⟨(g.2 p.1 R).trans e,n,R,nf,d⟩
 ·have JB:X.fn x=true:=by
   rcases hf with z|z
   ·exact z
   ·rw[z]at J;cases J
  obtain⟨c,B⟩:=I.ok.has x (.inl J);obtain⟨P,z⟩:=I.cell x c B;calc wpAny_storeName_cell I.ok.kind J B z (λh' L0 g=>?_);obtain⟨oc,Xw,YO⟩:=id z;refine h {s with heap:=h'} ⟨I.ok,I.os,I.bare,⟨λb o e n K C=>?_,λb o e n K C=>?_,I.base.free,λb o e C=>?_,I.base.aM,I.base.qp,I.base.vd⟩,⟨m,T.sameBut g (Ne.symm (U x c B)),λj y W t F Y=>?_⟩,λy S e=>?_,I.free,I.j1,λp Z=>?_,l ⟨oc,Xw,I.j1 x c B⟩ g,by simpa using I.len⟩ ⟨c,g,.inr B⟩
  ·exact(g.2 b (aaa (V' (U' e) (I.ok.Rm x c JB B)))).trans (I.base.keep b o e n K C)
  ·obtain⟨sl,t⟩:=I.base.slot b o e n K C;exact⟨sl,(g.2 b (aaa (V' (U' e) (I.ok.Rm x c JB B)))).trans t⟩
  ·obtain⟨o',t⟩:=I.base.there b o e C;exact⟨o',(g.2 b (aaa (V' (U' e) (I.ok.Rm x c JB B)))).trans t⟩
  ·by_cases L:j=i
   ·subst L;rw[O] at t;cases t;rw[List.getElem?_set_self G] at F
    cases F;exact⟨u,r,.inr ⟨.inl J,c,B,L0⟩⟩
   ·rw[List.getElem?_set_ne (Ne.symm L)] at F;obtain⟨u',r',q⟩:=hl j y W t F Y;calc⟨u',r',?_⟩;rcases q with q | ⟨k,S,e,z'⟩
    ·exact .inl q
    ·calc .inr ⟨k,S,e,z'.sameBut g ?_⟩;rintro rfl;exact L (wN hN t (I.ok.inj _ _ _ e B▸O))
  ·by_cases Rn:S=c
   ·subst Rn;exact⟨_,L0⟩
   ·obtain⟨a,b⟩:=I.cell y S e;exact⟨a,b.sameBut g Rn⟩
  ·obtain⟨e,n,R,nf,d⟩:=I.pin p Z;calc⟨(g.2 p.1 ?_).trans e,n,R,nf,d⟩;intro q;rw[q,Xw]at e;have a:oc=p.2:=Option.some.inj e;calc d P (by rw[<-a];calc YO)
theorem nj{M:Model}{i:Nat}{x:Str}{v:V}{u:Value}{Q:Unit->Shared->Prop}(I:Inv X pins σ H s)(a:X.N.Nodup)(b:X.N[i]?=some x)(c:Loc X.env.scope x)(r:RelV v u)
  (h:∀s',Inv X pins (σ.set i (some v)) H s'->Q ⟨⟩ s') (d:X.fn x=true\/X.env.scope.names.lookup x=some .local:=by grind):wpAny M A (storeName X.env x u) Q E s:=
 Cw I a b c r (λs' e _=>h s' e) d
theorem Inv.SU{s':Shared}(I:Inv X pins σ H s)(f:s'.os=s.os)(u:Un (Ct X.stack) ch H H' s.heap s'.heap)(g:lZ X.prog X.w H' s'.heap)(h:AllBare s'.gens)
  (i:∀b∈ch,(b∈X.ex\/X.s₀.heap.objs.size<=b)/\b≠X.env.locals/\(∀x c,X.env.cells.lookup x=some c->c≠b)/\∀p∈X.pn++pins,p.1≠b):Inv X pins σ H' s':=by
 obtain⟨h',a,d,t',b⟩:=s';have e:b=s.os:=f;subst e;calc I.call (g':=a) (t':=t') (d':=d) u g h i
end
abbrev XK:=Value->Option Addr->Hp->Prop
abbrev St:=List (Option V)
abbrev VK:=V->Hp->Prop
abbrev TE:=St->Hp->VK->Prop
abbrev TT:=St->Hp->(Bool->Hp->Prop)->Prop
abbrev TA:=St->Hp->(List V->Hp->Prop)->Prop
structure Ends where
 nx:St->Hp->Prop
 rt:VK
 bk:St->Hp->Prop:=λ_ _=>False
 ct:St->Hp->Prop:=λ_ _=>False
abbrev TS:=Ends->St->Hp->Prop
def EP(X:Cx)(pins:List (Addr×Obj))(σ:St)(Q:VK)(u:Value)(s':Shared):Prop:=∃v a,Inv X pins σ a s'/\RelV v u/\Q v a
def TP(X:Cx)(pins:List (Addr×Obj))(σ:St)(Q:Bool->Hp->Prop)(b:Bool)(s':Shared):Prop:=∃a,Inv X pins σ a s'/\Q b a
def AP(X:Cx)(pins:List (Addr×Obj))(σ:St)(Q:List V->Hp->Prop)(us:List Value)(s':Shared):Prop:=∃vs a,Inv X pins σ a s'/\Vals vs us/\Q vs a
def SP(X:Cx)(pins:List (Addr×Obj))(D:Ends)(f:Flow)(s':Shared):Prop:=
 match f with
 | .next=>∃a b,Inv X pins a b s'/\D.nx a b
 | .brk=>∃a b,Inv X pins a b s'/\D.bk a b
 | .cont=>∃a b,Inv X pins a b s'/\D.ct a b
 | .ret u=>∃v a b,Inv X pins a b s'/\RelV v u/\D.rt v b
structure PE(X:Cx)(e:Expr)(t:TE):Prop where
 out:
  ∀(pins:List (Addr×Obj)) (s:Shared) (σ:St) (H:Hp) (Q:VK),Inv X pins σ H s->t σ H Q->wpAny (model X.prog X.w) X.A (eval e X.env) (EP X pins σ Q) X.xe s
instance {X:Cx}{e:Expr}{t:TE}:CoeFun (PE X e t) λ_=>
 ∀(pins:List (Addr×Obj)) (s:Shared) (σ:St) (H:Hp) (Q:VK),Inv X pins σ H s->t σ H Q->wpAny (model X.prog X.w) X.A (eval e X.env) (EP X pins σ Q) X.xe s:=⟨PE.out⟩
structure PT(X:Cx)(e:Expr)(t:TT):Prop where
 out:
  ∀(pins:List (Addr×Obj)) (s:Shared) (σ:St) (H:Hp) (Q:Bool->Hp->Prop),Inv X pins σ H s->t σ H Q->wpAny (model X.prog X.w) X.A (isTrue e X.env (eval e X.env)) (TP X pins σ Q) X.xe s
instance {X:Cx}{e:Expr}{t:TT}:CoeFun (PT X e t) λ_=>
 ∀(pins:List (Addr×Obj)) (s:Shared) (σ:St) (H:Hp) (Q:Bool->Hp->Prop),Inv X pins σ H s->t σ H Q->wpAny (model X.prog X.w) X.A (isTrue e X.env (eval e X.env)) (TP X pins σ Q) X.xe s:=⟨PT.out⟩
structure PW(X:Cx)(e:Expr)(t:TT):Prop where
 out:
  ∀(whole:Sem Value) (pins:List (Addr×Obj)) (s:Shared) (σ:St) (H:Hp) (Q:Bool->Hp->Prop),Inv X pins σ H s->t σ H Q->wpAny (model X.prog X.w) X.A (isTrue e X.env whole) (TP X pins σ Q) X.xe s
instance {X:Cx}{e:Expr}{t:TT}:CoeFun (PW X e t) λ_=>
 ∀(a:Sem Value) (pins:List (Addr×Obj)) (s:Shared) (σ:St) (H:Hp) (Q:Bool->Hp->Prop),Inv X pins σ H s->t σ H Q->wpAny (model X.prog X.w) X.A (isTrue e X.env a) (TP X pins σ Q) X.xe s:=⟨PW.out⟩
theorem PW.pt{X:Cx}{e:Expr}{t:TT}(h:PW X e t):PT X e t:=⟨h.out _⟩
structure PA(X:Cx)(es:List Expr)(t:TA):Prop where
 out:
  ∀(pos:Pos) (pins:List (Addr×Obj)) (s:Shared) (σ:St) (H:Hp) (Q:List V->Hp->Prop),Inv X pins σ H s->t σ H Q->wpAny (model X.prog X.w) X.A (spliced (backTo pos (starEach es X.env))) (AP X pins σ Q) X.xe s
instance {X:Cx}{es:List Expr}{t:TA}:CoeFun (PA X es t) λ_=>
 ∀(a:Pos) (pins:List (Addr×Obj)) (s:Shared) (σ:St) (H:Hp) (Q:List V->Hp->Prop),Inv X pins σ H s->t σ H Q->wpAny (model X.prog X.w) X.A (spliced (backTo a (starEach es X.env))) (AP X pins σ Q) X.xe s:=⟨PA.out⟩
structure PS(X:Cx)(st:Stmt)(t:TS):Prop where
 out:
  ∀(pins:List (Addr×Obj)) (s:Shared) (σ:St) (H:Hp) (D:Ends),Inv X pins σ H s->t D σ H->wpAny (model X.prog X.w) X.A (exec st X.env) (SP X pins D) X.xe s
instance {X:Cx}{a:Stmt}{t:TS}:CoeFun (PS X a t) λ_=>
 ∀(pins:List (Addr×Obj)) (s:Shared) (σ:St) (H:Hp) (D:Ends),Inv X pins σ H s->t D σ H->wpAny (model X.prog X.w) X.A (exec a X.env) (SP X pins D) X.xe s:=⟨PS.out⟩
structure wA(X:Cx)(st:List Stmt)(t:TS):Prop where
 out:
  ∀(pins:List (Addr×Obj)) (s:Shared) (σ:St) (H:Hp) (D:Ends),Inv X pins σ H s->t D σ H->wpAny (model X.prog X.w) X.A (execs st X.env) (SP X pins D) X.xe s
instance {X:Cx}{a:List Stmt}{t:TS}:CoeFun (wA X a t) λ_=>
 ∀(pins:List (Addr×Obj)) (s:Shared) (σ:St) (H:Hp) (D:Ends),Inv X pins σ H s->t D σ H->wpAny (model X.prog X.w) X.A (execs a X.env) (SP X pins D) X.xe s:=⟨wA.out⟩
theorem cO{α:Type}{t:Sem α}{Q b:α->Shared->Prop}{M:Model}{s:Shared}(h:wpAny M A t Q E s)(c:∀a s,Q a s->b a s):wpAny M A t b E s:=aak h c λ_ _ x=>x
end
section
variable {pins:List (Addr×Obj)}{pos:Pos}{σ:St}{x:Str}{u:Value}{E Q:Value->Shared->Prop}
section
variable {X:Cx}
def Ey(i:Nat):TE:=λσ H Q=>∃v,σ[i]?=some (some v)/\Q v H
def tC(v:V):TE:=λ_ H Q=>Q v H
theorem Ez{i:Nat}(c:X.N[i]?=some x)(j:SO X.env.scope x)(d:(x==("__debug__":Str))=false:=by decide)(k:(x==("__classdict__":Str))=false:=by decide):PE X (.Name x pos) (Ey i):=by
 walk_at "xc";obtain⟨v,e,h⟩:=h;obtain⟨m,n,o⟩:=I.loc;obtain⟨u,r,l⟩:=o i x v c e j;have a:EP X pins σ Q u s:=⟨v,H,I,r,h⟩
 rcases l with⟨b,e⟩|⟨b,c,f,g⟩
 ·exact wpAny_Name (wpAny_loadName_local I.ok.kind b n e a) d
 ·rcases b with b | b
  ·exact wpAny_Name (wpAny_loadName_cell I.ok.kind b f g a) d
  ·calc wpAny_Name (wpAny_loadName_free I.ok.kind b f g a k) d
theorem ai{i j pos}:PE X (.Constant (.int i) j pos) (tC (.int i)):=.mk λ_ _ _ H _ I h=>wpAny_Constant_int ⟨.int i,H,I.tok _,⟨_,rfl⟩,h⟩
theorem je{b j pos}:PE X (.Constant (.bool b) j pos) (tC (.bl b)):=.mk λ_ _ _ H _ I h=>Constant_bool ⟨.bl b,H,I,rfl,h⟩
theorem kg{j pos}:PE X (.Constant .none j pos) (tC .bC):=.mk λ_ _ _ H _ I h=>Constant_none ⟨.bC,H,I,rfl,h⟩
theorem aC{x j pos}:PE X (.Constant (.str x) j pos) (tC (.str x)):=.mk λ_ _ _ H _ I h=>Calls.Constant_str ⟨.str x,H,I.tok _,⟨_,rfl⟩,h⟩
def Gl(X:Cx)(x:Str):Prop:=X.env.kindOf x=some .globalImplicit
theorem qK{s:Shared}{H:Hp}(I:Inv X pins σ H s)(a:Gl X x)(b:X.mg x=some u)(h:Q u s)
  (c:(x==("__debug__":Str))=false:=by decide):wpAny (model X.prog X.w) X.A (eval (.Name x pos) X.env) Q E s:=
 Calls.Name_function_global I.ok.kind a (Calls.loadGlobal_global (by rw[I.ok.glob];calc I.mod.glob.keeps I.bk) b h) c
theorem oM{s:Shared}{H:Hp}(I:Inv X pins σ H s)(a:Gl X x)(b:X.mg x=none)(c:bootBuiltins x=some u)(h:Q u s)
  (d:x≠"__name__":=by decide) (e:(x==("__debug__":Str))=false:=by decide):wpAny (model X.prog X.w) X.A (eval (.Name x pos) X.env) Q E s:=by
 obtain⟨i,f,g⟩:=I.mod.blt;calc Calls.Name_function_global I.ok.kind a (Calls.loadGlobal_builtin (by rw[I.ok.glob];calc I.mod.glob.keeps I.bk) b (by rw[I.ok.blt];calc f.keeps I.bk) ((g x d).trans c) h) e
theorem Ax{v:V}(a:Gl X x)(b:X.mg x=some u)(r:RelV v u)(c:(x==("__debug__":Str))=false:=by decide):PE X (.Name x pos) (tC v):=
 .mk λ_ _ _ H _ I h=>qK I a b ⟨v,H,I,r,h⟩ c
theorem cV{v:V}(a:Gl X x)(b:X.mg x=none)(c:bootBuiltins x=some u)(r:RelV v u)(d:x≠"__name__":=by decide)(e:(x==("__debug__":Str))=false:=by decide):PE X (.Name x pos) (tC v):=
 .mk λ_ _ _ H _ I h=>oM I a b c ⟨v,H,I,r,h⟩ d e
variable {a b:Expr}{ta tb:TE}{pos:Pos}
structure PC(X:Cx)(op:CmpOp)(a b:Expr)(t:TE):Prop where
 out:
  ∀(pins:List (Addr×Obj)) (s:Shared) (σ:St) (H:Hp) (Q:VK),Inv X pins σ H s->t σ H Q->
   wpAny (model X.prog X.w) X.A (eval a X.env) (λv s₁=>wpAny (model X.prog X.w) X.A (eval b X.env) (λu s₂=>wpAny (model X.prog X.w) X.A (compareOp op v u) (EP X pins σ Q) X.xe s₂) X.xe s₁) X.xe s
instance {X:Cx}{e:CmpOp}{a b:Expr}{t:TE}:CoeFun (PC X e a b t) λ_=>
 ∀(pins:List (Addr×Obj)) (s:Shared) (σ:St) (H:Hp) (Q:VK),Inv X pins σ H s->t σ H Q->
  wpAny (model X.prog X.w) X.A (eval a X.env) (λv c=>wpAny (model X.prog X.w) X.A (eval b X.env) (λu d=>wpAny (model X.prog X.w) X.A (compareOp e v u) (EP X pins σ Q) X.xe d) X.xe c) X.xe s:=⟨PC.out⟩
theorem EA(b:Expr){a:CmpOp}(h:a≠.In)(c:a≠.NotIn):behindInMarks a b=false:=by
 have d:(a==CmpOp.In)=false:=by cases a<;>first|rfl|exact absurd rfl h
 have e:(a==CmpOp.NotIn)=false:=by cases a<;>first|rfl|exact absurd rfl c
 cases b<;>simp[behindInMarks,d,e]
def tB(t:TE):TT:=λσ H Q=>t σ H λx a=>∃c,x=.bl c/\Q c a
theorem NL{c:CmpOp}{t:TE}(h:PC X c a b t)(e:behindInMarks c b=false:=by first|calc EA _ ∅ ∅|rfl):PT X (.Compare a [c] [b] pos) (tB t):=by
 calc⟨?_⟩;intro pins s σ H Q I c;calc wpAny_isTrue_Compare1 (cO (h pins s σ H _ I c) λv f e=>cO e λu c f=>cO f λc h g=>?_) e;obtain⟨x,i,j,k,l⟩:=g;obtain⟨d,rfl,q⟩:=l
 cases k;calc aaG ⟨i,j,q⟩
theorem NM{e:Expr}{t:TE}(h:PE X e t)(b:∀a,isTrue e X.env a=(do let v <-a;standAt e.pos;holding [v] (truthy v)):=by intro _;rfl):PT X e (tB t):=by
 calc⟨?_⟩;intro pins s σ H Q I a;calc isTrue_plain (cO (h pins s σ H _ I a) λv e c=>?_) (b _);obtain⟨x,f,g,i,j⟩:=c;obtain⟨d,rfl,q⟩:=j
 cases i;calc aaG ⟨f,g,q⟩
variable {tA Xx:TT}{rest:List Expr}
def NN(t u:TT):TT:=λσ H Q=>t σ H λc a=>if c=true then u σ a Q else Q false a
def YQ(t u:TT):TT:=λσ H Q=>t σ H λc a=>if c=true then Q true a else u σ a Q
def NO(t:TT):TT:=λσ H Q=>t σ H λc a=>Q (!c) a
theorem pw_and1(b:PT X a tA):PW X (.BoolOp .And [a] pos) tA:=by
 calc⟨?_⟩;intro d pins s σ H Q I h;refine isTrue_and (cO (b pins s σ H Q I h) λc f e=>?_)
 cases c with
 |true=>calc isTrue_and_nil e
 |false=>calc e
theorem pw_or1(b:PT X a tA):PW X (.BoolOp .Or [a] pos) tA:=by
 calc⟨?_⟩;intro d pins s σ H Q I h;refine isTrue_or (cO (b pins s σ H Q I h) λc f e=>?_)
 cases c with
 |false=>calc isTrue_or_nil e
 |true=>calc e
theorem pw_and(g:PT X a tA)(i:PW X (.BoolOp .And (b::rest) pos) Xx):PW X (.BoolOp .And (a::b::rest) pos) (NN tA Xx):=by
 calc⟨?_⟩;intro j pins s σ H Q I h;calc isTrue_and (cO (g pins s σ H _ I h) λc k l=>?_);obtain⟨d,e,f⟩:=l
 cases c with
 |true=>calc i j pins k σ d Q e f
 |false=>calc⟨d,e,f⟩
theorem pw_or(g:PT X a tA)(i:PW X (.BoolOp .Or (b::rest) pos) Xx):PW X (.BoolOp .Or (a::b::rest) pos) (YQ tA Xx):=by
 calc⟨?_⟩;intro j pins s σ H Q I h;calc isTrue_or (cO (g pins s σ H _ I h) λc k l=>?_);obtain⟨d,e,f⟩:=l
 cases c with
 |true=>calc⟨d,e,f⟩
 |false=>calc i j pins k σ d Q e f
theorem cb(b:PT X a tA):PT X (.UnaryOp .Not a pos) (NO tA):=by
 walk_at "xc";exact isTrue_not (b pins s σ H (λc d=>Q (!c) d) I h)
def EB(ta tb:TE):TE:=λσ H Q=>ta σ H λx a=>∃c,x=.bl c/\if c=true then tb σ a Q else Q (.bl false) a
def NP(ta tb:TE):TE:=λσ H Q=>ta σ H λx a=>∃c,x=.bl c/\if c=true then Q (.bl true) a else tb σ a Q
def EC(ta:TE):TE:=λσ H Q=>ta σ H λx a=>∃c,x=.bl c/\Q (.bl (!c)) a
theorem iH{op}{t:TE}(h:PE X a t):PE X (.BoolOp op [a] pos) t:=.mk λpins s σ H Q I b=>BoolOp_one (h pins s σ H Q I b)
theorem iI(g:PE X a ta)(i:PE X (.BoolOp .And (b::rest) pos) tb):PE X (.BoolOp .And (a::b::rest) pos) (EB ta tb):=by
 walk_at "xc";refine BoolOp_and (cO (g pins s σ H _ I h) λv j k=>?_);obtain⟨x,e,f,l,d⟩:=k;obtain⟨c,rfl,d⟩:=d
 cases l;refine aaG ?_
 cases c with
 |true=>calc i pins j σ e Q f d
 |false=>calc⟨.bl false,e,f,rfl,d⟩
theorem SV(g:PE X a ta)(i:PE X (.BoolOp .Or (b::rest) pos) tb):PE X (.BoolOp .Or (a::b::rest) pos) (NP ta tb):=by
 walk_at "xc";refine BoolOp_or (cO (g pins s σ H _ I h) λv j k=>?_);obtain⟨x,e,f,l,d⟩:=k;obtain⟨c,rfl,d⟩:=d
 cases l;refine aaG ?_
 cases c with
 |false=>calc i pins j σ e Q f d
 |true=>calc⟨.bl true,e,f,rfl,d⟩
theorem yS(d:PE X a ta):PE X (.UnaryOp .Not a pos) (EC ta):=by
 walk_at "xc";refine UnaryOp_ (cO (d pins s σ H _ I h) λv j e=>?_);obtain⟨x,f,g,i,b⟩:=e;obtain⟨c,rfl,b⟩:=b
 cases i;calc not_of (aaG ⟨.bl (!c),f,g,rfl,b⟩)
def YR(t:TT)(ta tb:TE):TE:=λσ H Q=>t σ H λc a=>if c=true then ta σ a Q else tb σ a Q
theorem ED{c:Expr}(j:PT X c tA)(k:PE X a ta)(l:PE X b tb):PE X (.IfExp c a b pos) (YR tA ta tb):=by
 walk_at "xc";refine wpAny_IfExp (cO (j pins s σ H _ I h) λd e c=>?_);obtain⟨f,g,i⟩:=c
 cases d with
 |true=>calc k pins e σ f Q g i
 |false=>calc l pins e σ f Q g i
end
end
section
variable {X:Cx}{e tg:Expr}{pins:List (Addr×Obj)}{i:Nat}{σ:St}{x:Str}{te:TE}{K:W.Frag}
def aP(K:W.Frag)(H:Hp)(a:Addr)(xs:List V):Prop:=
 Rd H a (.lst xs)\/
  ∃(o:Obj) (b:Array Value) (n:Nat),K.lookup a=some o/\o.cls=.type "list"/\o.dict=none/\o.data=.seq b n/\b.size<=sizeLine/\Vals xs b.toList
def bz(K:W.Frag)(H:Hp)(a:Addr)(xs:List V):Prop:=
 Rd H a (.tup xs)\/
  ∃(o:Obj) (b:Array Value) (n:Nat),K.lookup a=some o/\o.cls=.type "tuple"/\o.data=.seq b n/\b.size<=sizeLine/\Vals xs b.toList
def YS:Value->Option V
 | .none=>some .bC
 | .bool b=>some (.bl b)
 | .int i _=>some (.int i)
 | .str x _=>some (.str x)
 | .bytes b _=>some (.Au b)
 | .float b _=>some (.LV b)
 | .ref a=>some (.ref a)
 | .type n=>some (.ty n)
 |_=>none
theorem RelV.abs{x:V}{u:Value}(r:RelV x u):YS u=some x:=by
 cases x with
 |bC=>cases r;rfl
 |bl _=>cases r;rfl
 |int _=>obtain⟨t,rfl⟩:=r;rfl
 |str _=>obtain⟨t,rfl⟩:=r;rfl
 |Au _=>obtain⟨t,rfl⟩:=r;rfl
 |LV _=>obtain⟨t,rfl⟩:=r;rfl
 |ref _=>cases r;rfl
 |ty _=>cases r;rfl
theorem RelV.inj{x y:V}{u:Value}(r:RelV x u)(q:RelV y u):x=y:=Option.some.inj (r.abs.symm.trans q.abs)
theorem Vals.inj:∀{xs a:List V}{us:List Value},Vals xs us->Vals a us->xs=a
 |_,_,_,.nil,.nil=>rfl
 |_,_,_,.cons r t,.cons a b=>by rw[r.inj a,Vals.inj t b]
section
variable {X:Cx}{pins:List (Addr×Obj)}{σ:St}{H:Hp}{s:Shared}{a:Addr}{xs ys:List V}
theorem aP.of(h:H a=some (.lst xs)):aP K H a xs:=.inl (.inl h)
theorem bz.of(h:H a=some (.tup xs)):bz K H a xs:=.inl (.inl h)
theorem Inv.list(I:Inv X pins σ H s)(h:aP X.K H a xs):∃b:List Value,Vals xs b/\PlainL s.heap a b.toArray/\xs.length<=sizeLine:=by
 rcases h with h|⟨o,b,n,c,d,f,g,i,r⟩
 ·obtain⟨z,b,n,r,e⟩:=h.ok I.aO;exact⟨b,r,⟨_,n,e,rfl,rfl,rfl⟩,z⟩
 ·calc⟨b.toList,r,⟨o,n,I.j2 a o c,d,f,by simpa using g⟩,?_⟩;have e:=r.length;simp only[Array.length_toList]at e;lia
theorem Inv.tuple(I:Inv X pins σ H s)(h:bz X.K H a xs):∃b:List Value,Vals xs b/\IsTup s.heap a b.toArray/\xs.length<=sizeLine:=by
 rcases h with h|⟨o,b,n,c,d,f,g,r⟩
 ·obtain⟨z,b,r,p⟩:=h.ok I.aO;exact⟨b,r,p,z⟩
 ·calc⟨b.toList,r,⟨o,I.j2 a o c,d,n,by simpa using f⟩,?_⟩;have e:=r.length;simp only[Array.length_toList]at e;lia
theorem Inv.wO(I:Inv X pins σ H s)(h:aP X.K H a xs)(h':aP X.K H a ys):xs=ys:=by
 obtain⟨f,r,⟨o,n,e,_,_,d⟩,_⟩:=I.list h;obtain⟨g,i,⟨j,k,b,_,_,c⟩,_⟩:=I.list h';rw[e]at b;cases b;rw[d]at c;injection c with h _
 have:f=g:=by simpa using congrArg Array.toList h
 subst this;calc r.inj i
theorem Inv.uf(I:Inv X pins σ H s)(h:bz X.K H a xs)(h':bz X.K H a ys):xs=ys:=by
 obtain⟨f,r,⟨o,e,_,n,d⟩,_⟩:=I.tuple h;obtain⟨g,i,⟨j,b,_,k,c⟩,_⟩:=I.tuple h';rw[e]at b;cases b;rw[d]at c;injection c with h _
 have:f=g:=by simpa using congrArg Array.toList h
 subst this;calc r.inj i
end
abbrev Cx.tj(X:Cx)(E:Value->Shared->Prop):Cx:={X with xe:=E}
abbrev Cx.JC(X:Cx):Cx:=X.tj λ_ _=>False
theorem Cx.Ok.tj(a:X.Ok)(E:Value->Shared->Prop):(X.tj E).Ok:=
 ⟨a.mod,a.kind,a.glob,a.blt,a.above,a.inj,a.has,a.Rm,a.hd,a.frames,a.SQ,a.Xu,a.bs,a.Ex,a.yQ,a.Cu,a.oK,a.LW⟩
theorem Cx.Ok.kh{E:Value->Shared->Prop}(a:(X.tj E).Ok):X.Ok:=
 ⟨a.mod,a.kind,a.glob,a.blt,a.above,a.inj,a.has,a.Rm,a.hd,a.frames,a.SQ,a.Xu,a.bs,a.Ex,a.yQ,a.Cu,a.oK,a.LW⟩
section
variable {X:Cx}{pins:List (Addr×Obj)}{σ:St}{H:Hp}{s:Shared}{E:Value->Shared->Prop}
theorem Inv.tj(I:Inv X pins σ H s)(E:Value->Shared->Prop):Inv (X.tj E) pins σ H s:=⟨I.ok.tj E,I.os,I.bare,I.base,I.loc,I.cell,I.free,I.j1,I.pin,I.aO,I.len⟩
theorem Inv.kh(I:Inv (X.tj E) pins σ H s):Inv X pins σ H s:=⟨I.ok.kh,I.os,I.bare,I.base,I.loc,I.cell,I.free,I.j1,I.pin,I.aO,I.len⟩
theorem SP.kh{D:Ends}{f:Flow}{s':Shared}(h:SP (X.tj E) pins D f s'):SP X pins D f s':=by
 cases f with
 |next=>obtain⟨a,b,I,q⟩:=h;calc⟨a,b,I.kh,q⟩
 |brk=>obtain⟨a,b,I,q⟩:=h;calc⟨a,b,I.kh,q⟩
 |cont=>obtain⟨a,b,I,q⟩:=h;calc⟨a,b,I.kh,q⟩
 |ret u=>obtain⟨v,a,b,I,r,q⟩:=h;calc⟨v,a,b,I.kh,r,q⟩
theorem wA.JC{a:List Stmt}{t:TS}(h:wA X.JC a t):wA X a t:=.mk λpins s σ H D I a=>
 aak (h pins s σ H D (I.tj _) a) (λ_ _ q=>q.kh) λ_ _ z=>aaq z
end
section
variable {X:Cx}{st:Stmt}{rest:List Stmt}{t u:TS}{e:Expr}{te:TE}{pos:Pos}
def EE:TS:=λD σ H=>D.nx σ H
def yT(t u:TS):TS:=λD σ H=>t {D with nx:=u D} σ H
theorem aI:wA X [] EE:=.mk λ_ _ σ H _ I h=>wpAny_execs_nil ⟨σ,H,I,h⟩
theorem ag(a:PS X st t)(b:wA X rest u):wA X (st::rest) (yT t u):=by
 walk_at "xd";refine wpAny_execs_cons (cO (a pins s σ H {D with nx:=u D} I h) λf c q=>?_)
 cases f with
 |next=>
  obtain⟨a,d,e,q⟩:=q;calc b pins c a d D e q
 |ret v=>calc q
 |brk=>calc q
 |cont=>calc q
theorem ak(a:PS X st t):wA X [st] t:=by
 walk_at "xd";refine wpAny_execs_cons (cO (a pins s σ H D I h) λf b q=>?_)
 cases f with
 |next=>calc wpAny_execs_nil q
 |ret v=>calc q
 |brk=>calc q
 |cont=>calc q
theorem Inv.quiet{H:Hp}{s:Shared}(I:Inv X pins σ H s):interactive X.env=false:=by simp[interactive,I.ok.kind]
def Ay(te:TE):TS:=λD σ H=>te σ H λ_ a=>D.nx σ a
theorem JD(a:PE X e te)(b:swapsWith e none pos.line X.env=pure false:=by rfl):PS X (.Expr e pos) (Ay te):=by
 walk_at "xd";exact wpAny_Expr_any (cO (a pins s σ H _ I h) λv g ⟨x,c,d,i,f⟩=>⟨σ,c,d,f⟩) I.quiet b
def NQ(te:TE):TS:=λD σ H=>te σ H D.rt
theorem aE(a:PE X e te):PS X (.Return (some e) pos) (NQ te):=by
 walk_at "xd";exact wpAny_Return_some (cO (a pins s σ H _ I h) λv g ⟨x,b,c,d,f⟩=>⟨x,σ,b,c,d,f⟩)
def vh(c:TT)(t u:TS):TS:=λD σ H=>c σ H λb a=>if b=true then t D σ a else u D σ a
theorem aT{c:Expr}{a b:List Stmt}{e:TT}(k:PT X c e)(l:wA X a t)(m:wA X b u):PS X (.If c a b pos) (vh e t u):=by
 walk_at "xd";refine wpAny_If (cO (k pins s σ H _ I h) λd f a=>?_);obtain⟨g,i,j⟩:=a
 cases d with
 |true=>calc l pins f σ g D i j
 |false=>calc m pins f σ g D i j
def yU:TS:=λ_ _ _=>False
theorem cP:PS X st yU:=.mk λ_ _ _ _ _ _ h=>h.elim
end
abbrev TG:=V->St->Hp->(St->Hp->Prop)->Prop
abbrev L3:=List V->St->Hp->(St->Hp->Prop)->Prop
structure PG(X:Cx)(target:Expr)(t:TG):Prop where
 out:
  ∀(pins:List (Addr×Obj)) (s:Shared) (σ:St) (H:Hp) (v:V) (u:Value) (Q:St->Hp->Prop),Inv X pins σ H s->RelV v u->t v σ H Q->
   wpAny (model X.prog X.w) X.A (assign target X.env u) (λ_ s'=>∃σ' H',Inv X pins σ' H' s'/\Q σ' H') X.xe s
instance {X:Cx}{a:Expr}{t:TG}:CoeFun (PG X a t) λ_=>
 ∀(pins:List (Addr×Obj)) (s:Shared) (σ:St) (H:Hp) (v:V) (u:Value) (Q:St->Hp->Prop),Inv X pins σ H s->RelV v u->t v σ H Q->
  wpAny (model X.prog X.w) X.A (assign a X.env u) (λ_ s'=>∃a b,Inv X pins a b s'/\Q a b) X.xe s:=⟨PG.out⟩
structure Ro(X:Cx)(ts:List Expr)(t:L3):Prop where
 out:
  ∀(pins:List (Addr×Obj)) (s:Shared) (σ:St) (H:Hp) (vs:List V) (us:List Value) (Q:St->Hp->Prop),Inv X pins σ H s->Vals vs us->t vs σ H Q->
   wpAny (model X.prog X.w) X.A (assignInOrder ((assignEach ts X.env).map (·.2)) us) (λ_ s'=>∃σ' H',Inv X pins σ' H' s'/\Q σ' H') X.xe s
instance {X:Cx}{a:List Expr}{t:L3}:CoeFun (Ro X a t) λ_=>
 ∀(pins:List (Addr×Obj)) (s:Shared) (σ:St) (H:Hp) (vs:List V) (us:List Value) (Q:St->Hp->Prop),Inv X pins σ H s->Vals vs us->t vs σ H Q->
  wpAny (model X.prog X.w) X.A (assignInOrder ((assignEach a X.env).map (·.2)) us) (λ_ s'=>∃a b,Inv X pins a b s'/\Q a b) X.xe s:=⟨Ro.out⟩
abbrev NR:=V->V->V->Hp->(Hp->Prop)->Prop
def NS(X:Cx)(t:NR):Prop:=
 ∀(pins:List (Addr×Obj)) (s:Shared) (σ:St) (H:Hp) (o i v:V) (a b u:Value) (Q:Hp->Prop),Inv X pins σ H s->RelV o a->RelV i b->RelV v u->t o i v H Q->
  wpAny (model X.prog X.w) X.A (setItem a b u) (λ_ s'=>∃a,Inv X pins σ a s'/\Q a) X.xe s
abbrev Xy:=V->V->Hp->VK->Prop
def PIp(X:Cx)(a:Operator)(t:Xy):Prop:=
 ∀(pins:List (Addr×Obj)) (s:Shared) (σ:St) (H:Hp) (x y:V) (v u:Value) (Q:VK),Inv X pins σ H s->RelV x v->RelV y u->t x y H Q->
  wpAny (model X.prog X.w) X.A (inplaceOp a v u) (EP X pins σ Q) X.xe s
section
variable {X:Cx}{pos:Pos}
def fL(i:Nat):TG:=λv σ H Q=>Q (σ.set i (some v)) H
theorem aQ(a:X.N.Nodup)(b:X.N[i]?=some x)(c:Loc X.env.scope x)(d:X.fn x=true\/X.env.scope.names.lookup x=some .local:=by grind):PG X (.Name x pos) (fL i):=by
 calc⟨?_⟩;intro pins s σ H v u Q I r h;calc wpAny_assign_Name (nj I a b c r (λf e=>⟨_,H,e,h⟩) d)
def EF:L3:=λvs σ H Q=>vs=[]/\Q σ H
def lO(t:TG)(u:L3):L3:=λvs σ H Q=>∃v r,vs=v::r/\t v σ H λa b=>u r a b Q
theorem vi:Ro X [] EF:=by
 calc⟨?_⟩;intro pins s σ H a b Q I r h;obtain⟨e,h⟩:=h;subst e
 cases r;calc assignInOrder_nil ⟨σ,H,I,h⟩
theorem gM{es:List Expr}{t:TG}{u:L3}(a:PG X e t)(b:Ro X es u)
  (c:(assignEach (e::es) X.env).map (·.2)=assign e X.env::(assignEach es X.env).map (·.2):=by rfl):Ro X (e::es) (lO t u):=by
 calc⟨?_⟩;intro pins s σ H f g Q I r h;obtain⟨v,i,d,h⟩:=h;subst d
 cases r with
 |cons r d=>
  rw[c];calc assignInOrder_cons (cO (a pins s σ H _ _ _ I r h) λ_ f g=>?_);obtain⟨a,c,h,i⟩:=g;calc b pins f a c _ _ Q h d i
def EG(K:W.Frag)(n:Nat)(t:L3):TG:=λv σ H Q=>∃a xs,v=.ref a/\bz K H a xs/\xs.length=n/\t xs σ H Q
theorem yV{es:List Expr}{k:Nat}{t:L3}{n:Nat}(b:X.calm=true)(h:Ro X es t)
  (d:(assignEach es X.env).length=n:=by rfl) (f:(assignEach es X.env).findIdx? (·.1)=none:=by rfl):PG X (.Tuple es k pos) (EG X.K n t):=by
 calc⟨?_⟩;intro pins s σ H v u Q I r c;obtain⟨a,g,i,j,l,c⟩:=c;subst i
 cases r;obtain⟨k,a,i,m⟩:=I.tuple j;calc assign_Tuple_tuple (I.ok.hd b) i (by simp[d,<-l,a.length]) f λk m=>?_;have d:Inv X pins σ H {s with heap:=k}:=I.kept (t':=s.toks) λb o e=>m b o (aaa (U' e)) e;calc h pins _ σ H g _ Q d (by simpa using a) c
def NU(a b:TE)(t:NR):TG:=λv σ H Q=>a σ H λo c=>b σ c λi a=>t o i v a λb=>Q σ b
theorem fO{o i:Expr}{c d:TE}{t:NR}(e:PE X o c)(f:PE X i d)(g:NS X t)
  (j:∀v,assign (.Subscript o i pos) X.env v=(do
   let a <-holding [v] (eval o X.env)
   let b <-holding [v,a] (eval i X.env)
   standAt pos
   holding [v,a,b] (setItem a b v)
   release [v,a,b] []):=by intro _;rfl):PG X (.Subscript o i pos) (NU c d t):=by
 calc⟨?_⟩;intro pins s σ H v u Q I r h;rw[j];calc E' (aaF (cO (e pins s σ H _ I h) λa d c=>?_));obtain⟨x,e,h,j,k⟩:=c;calc E' (aaF (cO (f pins d σ e _ h k) λb l c=>?_));obtain⟨y,d,e,f,h⟩:=c;calc E' (wpAny_standAt (E' (aaF (cO (g pins l σ d x y v a b u _ e j f r h) λ_ k c=>?_))));obtain⟨a,b,d⟩:=c;calc wpAny_release ⟨σ,a,b,d⟩
def Cy(te:TE)(g:TG):TS:=λD σ H=>te σ H λx a=>g x σ a D.nx
theorem dU{g:TG}(a:PE X e te)(b:PG X tg g)(c:swapsWithSole [tg] e pos.line X.env=pure false:=by rfl)(d:swappedStores [tg] e X.env=pure none:=by rfl)
  (f:(assignEach [tg] X.env).map (·.2)=[assign tg X.env]:=by rfl):PS X (.Assign [tg] e pos) (Cy te g):=by
 walk_at "xd";refine wpAny_Assign_stores (cO (a pins s σ H _ I h) λv g i=>?_) c d;obtain⟨x,a,j,k,l⟩:=i;rw[f];exact cO (b pins g σ a x v _ j k l) λ_ c q=>q
theorem EH{a:Pos}(b:X.N.Nodup)(c:X.N[i]?=some x)(d:Loc X.env.scope x)(f:PE X e te)(g:swapsWith e (some (.Name x a)) pos.line X.env=pure false:=by rfl)(j:X.fn x=true\/X.env.scope.names.lookup x=some .local:=by grind):
  PS X (.Assign [.Name x a] e pos) (Cy te (fL i)):=by
 walk_at "xd";refine wpAny_Assign_Name (cO (f pins s σ H _ I h) λv k a=>?_) g;obtain⟨y,f,k,l,m⟩:=a;exact nj k b c d l (λn g=>⟨_,f,g,m⟩) j
def NV(i:Nat)(te:TE)(a:Xy):TS:=λD σ H=>∃x,σ[i]?=some (some x)/\te σ H λy b=>a x y b λz c=>D.nx (σ.set i (some z)) c
theorem NW{d:Operator}{g:Xy}{b:Pos}(o:X.N.Nodup)(j:X.N[i]?=some x)(f:Loc X.env.scope x)(p:PE X e te)(q:PIp X d g)(t:X.fn x=true\/X.env.scope.names.lookup x=some .local:=by grind):
  PS X (.AugAssign (.Name x b) d e pos) (NV i te g):=by
 walk_at "xd";obtain⟨v,y,h⟩:=h;obtain⟨m,B,z⟩:=I.loc;have c:SO X.env.scope x:=by rcases f with k|k;exact .inl k;exact .inr (.inl k)
 obtain⟨u,r,l⟩:=z i x v j y c;calc wpAny_AugAssign_Name ?_;have n:wpAny (model X.prog X.w) X.A (eval e X.env) (λw b=>wpAny (model X.prog X.w) X.A (inplaceOp d u w) (λr c=>wpAny (model X.prog X.w) X.A (storeName X.env x r) (λ_=>SP X pins D .next) X.xe c) X.xe b) X.xe s:=by
  calc cO (p pins s σ H _ I h) λw c b=>?_;obtain⟨y,d,g,m,p⟩:=b;calc cO (q pins c σ d v y u w _ g r m p) λz F b=>?_;obtain⟨p,c,d,g,m⟩:=b;exact nj d o j f g (λq p=>⟨_,c,p,m⟩) t
 rcases l with⟨a,b⟩|⟨a,c,C,E⟩
 ·exact wpAny_loadName_local I.ok.kind a B b n
 ·rcases a with a | a
  ·exact wpAny_loadName_cell I.ok.kind a C E n
  ·rcases f with k | k
   ·have:X.env.scope.names.lookup x=some .free:=a;rw[k]at this;cases this
   ·have:X.env.scope.names.lookup x=some .free:=a;rw[k]at this;cases this
def YT(f:Int->Int->Int):Xy:=λx y H Q=>∃i j,x=.int i/\y=.int j/\Q (.int (f i j)) H
theorem NX:PIp X .Add (YT λi j=>i+j):=by
 intro pins s σ H x y v u Q I a b h;obtain⟨i,j,c,d,q⟩:=h;subst c;subst d;obtain⟨t,rfl⟩:=a;obtain⟨e,rfl⟩:=b;calc iadd_int ⟨.int _,H,I.tok _,⟨_,rfl⟩,q⟩
end
section
variable {X:Cx}{pos:Pos}
def vj(c:TT)(f:TS):TS:=λD σ H=>∃W:Nat->St->Hp->Prop,(∃m,W m σ H)/\∀m σ H,W m σ H->
 c σ H λb d=>if b=true then ∃N:St->Hp->Prop,(∀a c,N a c->∃e,e<m/\W e a c)/\f {D with nx:=N,ct:=N,bk:=D.nx} σ d else D.nx σ d
theorem EI{c:Expr}{a:List Stmt}{i:TT}{j:TS}(k:PassesOwn (model X.prog X.w) X.A X.env X.xe)(p:PT X c i)(q:wA X a j):PS X (.While c a [] pos) (vj i j):=by
 walk_at "xd";obtain⟨W,⟨r,t⟩,a⟩:=h;refine wpAny_While (codeAny_whileLoop (λn u=>∃c i,Inv X pins c i u/\W n c i) ?_ r ⟨σ,H,I,t⟩);rintro n v ⟨d,j,x,y⟩;refine wpAny_passesOwn k (cO (p pins v d j _ x (a n d j y)) λb z B=>?_);obtain⟨l,m,e⟩:=B
 cases b with
 |true=>
  obtain⟨N,o,e⟩:=e;rw[if_pos rfl];refine wpAny_passesOwn k (cO (q pins z d l _ m e) λf a g=>?_)
  cases f with
  |next=>
   obtain⟨a,b,c,f⟩:=g;obtain⟨i,j,k⟩:=o a b f;calc⟨i,j,a,b,c,k⟩
  |cont=>
   obtain⟨a,b,c,f⟩:=g;obtain⟨i,j,k⟩:=o a b f;calc⟨i,j,a,b,c,k⟩
  |brk=>calc g
  |ret v=>calc g
 |false=>
  rw[if_neg Bool.false_ne_true];calc wpAny_execs_nil ⟨d,l,m,e⟩
end
structure It where
 go:Nat->Hp->Prop
 JE:Nat->Hp->V->Hp->Prop
 stop:Nat->Hp->Prop
def oN(X:Cx)(pins:List (Addr×Obj))(H:Hp)(b:Addr):Prop:=
 H b=none/\b≠X.env.locals/\b∉X.fs/\(b∈X.ex\/X.s₀.heap.objs.size<=b)/\(∀x c,X.env.cells.lookup x=some c->c≠b)/\∀p∈X.pn++pins,p.1≠b
theorem Inv.Cz{H c:Hp}{s:Shared}{b:Addr}(I:Inv X pins σ H s)(a:s.heap.objs.size<=b)(d:c b=none):oN X pins c b:=by
 refine⟨d,Nat.ne_of_gt (V' I.lt a),I.NI a,.inr (aab I.sz a),λx c e z=>?_,λp b z=>?_⟩
 ·obtain⟨v,q⟩:=I.cell x c e;exact absurd (V' q.lt (by rw[z];calc a)) (aaE _)
 ·calc absurd (V' (U' (I.pin p b).1) (by rw[z];calc a)) (aaE _)
structure Turn(P:Program)(w:World)(K:W.Frag)(tg:Expr)(J:It)(fp:List Addr)(it:Addr)(tn:Nat->Heap->Prop):Prop where
 mem:it∈fp
 obj:∀i h,tn i h->∀b∈fp,∃o,h.get? b=some o/\∀v,o.data≠.cell v
 keep:∀i h h',tn i h->(∀b∈fp,∀o,h.get? b=some o->h'.get? b=some o)->tn i h'
 item:∀(X:Cx),X.prog=P->X.w=w->X.K=K->X.calm=true->∀(i:Nat) (pins:List (Addr×Obj)) (s:Shared) (σ:St) (H:Hp) (E:Value->Shared->Prop),Inv X pins σ H s->(∀b ∈ fp,oN X pins H b)->tn i s.heap->J.go i H->
  wpAny (model P w) X.A (pyNext (.ref it)) (λr s1=>∃u,r=some u/\
   wpAny (model P w) X.A (letOwnedTupleGo tg (.ref it) u) (λ_ s2=>∃x H',Inv X pins σ H' s2/\RelV x u/\J.JE i H x H'/\tn (i + 1) s2.heap/\∀b ∈ fp,H' b=none) E s1) E s
 done:∀(X:Cx),X.prog=P->X.w=w->X.K=K->X.calm=true->∀(i:Nat) (pins:List (Addr×Obj)) (s:Shared) (σ:St) (H:Hp) (E:Value->Shared->Prop),Inv X pins σ H s->(∀b ∈ fp,oN X pins H b)->tn i s.heap->J.stop i H->
  wpAny (model P w) X.A (pyNext (.ref it)) (λr s1=>r=none/\Inv X pins σ H s1) E s
 self:∀(A:Around) (i:Nat) (s:Shared) (Q:Value->Shared->Prop) (E:Value->Shared->Prop),tn i s.heap->Q (.ref it) s->wpAny (model P w) A (pyIter (.ref it)) Q E s
abbrev TI:=St->Hp->(It->Hp->Prop)->Prop
def YU(X:Cx)(pins:List (Addr×Obj))(σ:St)(tg:Expr)(R:It->Hp->Prop)(g:Value)(c:Shared):Prop:=
 ∃(d:Addr) (e:List Addr) (f:Nat->Heap->Prop) (J:It) (a:Hp),g=.ref d/\Inv X pins σ a c/\Turn X.prog X.w X.K tg J e d f/\f 0 c.heap/\(∀b∈e,oN X pins a b)/\R J a
structure PI(X:Cx)(tg iter:Expr)(wi:TI):Prop where
 out:
  ∀(pins:List (Addr×Obj)) (s:Shared) (σ:St) (H:Hp) (R:It->Hp->Prop),Inv X pins σ H s->wi σ H R->
   wpAny (model X.prog X.w) X.A (eval iter X.env) (λv s1=>wpAny (model X.prog X.w) X.A (pyIter v) (YU X pins σ tg R) X.xe s1) X.xe s
instance {X:Cx}{tg a:Expr}{b:TI}:CoeFun (PI X tg a b) λ_=>
 ∀(pins:List (Addr×Obj)) (s:Shared) (σ:St) (H:Hp) (R:It->Hp->Prop),Inv X pins σ H s->b σ H R->
  wpAny (model X.prog X.w) X.A (eval a X.env) (λv b=>wpAny (model X.prog X.w) X.A (pyIter v) (YU X pins σ tg R) X.xe b) X.xe s:=⟨PI.out⟩
theorem Az{M:Model}{A:Around}{E:Value->Shared->Prop}{s:Shared}{tg:Expr}{b:Addr}{u:Value}{o:Obj}{n:String}{vs:Array Value}{Q:Unit->Shared->Prop}(c:s.heap.get? b=some o)(d:o.cls=.type n)(e:o.data=.fields vs)
    (f:["enumerate","zip","dict_itemiterator","dict_reverseitemiterator","odict_iterator","itertools.zip_longest","itertools.pairwise"].contains n=false) (a:Q ⟨⟩ s):wpAny M A (letOwnedTupleGo tg (.ref b) u) Q E s:=by
  unfold letOwnedTupleGo
  cases tg<;>first
    |calc J' a
    | (cases u <;> first
        |calc J' a
        | (refine E' (wpAny_load c ?_)
           rw[d,e];show wpAny M A (if (["enumerate","zip","dict_itemiterator","dict_reverseitemiterator","odict_iterator","itertools.zip_longest","itertools.pairwise"].contains n && vs[0]? == some (rawInt _))=true then _ else _) Q E s;rw[if_neg (by intro h;rw[f,Bool.false_and] at h;cases h)];exact J' a))
def wQ(K:W.Frag)(a:Addr):It:=
 ⟨λi H=>∃xs x,aP K H a xs/\xs[i]?=some x,λi H x b=>b=H/\∀xs,aP K H a xs->xs[i]?=some x,λi H=>∃xs,aP K H a xs/\xs.length<=i⟩
def Rp(K:W.Frag)(a:Addr):It:=
 ⟨λi H=>∃xs x,bz K H a xs/\xs[i]?=some x,λi H x b=>b=H/\∀xs,bz K H a xs->xs[i]?=some x,λi H=>∃xs,bz K H a xs/\xs.length<=i⟩
def CA(a:Int)(n:Nat):It:=⟨λi _=>i<n,λi H x b=>b=H/\x=.int (a+i),λi _=>n<=i⟩
theorem CB{P:Program}{w:World}(a g:Addr):Turn P w K tg (wQ K a) [g] g (λi h=>h.IsListIter g a i) where
 mem:=by simp
 obj:=λi h f b j=>by
  have e:b=g:=by simpa using j
  subst e;obtain⟨o,e,c,d⟩:=f;exact⟨o,e,λv z=>by rw[d]at z;cases z⟩
 keep:=λi h l f k=>f.at λo e=>k g nofun o e
 item:=by
  intro X q r t L i pins s σ H E I m f y;subst q r t;obtain⟨M,x,n,A⟩:=y;obtain⟨N,B,p,O⟩:=I.list n;obtain⟨u,k,v⟩:=B.get A;obtain⟨C,D,Q,F,G,J⟩:=m g nofun;calc wpAny_pyNext_list_item f p.isList (x:=u) (by simpa using k) λl a w=>?_;have k:Inv X pins σ H {s with heap:=l}:=I.turned (t':=s.toks) (λb o j e=>(w.2 b j).trans e) C D F G J;obtain⟨o,e,c,d⟩:=id a;exact⟨u,rfl,Az (s:={s with heap:=l}) e c d ∅ ⟨x,H,k,v,⟨rfl,λw u=>by rw[I.wO u n];calc A⟩,a,λb j=>(m b j).1⟩⟩
 done:=by
  intro X q r t L i pins s σ H E I m f y;subst q r t;obtain⟨M,n,A⟩:=y;obtain⟨N,B,p,O⟩:=I.list n;obtain⟨C,D,Q,F,G,J⟩:=m g nofun;have a:=B.length;exact wpAny_pyNext_list_end (I.ok.hd L) f p.isList (by simp;lia) λl a=>⟨rfl,I.turned (t':=s.toks) (λb o j e=>a b o j e) C D F G J⟩
 self:=λ_ _ _ _ _ f h=>wpAny_pyIter_listiter f h
theorem yW{P:Program}{w:World}(a g:Addr):Turn P w K tg (Rp K a) [g] g (λi h=>h.IsTupleIter g a i) where
 mem:=by simp
 obj:=λi h f b j=>by
  have e:b=g:=by simpa using j
  subst e;obtain⟨o,e,c,d⟩:=f;exact⟨o,e,λv z=>by rw[d]at z;cases z⟩
 keep:=λi h l f k=>f.at λo e=>k g nofun o e
 item:=by
  intro X q r t M i pins s σ H E I m f y;subst q r t;obtain⟨N,x,n,A⟩:=y;obtain⟨B,C,p,O⟩:=I.tuple n;obtain⟨u,v,w⟩:=C.get A;obtain⟨D,F,Q,G,J,L⟩:=m g nofun;calc wpAny_pyNext_tuple_item f (show s.heap.IsTuple a B.toArray from p) (x:=u) (by simpa using v) λl k z=>?_;have v:Inv X pins σ H {s with heap:=l}:=I.turned (t':=s.toks) (λb o j e=>(z.2 b j).trans e) D F G J L;obtain⟨o,e,c,d⟩:=id k;exact⟨u,rfl,Az (s:={s with heap:=l}) e c d ∅ ⟨x,H,v,w,⟨rfl,λz u=>by rw[I.uf u n];calc A⟩,k,λb j=>(m b j).1⟩⟩
 done:=by
  intro X q r t M i pins s σ H E I m f y;subst q r t;obtain⟨N,n,A⟩:=y;obtain⟨B,C,p,O⟩:=I.tuple n;obtain⟨D,F,Q,G,J,L⟩:=m g nofun;have c:=C.length;exact wpAny_pyNext_tuple_end (I.ok.hd M) f (show s.heap.IsTuple a B.toArray from p) (by simp;lia) λl c=>⟨rfl,I.turned (t':=s.toks) (λb o j e=>c b o j e) D F G J L⟩
 self:=λ_ _ _ _ _ f h=>wpAny_pyIter_tupleiter f h
theorem yX{P:Program}{w:World}(c:Addr)(f:Int)(n:Nat):Turn P w K tg (CA f n) [c] c (λi h=>IsRangeIter h c (f+(i:Nat)*1) ((n:Int)-(i:Nat)) 1) where
 mem:=by simp
 obj:=λi h a b d=>by
  have e:b=c:=by simpa using d
  subst e;exact⟨_,a,λv z=>by
   have k:Data.fields _=Data.cell v:=z
   cases k⟩
 keep:=λi h g a k=>k c nofun _ a
 item:=by
  intro X l m p q i pins s σ H E I j a r;subst l m p;obtain⟨u,x,F,y,A,B⟩:=j c nofun;have W:=Walks.range (prog:=X.prog) (w:=X.w) (I.ok.hd q) c f 1 n;calc W.item i s _ _ r a λv g C G D J=>?_;obtain⟨t,rfl⟩:=G;have k:Inv X pins σ H {s with heap:=g,toks:=C}:=I.turned (λb o d e=>J b o (by simpa using d) e) u x y A B;calc⟨_,rfl,Az (s:={s with heap:=g,toks:=C}) (n:="range_iterator") D rfl rfl ∅ ⟨.int (f+i),H,k,⟨t,?_⟩,⟨rfl,rfl⟩,D,λb d=>(j b d).1⟩⟩;rw[Int.mul_one]
 done:=by
  intro X l m p q i pins s σ H E I j a r;subst l m p;obtain⟨u,x,F,y,A,B⟩:=j c nofun;exact wpAny_pyNext_range_end (I.ok.hd q) a (by have:n<=i:=r;lia) λg c=>⟨rfl,I.turned (t':=s.toks) (λb o d e=>c b o d e) u x y A B⟩
 self:=λ_ _ _ _ _ a h=>wpAny_pyIter_rangeiter a h
end
section
variable {H:Hp}{pins:List (Addr×Obj)}{s:Shared}{σ:St}{g:TG}{tb:TS}
section
variable {X:Cx}{tg:Expr}
theorem EJ{R:It->Hp->Prop}{E:Value->Shared->Prop}{a c:Int}{t u v:Tok}{d:Nat}(I:Inv X pins σ H s)(g:-(2^62)<=a)(h:a<2^62)(i:-(2^62)<=c)(j:c<2^62)
  (q:R (CA a (c-a).toNat) H):wpAny (model X.prog X.w) X.A (pyIter (.ref s.heap.objs.size)) (YU X pins σ tg R) E {s with heap:=s.heap.push {cls:=.type "range",data:=.fields #[.int a t,.int c u,.int 1 v]},toks:=d}:=by
 refine wpAny_pyIter_range (IsRange.new ..) (small_one g h i j) ?_;have f:Inv X pins σ H {s with heap:=s.heap.push {cls:=.type "range",data:=.fields #[.int a t,.int c u,.int 1 v]},toks:=d}:=I.kept λb o e=>K' _ e;refine⟨(s.heap.push {cls:=.type "range",data:=.fields #[.int a t,.int c u,.int 1 v]}).objs.size,[(s.heap.push {cls:=.type "range",data:=.fields #[.int a t,.int c u,.int 1 v]}).objs.size],_,_,H,rfl,
  f.kept (t':=d) λb o e=>K' _ e,yX _ a (c - a).toNat,?_,λb k=>?_,q⟩
 ·have l:a + ((0:Nat):Int) * 1=a:=by simp
  have m:(((c-a).toNat:Nat):Int)-((0:Nat):Int)=Builtin.Range.rangeSize a c 1:=by rw[rangeSize_one];split<;>lia
  show IsRangeIter _ _ (a+((0:Nat):Int)*1) ((((c-a).toNat:Nat):Int)-((0:Nat):Int)) 1;rw[l,m];exact X' _ rfl
 ·have e:b=(s.heap.push {cls:=.type "range",data:=.fields #[.int a t,.int c u,.int 1 v]}).objs.size:=by simpa using k
  subst e;calc f.Cz (P' _) (f.aO.fresh (P' _))
def EK(a:TA):TI:=λσ H R=>a σ H λvs b=>∃j:Int,vs=[.int j]/\-(2^62)<=j/\j<2^62/\R (CA 0 j.toNat) b
theorem c8{a:Expr}{d:TA}{p b:Pos}(f:Gl X "range")(g:X.mg "range"=none)(i:PA X [a] d)(j:starEach [a] X.env=[(false,eval a X.env)]:=by rfl):PI X tg (.Call (.Name "range" p) [a] [] b) (EK d):=by
 calc⟨?_⟩;intro pins s σ H R I h;calc Call_ (oM I f g boot_range (PyProof.Rows.callWith_type1 (cO (i b pins s σ H _ I h) λd o a=>?_) j rfl));obtain⟨b,d,k,l,c⟩:=a;obtain⟨j,e,c,m,q⟩:=c;subst e
 cases l with
 |cons r n=>
  cases n;obtain⟨t,rfl⟩:=r;calc call_range_1 (EJ k () () c m (by simpa using q))
def NY(a:TI)(g:TG)(tb:TS):TS:=λD σ H=>a σ H λJ b=>∃W:Nat->Nat->St->Hp->Prop,(∃m,W 0 m σ b)/\∀i m σ H,W i m σ H->
 (J.stop i H/\D.nx σ H)\/(J.go i H/\∃N:St->Hp->Prop,(∀a b,N a b->∃d,d<m/\W (i+1) d a b)/\∀x b,J.JE i H x b->g x σ b λc e=>tb {D with nx:=N,ct:=N,bk:=D.nx} c e)
def oO(a:List Addr)(h:Heap):List (Addr×Obj):=a.filterMap λb=>(h.get? b).map λo=>(b,o)
theorem jx{a:List Addr}{h:Heap}{b:Addr}{o:Obj}(c:b∈a)(e:h.get? b=some o):(b,o)∈oO a h:=List.mem_filterMap.mpr ⟨b,c,by rw[e];rfl⟩
theorem CC{a:List Addr}{h:Heap}{p:Addr×Obj}(c:p∈oO a h):p.1∈a/\h.get? p.1=some p.2:=by
 obtain⟨b,d,e⟩:=List.mem_filterMap.mp c
 cases q:h.get? b with
 |none=>rw[q]at e;cases e
 |some o=>
  rw[q]at e;have f:(b,o)=p:=Option.some.inj e;subst f;calc⟨d,q⟩
theorem Inv.pinned{a:List Addr}(I:Inv X pins σ H s)(g:∀b∈a,oN X pins H b)(h:∀b∈a,∃o,s.heap.get? b=some o/\∀v,o.data≠.cell v):Inv X (pins++oO a s.heap) σ H s:=
 I.vg λp a=>(List.mem_append.mp a).elim (λz=>I.pin p (aaf _ z)) λz=>by
  obtain⟨c,e⟩:=CC z;obtain⟨i,j,k,_⟩:=g p.1 c;obtain⟨o,f,d⟩:=h p.1 c;rw[e]at f;cases f;calc⟨e,i,j,k,d⟩
theorem Inv.ki{pl:List (Addr×Obj)}(I:Inv X (pins++pl) σ H s):Inv X pins σ H s:=I.vg λp a=>I.pin p (aaf _ (List.mem_append_left _ a))
theorem df{c:Expr}{m:List Stmt}{M:TI}{J:Pos}(z:PassesOwn (model X.prog X.w) X.A X.env X.xe)(O:X.calm=true)(Z:PI X tg c M)(hg:PG X tg g)(j:wA X m tb)
  (hs:∀x,foldedSetIterable c X.env x=pure x:=by intro _;rfl):PS X (.For tg c m [] J) (NY M g tb):=by
 walk_at "xd";refine wpAny_For (cO (Z pins s σ H _ I h) λv m c=>cO c λm J h2=>?_) hs;obtain⟨c,B,P,J,H2,e,I2,T,AD,Q,W,⟨m0,w0⟩,C⟩:=h2;subst e;have K:∀{o:Hp},(∀b∈B,o b=none)->∀b∈B,oN X pins o b:=λc b j=>⟨c b j,(Q b j).2⟩
 calc codeAny_forLoop_any (λn c=>∃i d o,Inv X pins d o c/\P i c.heap/\(∀b∈B,o b=none)/\W i n d o) ?_ m0 ⟨0,σ,H2,I2,AD,λb j=>(Q b j).1,w0⟩;rintro n R ⟨i,k,G,S,U,Y,w3⟩;rcases C i n k G w3 with⟨c,qn⟩|⟨go,N,hN,E⟩
 ·calc wpAny_passesOwn z (cO (T.done X rfl rfl rfl O i pins R k G X.xe S (K Y) U c) λr s4 y=>?_);obtain⟨L,I4⟩:=y;subst L;exact wpAny_execs_nil ⟨k,G,I4,qn⟩
 ·calc wpAny_passesOwn z (cO (T.item X rfl rfl rfl O i pins R k G X.xe S (K Y) U go) λr s4 y=>?_);obtain⟨u,L,h4⟩:=y;subst L;calc wpAny_passesOwn z (cO h4 λ_ C y=>?_);obtain⟨x,m,r,G,J,c,L⟩:=y;have M:=r.pinned (K L) (T.obj _ _ c);calc wpAny_passesOwn z (cO (hg _ C k m x u _ M G (E x m J)) λ_ O y=>?_);obtain⟨k,m,u,x⟩:=y;calc wpAny_passesOwn z (cO (j _ O k m _ u x) λf r t=>?_);have l:∀{a:St} {p:Hp},Inv X (pins++oO B C.heap) a p r->N a p->∃m,m<n/\∃i d o,Inv X pins d o r/\P i r.heap/\(∀b∈B,o b=none)/\W i m d o:=λ{a p} q F=>by
   obtain⟨d,k,m⟩:=hN a p F;calc⟨d,k,i+1,a,p,q.ki,T.keep _ _ _ c λb j o e=>(q.pin (b,o) (aaf _ (aaf _ (jx j e)))).1,λb j=>?_,m⟩;obtain⟨o,e,d⟩:=T.obj _ _ c b j;exact(q.pin (b,o) (aaf _ (aaf _ (jx j e)))).2.1
  cases f with
  |next=>obtain⟨a,p,q,F⟩:=t;calc l q F
  |cont=>obtain⟨a,p,q,F⟩:=t;calc l q F
  |brk=>obtain⟨a,p,q,t⟩:=t;calc⟨a,p,q.ki,t⟩
  |ret v=>obtain⟨b,a,p,q,c,t⟩:=t;calc⟨b,a,p,q.ki,c,t⟩
end
theorem eU{K:W.Frag}{a:Addr}{xs:List V}{D:Ends}(b:Nat->St->Hp->Prop)(k:b 0 σ H)(l:∀i σ H,i<=xs.length->b i σ H->aP K H a xs)
  (n:∀i x σ H,xs[i]?=some x->b i σ H->g x σ H λc h=>tb {D with nx:=b (i+1),ct:=b (i+1),bk:=D.nx} c h) (o:∀σ H,b xs.length σ H->D.nx σ H):
  ∃W:Nat->Nat->St->Hp->Prop,(∃m,W 0 m σ H)/\∀i m σ H,W i m σ H->
   ((wQ K a).stop i H/\D.nx σ H)\/((wQ K a).go i H/\∃N:St->Hp->Prop,(∀d f,N d f->∃j,j<m/\W (i+1) j d f)/\∀x f,(wQ K a).JE i H x f->g x σ f λc h=>tb {D with nx:=N,ct:=N,bk:=D.nx} c h):=by
 calc⟨λi m σ H=>m=xs.length-i/\i<=xs.length/\b i σ H,⟨xs.length,nofun,Y' _,k⟩,?_⟩;rintro i m σ H ⟨rfl,c,p⟩;have q:=l i σ H c p;by_cases a:i<xs.length
 ·calc .inr ⟨⟨xs,xs[i],q,by simp[a]⟩,b (i+1),λd f c=>⟨xs.length-(i+1),(),rfl,a,c⟩,λx f y=>?_⟩;obtain⟨e,y⟩:=y;subst e;exact n i x σ _ (y xs q) p
 ·have e:i=xs.length:=by lia
  subst e;calc .inl ⟨⟨xs,q,P' _⟩,o σ H p⟩
theorem jf{f:Int}{n:Nat}{D:Ends}(a:Nat->St->Hp->Prop)(l:a 0 σ H)
  (o:∀i σ H,i<n->a i σ H->g (.int (f+i)) σ H λb h=>tb {D with nx:=a (i+1),ct:=a (i+1),bk:=D.nx} b h) (q:∀σ H,a n σ H->D.nx σ H):
  ∃W:Nat->Nat->St->Hp->Prop,(∃m,W 0 m σ H)/\∀i m σ H,W i m σ H->
   ((CA f n).stop i H/\D.nx σ H)\/((CA f n).go i H/\∃N:St->Hp->Prop,(∀c d,N c d->∃k,k<m/\W (i+1) k c d)/\∀x d,(CA f n).JE i H x d->g x σ d λb h=>tb {D with nx:=N,ct:=N,bk:=D.nx} b h):=by
 calc⟨λi m σ H=>m=n-i/\i<=n/\a i σ H,⟨n,nofun,Y' _,l⟩,?_⟩;rintro i m σ H ⟨rfl,b,p⟩;by_cases j:i<n
 ·calc .inr ⟨j,a (i+1),λc d b=>⟨n-(i+1),(),rfl,j,b⟩,λx d y=>?_⟩;obtain⟨e,y⟩:=y;subst e y;exact o i σ _ j p
 ·have e:i=n:=by lia
  subst e;calc .inl ⟨P' _,q σ H p⟩
end
section
variable {op:CmpOp}{g:Int->Int->Int}
abbrev R2:=V->V->Hp->VK->Prop
def gq(X:Cx)(f:Value->Value->Sem Value)(r:R2):Prop:=
 ∀(pins:List (Addr×Obj)) (s:Shared) (σ:St) (H:Hp) (x y:V) (v u:Value) (Q:VK),Inv X pins σ H s->RelV x v->RelV y u->r x y H Q->
  wpAny (model X.prog X.w) X.A (f v u) (EP X pins σ Q) X.xe s
def YX(X:Cx)(f:Value->Sem Value)(r:V->Hp->VK->Prop):Prop:=
 ∀(pins:List (Addr×Obj)) (s:Shared) (σ:St) (H:Hp) (x:V) (v:Value) (Q:VK),Inv X pins σ H s->RelV x v->r x H Q->
  wpAny (model X.prog X.w) X.A (f v) (EP X pins σ Q) X.xe s
def fm(X:Cx)(f:Value)(r:List V->Hp->VK->Prop):Prop:=
 ∀(pins:List (Addr×Obj)) (s:Shared) (σ:St) (H:Hp) (xs:List V) (us:List Value) (Q:VK),Inv X pins σ H s->Vals xs us->r xs H Q->
  wpAny (model X.prog X.w) X.A (call f us) (EP X pins σ Q) X.xe s
def EL(r:R2)(a b:TE):TE:=λσ H Q=>a σ H λx c=>b σ c λy a=>r x y a Q
def YY(r:V->Hp->VK->Prop)(a:TE):TE:=λσ H Q=>a σ H λx b=>r x b Q
def rI(C:Int->Int->Prop)(g:Int->Int->V):R2:=λx y H Q=>∃i j,x=.int i/\y=.int j/\C i j/\Q (g i j) H
def JF(g:Int->Int->V):R2:=λx y H Q=>∃i j,x=.int i/\y=.int j/\Q (g i j) H
def rU(g:Int->V):V->Hp->VK->Prop:=λx H Q=>∃i,x=.int i/\Q (g i) H
section
variable {X:Cx}{a b c:Expr}{ta tb tc:TE}{pos:Pos}
theorem NZ(j:PE X a ta)(k:PE X b tb){pins:List (Addr×Obj)}{s:Shared}{σ:St}{H:Hp}{R:V->V->Hp->Prop}(I:Inv X pins σ H s)
  (h:ta σ H λx i=>tb σ i λy c=>R x y c) {Q:Value->Shared->Prop} {f:Value->Value->Sem Value}
  (l:∀v u g x y c,Inv X pins σ c g->RelV x v->RelV y u->R x y c->wpAny (model X.prog X.w) X.A (f v u) Q X.xe g):
  wpAny (model X.prog X.w) X.A (eval a X.env) (λv d=>wpAny (model X.prog X.w) X.A (eval b X.env) (λu e=>wpAny (model X.prog X.w) X.A (f v u) Q X.xe e) X.xe d) X.xe s:=by
 calc cO (j pins s σ H _ I h) λv e d=>?_;obtain⟨x,i,f,h,j⟩:=d;calc cO (k pins e σ i _ f j) λu g d=>?_;obtain⟨y,c,e,f,i⟩:=d;calc l v u g x y c e h f i
theorem aW{op:Operator}{r:R2}(c:gq X (binaryOp op) r)(d:PE X a ta)(e:PE X b tb):PE X (.BinOp a op b pos) (EL r ta tb):=by
 walk_at "xc";exact wpAny_BinOp (NZ d e I h λv u f x y g i j k q=>c pins f σ g x y v u Q i j k q)
theorem lQ{op:UnaryOp}{r:V->Hp->VK->Prop}(b:YX X (unaryOp op) r)(c:PE X a ta):PE X (.UnaryOp op a pos) (YY r ta):=by
 walk_at "xc";exact UnaryOp_ (cO (c pins s σ H _ I h) λv d ⟨x,e,f,g,i⟩=>b pins d σ e x v Q f g i)
theorem XA{f:Value->Value->Sem Value}{C:Int->Int->Prop}
  (a:∀(i j:Int) (t u:Tok) (s:Shared) (Q:Value->Shared->Prop) (E:Value->Shared->Prop),C i j->Q (.int (g i j) s.toks) {s with toks:=s.toks+1}->wpAny (model X.prog X.w) X.A (f (.int i t) (.int j u)) Q E s):
  gq X f (rI C λi j=>.int (g i j)):=by
 intro b s σ H x y v u Q I c d h;obtain⟨i,j,rfl,rfl,e,q⟩:=h;obtain⟨t,rfl⟩:=c;obtain⟨k,rfl⟩:=d;calc a i j t k s _ _ e ⟨.int (g i j),H,I.tok _,⟨_,rfl⟩,q⟩
theorem SX{f:Value->Value->Sem Value}
  (a:∀(i j:Int) (t u:Tok) (s:Shared) (Q:Value->Shared->Prop) (E:Value->Shared->Prop),Q (.int (g i j) s.toks) {s with toks:=s.toks+1}->wpAny (model X.prog X.w) X.A (f (.int i t) (.int j u)) Q E s):
  gq X f (JF λi j=>.int (g i j)):=by
 intro b s σ H x y v u Q I c d h;obtain⟨i,j,rfl,rfl,q⟩:=h;obtain⟨t,rfl⟩:=c;obtain⟨e,rfl⟩:=d;calc a i j t e s _ _ ⟨.int (g i j),H,I.tok _,⟨_,rfl⟩,q⟩
theorem JG{f:Value->Value->Sem Value}{g:Int->Int->Bool}
  (a:∀(i j:Int) (t u:Tok) (s:Shared) (Q:Value->Shared->Prop) (E:Value->Shared->Prop),Q (.bool (g i j)) s->wpAny (model X.prog X.w) X.A (f (.int i t) (.int j u)) Q E s):
  gq X f (JF λi j=>.bl (g i j)):=by
 intro b s σ H x y v u Q I c d h;obtain⟨i,j,rfl,rfl,q⟩:=h;obtain⟨t,rfl⟩:=c;obtain⟨e,rfl⟩:=d;calc a i j t e s _ _ ⟨.bl (g i j),H,I,rfl,q⟩
def JH(i j:Int):Prop:=0<=j/\j<=1000000/\i.natAbs<2^64
def EM(i j:Int):Prop:=(-(2^64)<i/\i<2^64)\/(-(2^64)<j/\j<2^64)
theorem EM.ok{i j:Int}(h:EM i j):IntMulOk i j:=by
 rcases h with⟨a,b⟩|⟨a,b⟩
 ·exact .of_left (intBits_le_64 a b)
 ·calc .of_right (intBits_le_64 a b)
theorem N0:gq X (binaryOp .Add) (JF λi j=>.int (i+j)):=SX λ_ _ _ _ _ _ _ q=>add_int q
theorem Oa:gq X (binaryOp .Sub) (JF λi j=>.int (i-j)):=SX λ_ _ _ _ _ _ _ q=>sub_int q
theorem Ob:gq X (binaryOp .Mult) (rI EM λi j=>.int (i*j)):=XA λ_ _ _ _ _ _ _ a q=>mul_int q a.ok
theorem Oc:gq X (binaryOp .Mod) (rI (λ_ j=>0<j) λi j=>.int (i%j)):=XA λi j _ _ _ _ _ a q=>by
 have b:(0:Int)<j:=a;calc mod_int' () (by rw[Int.fmod_eq_emod_of_nonneg i ()];calc q)
theorem Od:gq X (binaryOp .Pow) (rI JH λi j=>.int (i^j.toNat)):=XA λ_ _ _ _ _ _ _ a q=>pow_int_small a.1 a.2.1 a.2.2 q
theorem unI{f:Value->Sem Value}{g:Int->Int}
  (a:∀(i:Int) (t:Tok) (s:Shared) (Q:Value->Shared->Prop) (E:Value->Shared->Prop),Q (.int (g i) s.toks) {s with toks:=s.toks+1}->wpAny (model X.prog X.w) X.A (f (.int i t)) Q E s):
  YX X f (rU λi=>.int (g i)):=by
 intro b s σ H x v Q I c h;obtain⟨i,rfl,q⟩:=h;obtain⟨t,rfl⟩:=c;calc a i t s _ _ ⟨.int (g i),H,I.tok _,⟨_,rfl⟩,q⟩
theorem iJ:YX X (unaryOp .USub) (rU λi=>.int (-i)):=unI λ_ _ _ _ _ q=>neg_int q
end
def JI:V->V->Bool
 | .bC,.bC=>true | .bC,.int _=>true | .int _,.bC=>true | .bC,.bl _=>true | .bl _,.bC=>true | .bC,.str _=>true | .str _,.bC=>true
 | .int _,.int _=>true | .bl _,.bl _=>true | .str _,.str _=>true | .Au _,.Au _=>true
 | .int _,.str _=>true | .str _,.int _=>true | .bl _,.str _=>true | .str _,.bl _=>true
 |_,_=>false
def rEq:R2:=λx y H Q=>JI x y=true/\Q (.bl (decide (x=y))) H
def rNe:R2:=λx y H Q=>JI x y=true/\Q (.bl (!decide (x=y))) H
theorem AE{i j:Int}:decide (V.int i=V.int j)=(i==j):=by
 rw[Bool.eq_iff_iff];simp
theorem EN{i j:Bool}:decide (V.bl i=V.bl j)=(i==j):=by
 rw[Bool.eq_iff_iff];simp
theorem AF{i j:Str}:decide (V.str i=V.str j)=(i==j):=by
 rw[Bool.eq_iff_iff];simp
theorem AG{i j:Array UInt8}:decide (V.Au i=V.Au j)=(i.toList==j.toList):=by
 rw[Bool.eq_iff_iff]
 cases i
 cases j;simp
section
variable {X:Cx}{a b c:Expr}{ta tb tc:TE}{pos:Pos}
theorem bQ{pins:List (Addr×Obj)}{σ:St}{H:Hp}{s:Shared}{Q:VK}{k a:Bool}(I:Inv X pins σ H s)(q:Q (.bl k) H)(e:k=a):EP X pins σ Q (.bool a) s:=by
 subst e;calc⟨.bl k,H,I,rfl,q⟩
theorem SY:gq X (compareOp .Eq) rEq:=by
 intro e s σ H x y v u Q I d a h;obtain⟨c,q⟩:=h
 cases x with
 |bC=>
  cases d
  cases y with
  |bC=>cases a;calc PySem.EqNone.eq_none_none (bQ I q nofun)
  |bl j=>cases a;calc PySem.EqNone.eq_none_bool (bQ I q nofun)
  |int j=>obtain⟨b,rfl⟩:=a;calc PySem.EqNone.eq_none_int (bQ I q nofun)
  |str j=>obtain⟨b,rfl⟩:=a;calc PySem.EqNone.eq_none_str (bQ I q nofun)
  |_=>calc absurd (show false=true from c) T'
 |bl i=>
  cases d
  cases y with
  |bC=>cases a;calc PySem.EqNone.eq_bool_none (bQ I q nofun)
  |bl j=>cases a;calc eq_bool (bQ I q EN)
  |str j=>obtain⟨b,rfl⟩:=a;calc PySem.EqMixed.eq_bool_str (bQ I q nofun)
  |_=>calc absurd (show false=true from c) T'
 |int i=>
  obtain⟨t,rfl⟩:=d
  cases y with
  |bC=>cases a;calc PySem.EqNone.eq_int_none (bQ I q nofun)
  |int j=>obtain⟨b,rfl⟩:=a;calc eq_int (bQ I q AE)
  |str j=>obtain⟨b,rfl⟩:=a;calc PySem.EqMixed.eq_int_str (bQ I q nofun)
  |_=>calc absurd (show false=true from c) T'
 |str i=>
  obtain⟨t,rfl⟩:=d
  cases y with
  |bC=>cases a;calc PySem.EqNone.eq_str_none (bQ I q nofun)
  |bl j=>cases a;calc PySem.EqMixed.eq_str_bool (bQ I q nofun)
  |int j=>obtain⟨b,rfl⟩:=a;calc PySem.EqMixed.eq_str_int (bQ I q nofun)
  |str j=>obtain⟨b,rfl⟩:=a;calc eq_str (bQ I q AF)
  |_=>calc absurd (show false=true from c) T'
 |Au i=>
  obtain⟨t,rfl⟩:=d
  cases y with
  |Au j=>obtain⟨b,rfl⟩:=a;calc W.eq_bytes (bQ I q AG)
  |_=>calc absurd (show false=true from c) T'
 |_=>cases y<;>calc absurd (show false=true from c) T'
theorem S8:gq X (compareOp .NotEq) rNe:=by
 intro e s σ H x y v u Q I d a h;obtain⟨c,q⟩:=h
 cases x with
 |bC=>
  cases d
  cases y with
  |bC=>cases a;calc PySem.EqNone.ne_none_none (bQ I q nofun)
  |bl j=>cases a;calc PySem.EqNone.ne_none_bool (bQ I q nofun)
  |int j=>obtain⟨b,rfl⟩:=a;calc PySem.EqNone.ne_none_int (bQ I q nofun)
  |str j=>obtain⟨b,rfl⟩:=a;calc PySem.EqNone.ne_none_str (bQ I q nofun)
  |_=>calc absurd (show false=true from c) T'
 |bl i=>
  cases d
  cases y with
  |bC=>cases a;calc PySem.EqNone.ne_bool_none (bQ I q nofun)
  |bl j=>cases a;calc ne_bool (bQ I q (congrArg not EN))
  |str j=>obtain⟨b,rfl⟩:=a;calc PySem.EqMixed.ne_bool_str (bQ I q nofun)
  |_=>calc absurd (show false=true from c) T'
 |int i=>
  obtain⟨t,rfl⟩:=d
  cases y with
  |bC=>cases a;calc PySem.EqNone.ne_int_none (bQ I q nofun)
  |int j=>obtain⟨b,rfl⟩:=a;calc ne_int (bQ I q (congrArg not AE))
  |str j=>obtain⟨b,rfl⟩:=a;calc PySem.EqMixed.ne_int_str (bQ I q nofun)
  |_=>calc absurd (show false=true from c) T'
 |str i=>
  obtain⟨t,rfl⟩:=d
  cases y with
  |bC=>cases a;calc PySem.EqNone.ne_str_none (bQ I q nofun)
  |bl j=>cases a;calc PySem.EqMixed.ne_str_bool (bQ I q nofun)
  |int j=>obtain⟨b,rfl⟩:=a;calc PySem.EqMixed.ne_str_int (bQ I q nofun)
  |str j=>obtain⟨b,rfl⟩:=a;calc ne_str (bQ I q (congrArg not AF))
  |_=>calc absurd (show false=true from c) T'
 |Au i=>
  obtain⟨t,rfl⟩:=d
  cases y with
  |Au j=>obtain⟨b,rfl⟩:=a;calc W.ne_bytes (bQ I q (congrArg not AG))
  |_=>calc absurd (show false=true from c) T'
 |_=>cases y<;>calc absurd (show false=true from c) T'
theorem S9:gq X (compareOp .Lt) (JF λi j=>.bl (decide (i<j))):=JG λ_ _ _ _ _ _ _ q=>lt_int q
theorem Ta:gq X (compareOp .LtE) (JF λi j=>.bl (decide (i<=j))):=JG λ_ _ _ _ _ _ _ q=>le_int q
theorem Tb:gq X (compareOp .Gt) (JF λi j=>.bl (decide (j<i))):=JG λ_ _ _ _ _ _ _ q=>gt_int q
theorem Tc:gq X (compareOp .GtE) (JF λi j=>.bl (decide (j<=i))):=JG λ_ _ _ _ _ _ _ q=>ge_int q
theorem Oe:gq X (compareOp .Is) (λx y H Q=>y=.bC/\Q (.bl (decide (x=.bC))) H):=by
 intro a s σ H x y v u Q I b c h;obtain⟨rfl,q⟩:=h
 cases c;refine is_none_gen (bQ I q ?_)
 cases x<;>first
  |(cases b;rfl)
  |(obtain⟨t,rfl⟩:=b;rfl)
theorem JJ:gq X (compareOp .IsNot) (λx y H Q=>y=.bC/\Q (.bl (!decide (x=.bC))) H):=by
 intro a s σ H x y v u Q I b c h;obtain⟨rfl,q⟩:=h
 cases c;refine isnot_none_gen (bQ I q ?_)
 cases x<;>first
  |(cases b;rfl)
  |(obtain⟨t,rfl⟩:=b;rfl)
theorem aH(b:Expr){op:CmpOp}(h:op≠.In:=by decide)(a:op≠.NotIn:=by decide):behindInMarks op b=false:=by
 have c:(op==CmpOp.In)=false:=by cases op<;>first|rfl|exact absurd rfl h
 have d:(op==CmpOp.NotIn)=false:=by cases op<;>first|rfl|exact absurd rfl a
 cases b<;>simp[behindInMarks,c,d]
theorem jy{r:R2}(c:gq X (compareOp op) r)(d:PE X a ta)(e:PE X b tb)(f:behindInMarks op b=false):PE X (.Compare a [op] [b] pos) (EL r ta tb):=by
 walk_at "xc";exact wpAny_Compare1 (NZ d e I h λv u g x y i j k l q=>c pins g σ i x y v u Q j k l q) f
def AH(t:TE):TT:=λσ H Q=>t σ H λx a=>∃k,x=.bl k/\Q k a
theorem AI{r:R2}(d:gq X (compareOp op) r)(f:PE X a ta)(g:PE X b tb)(i:behindInMarks op b=false):PT X (.Compare a [op] [b] pos) (AH (EL r ta tb)):=by
 walk_at "xc";refine wpAny_isTrue_Compare1 (cO (f pins s σ H _ I h) λv j ⟨x,k,l,m,n⟩=>cO (g pins j σ k _ l n) λu f ⟨y,o,p,q,r⟩=>
  cO (d pins f σ o x y v u _ p m q r) λc g ⟨z,t,w,A,k,e,B⟩=>?_) i
 subst e
 cases A;calc aaG ⟨t,w,B⟩
def yZ(r b:R2)(ta tb tc:TE):TE:=λσ H Q=>ta σ H λx a=>tb σ a λy c=>r x y c λz a=>∃k,z=.bl k/\
 (if k=true then tc σ a λw' c=>b y w' c Q else Q (.bl false) a)
theorem wR{d:CmpOp}{r f:R2}(m:gq X (compareOp op) r)(n:gq X (compareOp d) f)(o:PE X a ta)(p:PE X b tb)(q:PE X c tc)
  (t:lastMarks [op,d] [b,c]=false:=by with_unfolding_all rfl):PE X (.Compare a [op,d] [b,c] pos) (yZ r f ta tb tc):=by
 walk_at "xc";refine Compare_chain (cO (o pins s σ H _ I h) λv d ⟨x,f,r,w,z⟩=>chain_link (cO (p pins d σ f _ r z) λu o ⟨y,A,B,g,C⟩=>
  cO (m pins o σ A x y v u _ B w g C) λd D ⟨z,i,j,E,k,e,l⟩=>?_)) t
 subst e
 cases E;refine aaG ?_
 cases k with
 |false=>calc ite_ff ⟨.bl false,i,j,rfl,l⟩
 |true=>calc ite_tt (chain_last (cO (q pins D σ i _ j l) λd e ⟨f,k,m,o,p⟩=>n pins e σ k y f u d Q m g o p))
theorem qX:(sizeLine:Nat)<2^63:=by rw[sizeLine_eq];decide
theorem y0:gq X (binaryOp .Add) (λx y H Q=>∃i j,x=.str i/\y=.str j/\i.length+j.length<=sizeLine/\Q (.str (i++j)) H):=by
 intro a s σ H x y v u Q I b c h;obtain⟨i,j,rfl,rfl,d,q⟩:=h;obtain⟨t,rfl⟩:=b;obtain⟨e,rfl⟩:=c;calc add_str (λe a=>⟨.str (i++j),H,I.tok _,⟨_,rfl⟩,q⟩) d
theorem vals1{x:V}{us:List Value}(r:Vals [x] us):∃u,us=[u]/\RelV x u:=by
 cases r with
 |cons a b=>cases b;calc⟨_,rfl,a⟩
theorem vals2{x y:V}{us:List Value}(r:Vals [x,y] us):∃u w',us=[u,w']/\RelV x u/\RelV y w':=by
 cases r with
 |cons a b=>
  cases b with
  |cons c d=>cases d;calc⟨_,_,rfl,a,c⟩
theorem CF(b:X.calm=true):fm X (.builtin "max") (λxs H Q=>∃i j,xs=[.int i,.int j]/\Q (.int (if j > i then j else i)) H):=by
 intro a s σ H xs c Q I r h;obtain⟨i,j,rfl,q⟩:=h;obtain⟨u,d,rfl,⟨t,rfl⟩,⟨e,rfl⟩⟩:=vals2 r;refine max_two_ints (I.ok.hd b) λa c k=>⟨_,H,I.kept k,?_,q⟩
 by_cases a:j > i
 ·rw[if_pos a,if_pos a];exact⟨_,rfl⟩
 ·rw[if_neg a,if_neg a];calc⟨_,rfl⟩
theorem CG:fm X (.type "int") (λxs H Q=>(∃i,xs=[.int i]/\Q (.int i) H)\/∃k,xs=[.bl k]/\Q (.int (if k then 1 else 0)) H):=by
 intro a s σ H xs c Q I r h;rcases h with⟨i,rfl,q⟩|⟨k,rfl,q⟩
 ·obtain⟨u,rfl,t,rfl⟩:=vals1 r;exact call_int_int ⟨.int i,H,I,⟨_,rfl⟩,q⟩
 ·obtain⟨u,rfl,b⟩:=vals1 r
  cases b;calc call_int_bool ⟨.int (if k then 1 else 0),H,I.tok _,⟨_,rfl⟩,q⟩
def EO(K:W.Frag)(x:V)(H:Hp)(n:Nat):Prop:=
 match x with
 | .str y=>y.length<=sizeLine/\n=y.length
 | .Au y=>y.size<=sizeLine/\n=y.size
 | .ref p=>(∃xs,aP K H p xs/\n=xs.length)\/∃xs,bz K H p xs/\n=xs.length
 |_=>False
theorem ER:fm X (.builtin "len") (λxs H Q=>∃x n,xs=[x]/\EO X.K x H n/\Q (.int n) H):=by
 intro i s σ H xs m Q I r h;obtain⟨x,n,rfl,e,q⟩:=h;obtain⟨u,rfl,c⟩:=vals1 r;have h:=qX;have h:sizeLine=16777216:=sizeLine_eq
 cases x with
 |str y=>
  obtain⟨t,rfl⟩:=c;obtain⟨j,b⟩:y.length<=sizeLine/\n=y.length:=e;subst b;calc len_str () ⟨.int _,H,I.tok _,⟨_,rfl⟩,q⟩
 |Au y=>
  obtain⟨t,rfl⟩:=c;obtain⟨j,b⟩:y.size<=sizeLine/\n=y.size:=e;subst b;calc W.len_bytes () ⟨.int _,H,I.tok _,⟨_,rfl⟩,q⟩
 |ref p=>
  cases c;have b:(∃xs,aP X.K H p xs/\n=xs.length)\/∃xs,bz X.K H p xs/\n=xs.length:=e;rcases b with⟨xs,d,b⟩|⟨xs,d,b⟩
  ·subst b;obtain⟨k,f,g,l⟩:=I.list d;have a:=f.length;exact Calls.call_len_list g.isList (by simp only[List.size_toArray];lia) ⟨.int xs.length,H,I.tok _,⟨_,by simp only[List.size_toArray];rw[a]⟩,q⟩
  ·subst b;obtain⟨k,f,g,l⟩:=I.tuple d;have a:=f.length;calc len_tuple g (by simp only[List.size_toArray];lia) ⟨.int xs.length,H,I.tok _,⟨_,by simp only[List.size_toArray];rw[a]⟩,q⟩
 |_=>calc(show False from e).elim
end
end
section
variable {C:Addr}{mA:Str->Option Value}{Q:Value->Shared->Prop}
structure y6(h:Heap)(x dx C:Addr)(mA:Str->Option Value):Prop where
 obj:h.get? x=some (W.instObj C dx)
 ns:h.Ns1 dx mA
 ne:dx≠x
theorem CH{h:Heap}{b:Addr}(n:h.Ns1 b mA):∃c,h.get? b=some c/\∀name,W.lookIn name c=some (mA name):=by
 obtain⟨o,d,p,f,g,i,_,j⟩:=n;calc⟨o,f,λname=>?_⟩;have e:=j name;unfold nsFind findBy at e;rw[<-Array.find?_toList]at e;unfold W.lookIn;rw[g];dsimp only;split
 ·rename_i y q;rw[q]at e;exact congrArg some e
 ·rename_i q;rw[q]at e;have a:d.toList.any (·.refKey)=false:=by
   rw[List.any_eq_false];intro y k;obtain⟨z,t,l⟩:=i y (Array.mem_toList_iff.mp k);simp[DictEntry.refKey,l]
  have m:¬d.toList.any (·.refKey)=true:=by rw[a];exact T'
  rw[if_neg m];calc congrArg some e
theorem y6.look{h:Heap}{x b:Addr}(I:y6 h x b C mA):∃a,W.InstAt h x (W.instObj C b) C (some a)/\∀name,W.lookIn name a=some (mA name):=
 let ⟨a,b,c⟩:=CH I.ns
 ⟨a,⟨I.obj,rfl,rfl,b⟩,c⟩
section
variable {prog:Program}{w:World}{A:Around}{E:Value->Shared->Prop}{s:Shared}{K:W.Frag}{x dx C f:Addr}{mA:Str->Option Value}{name:Str}{v:Value}
theorem get_map{a:Bool}(X:K.In s.heap)(I:y6 s.heap x dx C mA)(c:W.plainGet K C name=true)(d:W.hasDictIn K C=true)
  (e:W.findIn K (.ref C) name=some none) (f:mA name=some v) (b:W.handedIn v=true) (h:Q v {s with toks:=s.toks+1}):
  wpAny (model prog w) A (getAttr (.ref x) name a) Q E s:=by
 obtain⟨g,J,a⟩:=I.look;calc W.get_value X J (W.plainGet_of c).1 (W.findObj_own d e rfl (by rw[a,f])) b h
theorem ES{pl:Sem Bool}{Q:Value×List Value->Shared->Prop}(X:K.In s.heap)(I:y6 s.heap x dx C mA)(a:W.plainGet K C name=true)
  (b:W.findIn K (.ref C) name=some (some (.ref f))) (c:W.isFn K (.ref f)=true) (d:mA name=none) (h:Q (.ref f,[.ref x]) s):
  wpAny (model prog w) A (getMethod (.ref x) name pl) Q E s:=by
 obtain⟨e,J,g⟩:=I.look;calc W.method_fn X J (W.plainGet_of a).1 (W.plainGet_of a).2 b (beq_iff_eq.mp c) (by show(W.lookIn name e).map (·.isSome)=some false;rw[g,d];rfl) h
theorem JK{ns:List Str}{Q:Unit->Shared->Prop}(X:K.In s.heap)(I:y6 s.heap x dx C mA)
  (b:W.findIn K (.ref C) "__setattr__"=some (some (.builtin "object.__setattr__"))) (c:W.plainOver K C=true) (d:W.takerIn K C name=some none) (e:W.hasDictIn K C=true)
  (i:PySem.Within mA ns) (hsz:ns.length<=sizeLine)
  (h:∀h',y6 h' x dx C (λy=>if y=name then some v else mA y)->Heap.SameBut dx s.heap h'->Q ⟨⟩ {s with heap:=h',toks:=s.toks+2}):
  wpAny (model prog w) A (setAttr (.ref x) name v) Q E s:=by
 obtain⟨g,J,j⟩:=I.look;calc W.set_plain X J b (W.osa_open (s:={s with toks:=s.toks+1}) (r:=none) X J c d λb=>?_);obtain⟨d,b,c⟩:=W.any_some e;have d:s.heap.get? x=some ⟨.ref C,some dx,.plain,#[]⟩:=I.obj;calc E' (J' (E' (E' (wpAny_loadPart d (E' (W.Looks.here (s:={s with toks:=s.toks+1}) (W.looks_clsIn X b) ?_))))));rw[c];calc J' (a:=some dx) (E' (J' (E' ?_)));calc wpAny_nsSet1 (s:={s with toks:=s.toks+1}) I.ns λh' e g=>?_;obtain⟨l,j,k,b,c,d⟩:=e.count (PySem.Within.cons name v i);calc E' (wpAny_lookBehind b (by rw[c];calc pastItsLine_dict (aab d (by rw[List.length_cons];lia))) ?_);calc J' (h _ ⟨(g.2 _ (Ne.symm I.ne)).trans I.obj,e,I.ne⟩ g)
theorem ET{R:Result->Shared->Prop}{vs:List Value}{a:List (Str×Value)}(X:K.In s.heap)(b:W.makesIn K C=true)
  (c:W.findIn K (.ref C) "__init__"=some (some (.ref f))) (e:W.typeIn K (.ref f)=some (.type "function"))
  (h:codeAny (model prog w) (A.under (.builtin "type.__call__" ⟨.ref C::vs,a⟩)) (.call (.ref f) ⟨.ref (s.heap.objs.size + 1)::vs,a⟩) (W.InitBack (s.heap.objs.size + 1) R)
   {s with heap:=(s.heap.push W.emptyDict).push (W.instObj C s.heap.objs.size)}):
  codeAny (model prog w) A (.call (.ref C) ⟨vs,a⟩) R s:=by
 obtain⟨a,g,d,t,i⟩:=s;calc W.make_core (W.makes_of X b) (W.looks_findIn X c) (λa=>W.bind_fn X a e) (.inl rfl) h
end
def aX(f:Str)(v:V):List (Str×V)->List (Str×V)
 | []=>[(f,v)]
 |(g,x)::r=>if g=f then(g,v)::r else(g,x)::aX f v r
theorem bc(f g:Str)(v:V):∀a:List (Str×V),(aX f v a).lookup g=if g=f then some v else a.lookup g
 | []=>by
  show List.lookup g [(f,v)]=_;by_cases h:g=f
  ·have a:(g==f)=true:=beq_iff_eq.mpr h;simp only[List.lookup,a,if_pos h]
  ·have a:(g==f)=false:=beq_eq_false_iff_ne.mpr h;simp only[List.lookup,a,if_neg h]
 |(k,x)::r=>by
  have c:=bc f g v r;rw[show aX f v ((k,x)::r)=(if k=f then(k,v)::r else(k,x)::aX f v r) from rfl];by_cases b:k=f
  ·rw[if_pos b];by_cases h:g=k
   ·have a:(g==k)=true:=beq_iff_eq.mpr h;simp only[List.lookup,a,if_pos (h.trans b)]
   ·have a:(g==k)=false:=beq_eq_false_iff_ne.mpr h;simp only[List.lookup,a,if_neg (λe:g=f=>h (e.trans b.symm))]
  ·rw[if_neg b];by_cases h:g=k
   ·have a:(g==k)=true:=beq_iff_eq.mpr h;simp only[List.lookup,a,if_neg (λe:g=f=>b (h.symm.trans e))]
   ·have a:(g==k)=false:=beq_eq_false_iff_ne.mpr h;simp only[List.lookup,a];calc c
theorem oP(f:Str)(v:V):∀a:List (Str×V),f∈(aX f v a).map (·.1)/\∀g,g∈a.map (·.1)->g∈(aX f v a).map (·.1)
 | []=>⟨by simp[aX],λg h=>by simp at h⟩
 |(k,x)::r=>by
  obtain⟨c,d⟩:=oP f v r;rw[show aX f v ((k,x)::r)=(if k=f then(k,v)::r else(k,x)::aX f v r) from rfl];by_cases b:k=f
  ·rw[if_pos b];subst b;exact⟨nofun,λg h=>by simpa using h⟩
  ·rw[if_neg b];refine⟨?_,λg h=>?_⟩
   ·rw[List.map_cons];exact aac _ c
   ·rw[List.map_cons] at h ⊢;rcases List.mem_cons.mp h with e | e
    ·exact List.mem_cons.mpr (.inl e)
    ·calc aac _ (d g e)
theorem kj(f:Str)(v:V):∀a:List (Str×V),(aX f v a).length<=a.length+1
 | []=>by simp[aX]
 |(k,x)::r=>by
  have a:=kj f v r;rw[show aX f v ((k,x)::r)=(if k=f then(k,v)::r else(k,x)::aX f v r) from rfl];by_cases a:k=f
  ·rw[if_pos a,List.length_cons,List.length_cons];lia
  ·rw[if_neg a,List.length_cons,List.length_cons];lia
theorem j5.some_of{v:V}{o:Option Value}(r:j5 (some v) o):∃u,o=some u/\RelV v u:=by
 cases o with
 |none=>calc(show False from r).elim
 |some u=>calc⟨u,rfl,r⟩
theorem j5.none_of{o:Option Value}(r:j5 none o):o=none:=by
 cases o with
 |none=>rfl
 |some u=>calc(show False from r).elim
theorem CJ{v:V}{u:Value}(r:RelV v u):W.handedIn u=true:=by
 cases v with
 |bC=>cases(show u=Value.none from r);rfl
 |bl b=>cases(show u=Value.bool b from r);rfl
 |int i=>obtain⟨t,e⟩:=(show ∃t,u=Value.int i t from r);cases e;rfl
 |str x=>obtain⟨t,e⟩:=(show ∃t,u=Value.str x t from r);cases e;rfl
 |Au b=>obtain⟨t,e⟩:=(show ∃t,u=Value.bytes b t from r);cases e;rfl
 |LV b=>obtain⟨t,e⟩:=(show ∃t,u=Value.float b t from r);cases e;rfl
 |ref a=>cases(show u=Value.ref a from r);rfl
 |ty n=>cases(show u=Value.type n from r);rfl
section
variable {P:Program}{w:World}{H H':Hp}{h h':Heap}{a C dx:Addr}{fs yJ:List (Str×V)}
theorem nk(b:lZ P w H h)(e:H a=some (.ins C dx fs)):∃mA,y6 h a dx C mA/\(∀f,j5 (fs.lookup f) (mA f))/\PySem.Within mA (fs.map (·.1))/\fs.length<=1000/\H dx=some (.own a):=by
 obtain⟨d,z,c,f,mA,n,r,q⟩:=(show cg P w H h a (.ins C dx fs) from b a _ e)
 calc⟨mA,⟨f,n,c⟩,r,q,z,d⟩
end
structure vk(K:W.Frag)(C:Addr):Prop where
 pg:W.plainGet K C Str.empty=true
 hd:W.hasDictIn K C=true
 po:W.plainOver K C=true
 sa:W.findIn K (.ref C) "__setattr__"=some (some (.builtin "object.__setattr__"))
theorem vk.get{K:W.Frag}(c:vk K C)(f:Str):W.plainGet K C f=true:=c.pg
def cF(K:W.Frag)(C:Addr)(f:Str):Prop:=W.findIn K (.ref C) f=some none
theorem cF.Td{K:W.Frag}{f:Str}(n:cF K C f):W.takerIn K C f=some none:=by
 unfold W.takerIn;rw[show W.findIn K (.ref C) f=some none from n];rfl
structure Meth(K:W.Frag)(C:Addr)(m:Str)(f:Addr):Prop where
 at_:W.findIn K (.ref C) m=some (some (.ref f))
 fn:W.isFn K (.ref f)=true
 kp:W.keepIn K (.ref f)=true
section
variable {X:Cx}{pins:List (Addr×Obj)}{σ:St}{H:Hp}{s:Shared}{a C dx:Addr}{fs:List (Str×V)}{f:Str}{v:V}{A:Around}{E:Value->Shared->Prop}
theorem y7{b:Bool}(I:Inv X pins σ H s)(e:H a=some (.ins C dx fs))(c:vk X.K C)(n:cF X.K C f)(l:fs.lookup f=some v)
  (h:∀u s',Inv X pins σ H s'->RelV v u->Q u s'):wpAny (model X.prog X.w) A (getAttr (.ref a) f b) Q E s:=by
 obtain⟨mA,O,r,_,_,_⟩:=nk I.aO e;obtain⟨u,d,b⟩:=j5.some_of (v:=v) (o:=mA f) (by rw[<-l];calc r f);calc get_map I.j2 O (c.get f) c.hd n d (CJ b) (h u _ (I.tok _) b)
theorem qY{m:Str}{g:Addr}{pl:Sem Bool}{Q:Value×List Value->Shared->Prop}(I:Inv X pins σ H s)(e:H a=some (.ins C dx fs))(c:vk X.K C)(k:Meth X.K C m g)(l:fs.lookup m=none)
  (h:Q (.ref g,[.ref a]) s):wpAny (model X.prog X.w) A (getMethod (.ref a) m pl) Q E s:=by
 obtain⟨mA,O,r,_,_,_⟩:=nk I.aO e;have b:mA m=none:=j5.none_of (by rw[<-l];calc r m);calc ES I.j2 O (c.get m) k.at_ k.fn b h
theorem y8{y:V}{u:Value}{Q:Unit->Shared->Prop}(I:Inv X pins σ H s)(e:H a=some (.ins C dx fs))(c:vk X.K C)(n:cF X.K C f)(b:fs.length<1000)(k:RelV y u)
  (h:∀s',Inv X pins σ (upd H a (.ins C dx (aX f y fs))) s'->Q ⟨⟩ s'):wpAny (model X.prog X.w) A (setAttr (.ref a) f u) Q E s:=by
 obtain⟨mA,O,r,i,_,j⟩:=nk I.aO e;have b:(fs.map (·.1)).length<=sizeLine:=by rw[List.length_map,sizeLine_eq];lia
 calc JK I.j2 O c.sa c.po n.Td c.hd i b λg d l=>h _ ?_;have hd:∃o,g.get? dx=some o:=let ⟨o,_,_,b,_⟩:=d.ns;⟨o,b⟩
 calc I.write (x:=a) (e:=dx) (by rw[e];calc aah) (.inr j) (λb q c z=>(l.2 b c).trans z) hd ?_;refine⟨by rw[av O.ne];calc j,?_,O.ne,d.obj,_,d.ns,λg=>?_,λg b=>?_⟩
 ·have:=kj f y fs;lia
 ·show j5 ((aX f y fs).lookup g) (if g=f then some u else mA g);rw[bc];by_cases q:g=f
  ·rw[if_pos q,if_pos q];exact k
  ·rw[if_neg q,if_neg q];exact r g
 ·by_cases q:g=f
  ·rw[q];exact(oP f y fs).1
  ·calc(oP f y fs).2 g (i g λz=>b ?_);show(if g=f then some u else mA g)=none;rw[if_neg q];calc z
theorem Inv.made(I:Inv X pins σ H s):Inv X pins σ (upd (upd H s.heap.objs.size (.own (s.heap.objs.size+1))) (s.heap.objs.size+1) (.ins C s.heap.objs.size []))
  {s with heap:=(s.heap.push W.emptyDict).push (W.instObj C s.heap.objs.size)}:=by
 have c:(s.heap.push W.emptyDict).get? s.heap.objs.size=some W.emptyDict:=X' s.heap rfl;have d:((s.heap.push W.emptyDict).push (W.instObj C s.heap.objs.size)).get? (s.heap.objs.size+1)=some (W.instObj C s.heap.objs.size):=by
  have:=X' (s.heap.push W.emptyDict) (o:=W.instObj C s.heap.objs.size) rfl;rwa [Heap.size_push]at this
 have f:(s.heap.push W.emptyDict).Ns s.heap.objs.size (λ_=>none):=⟨W.emptyDict,#[],_,c,rfl,(λe b=>absurd b nofun),λ_=>rfl⟩
 have e:=I.laid (a:=s.heap.objs.size) (o:=.own (s.heap.objs.size+1)) (h':=s.heap.push W.emptyDict) (t':=s.toks) (λb u q=>K' _ q) (P' _) ⟨_,c⟩;calc e.laid (a:=s.heap.objs.size+1) (o:=.ins C s.heap.objs.size []) (t':=s.toks) (λb u q=>K' _ q) (Nat.le_of_eq (Heap.size_push _ _)) ?_;have b:s.heap.objs.size≠s.heap.objs.size+1:=aaa (Nat.lt_succ_self _);calc⟨by rw[av b,ab],Y' _,b,d,λ_=>none,(Heap.Ns1.of_empty f).at λo q=>K' _ q,λ_=>aah,λy b=>absurd rfl b⟩
theorem JL{prog:Program}{w:World}{env:Env}{e:Expr}{f:Str}{b:Pos}{s:Shared}(c:attributeBase e f env (eval e env)=eval e env)
  (h:wpAny (model prog w) A (eval e env) (λo a=>wpAny (model prog w) A (getAttr o f true) Q E a) E s):wpAny (model prog w) A (eval (.Attribute e f b) env) Q E s:=
 Attribute_any_ h (by rw[arm_eval_Attribute,c])
end
def JM(K:W.Frag)(a:TE)(f:Str):TE:=λσ H Q=>a σ H λx b=>∃a C d c v,x=.ref a/\b a=some (.ins C d c)/\vk K C/\cF K C f/\c.lookup f=some v/\Q v b
def Of(K:W.Frag)(a b:TE)(f:Str):TS:=λD σ H=>b σ H λy d=>a σ d λx c=>∃a C d b,x=.ref a/\c a=some (.ins C d b)/\vk K C/\cF K C f/\b.length<1000/\
 D.nx σ (upd c a (.ins C d (aX f y b)))
section
variable {X:Cx}{o e value:Expr}{f:Str}{pos pos' Og:Pos}{ta tv:TE}
theorem bF(b:PE X e ta)(d:attributeBase e f X.env (eval e X.env)=eval e X.env):PE X (.Attribute e f pos) (JM X.K ta f):=by
 walk_at "xc";refine JL d (cO (b pins s σ H _ I h) λu p g=>?_);obtain⟨x,i,j,k,a,C,b,d,v,m,o,c,n,l,q⟩:=g;subst m;obtain rfl:u=Value.ref a:=k;exact y7 j o c n l λd g a b=>⟨v,i,a,b,q⟩
theorem fw(b:PE X o ta)(d:PE X value tv)(e:swapsWith value (some (.Attribute o f pos')) pos.line X.env=pure false):PS X (.Assign [.Attribute o f pos'] value pos) (Of X.K ta tv f):=by
 walk_at "xd";refine plainObj_wpAny_Assign_Attribute (cO (d pins s σ H _ I h) λu g ⟨y,i,j,k,q⟩=>cO (b pins g σ i _ j q) λm d p=>?_) e;obtain⟨x,b,r,t,a,C,d,g,v,w,c,n,l,z⟩:=p;subst v;obtain rfl:m=Value.ref a:=t;exact y8 r w c n l k λb a=>⟨σ,_,a,z⟩
end
section
variable {X:Cx}{pins:List (Addr×Obj)}{σ:St}{H:Hp}{s:Shared}{A:Around}{E:Value->Shared->Prop}{Q:Value->Shared->Prop}{c:Value}{b:Bool}
inductive gs(K:W.Frag)(H:Hp):V->Value->Prop where
  |bC:gs K H .bC (.type "NoneType")
  |bl (x:Bool):gs K H (.bl x) (.type "bool")
  |int (i:Int):gs K H (.int i) (.type "int")
  |str (x:Str):gs K H (.str x) (.type "str")
  |LV (x:UInt64):gs K H (.LV x) (.type "float")
  |lst {a:Addr} {xs:List V} (e:H a=some (.lst xs)):gs K H (.ref a) (.type "list")
  |lD {a:Addr} {o:Obj} {xs:List V} (e:H a=some (.lD o (.lst xs))):gs K H (.ref a) (.type "list")
  |tup {a:Addr} {xs:List V} (e:H a=some (.tup xs)):gs K H (.ref a) (.type "tuple")
  |dK {a:Addr} {kvs:List (Key×V)} (e:H a=some (.dK kvs)):gs K H (.ref a) (.type "dict")
  |dT {a:Addr} {kvs:List (List Key×V)} (e:H a=some (.dT kvs)):gs K H (.ref a) (.type "dict")
  | ins {a C dx:Addr} {fs:List (Str×V)} (e:H a=some (.ins C dx fs)) (cl:vk K C) (ha:W.findIn K (.ref C) "__class__"=some (some (.builtin "object.__class__")))
      (hn:W.specialIn K (.builtin "object.__class__") "__get__"=some (some (.builtin "getset_descriptor.__get__"))) (Rq:W.takesIn K (.builtin "object.__class__")=some true)
      (hm:W.mroIn K C (.type "object")=some true):gs K H (.ref a) (.ref C)
theorem ug{x:V}{u t:Value}(I:Inv X pins σ H s)(d:RelV x u)(r:gs X.K H x t)(e:W.kitOne X.K t c=some b)(h:∀v,Q (.bool b) {s with toks:=v}):
  wpAny (model X.prog X.w) A (call (.builtin "isinstance") [u,c]) Q E s:=by
 cases r with
 |bC=>cases(show u=Value.none from d);calc W.kia_one W.kitx_none I.j2 aah e (λz=>nomatch z) h
 |bl y=>cases(show u=Value.bool y from d);calc W.kia_one W.kitx_bool I.j2 aah e (λz=>nomatch z) h
 |int i=>obtain⟨t,q⟩:=(show ∃t,u=Value.int i t from d);cases q;calc W.kia_one W.kitx_int I.j2 aah e (λz=>nomatch z) h
 |str y=>obtain⟨t,q⟩:=(show ∃t,u=Value.str y t from d);cases q;calc W.kia_one W.kitx_str I.j2 aah e (λz=>nomatch z) h
 |LV y=>obtain⟨t,q⟩:=(show ∃t,u=Value.float y t from d);cases q;calc W.kia_one W.kitx_float I.j2 aah e (λz=>nomatch z) h
 | @lst a k f=>
  cases(show u=Value.ref a from d);obtain⟨_,_,n,_,g⟩:=(show cg X.prog X.w H s.heap a (.lst k) from I.aO a _ f)
  calc W.kia_one W.kitx_list I.j2 ⟨_,g,rfl⟩ e (λz=>nomatch z) h
 | @lD a B k f=>
  cases(show u=Value.ref a from d);obtain⟨_,_,_,n,_,g⟩:=(show cg X.prog X.w H s.heap a (.lD B (.lst k)) from I.aO a _ f)
  calc W.kia_one W.kitx_list I.j2 ⟨_,g,rfl⟩ e (λz=>nomatch z) h
 | @tup a k f=>
  cases(show u=Value.ref a from d);obtain⟨_,_,_,p⟩:=(show cg X.prog X.w H s.heap a (.tup k) from I.aO a _ f)
  obtain⟨o,g,l,_⟩:=p;calc W.kia_one W.kitx_tuple I.j2 ⟨o,g,l⟩ e (λz=>nomatch z) h
 | @dK a j f=>
  cases(show u=Value.ref a from d);obtain⟨_,_,i,_,p⟩:=(show cg X.prog X.w H s.heap a (.dK j) from I.aO a _ f)
  obtain⟨o,D,F,g,l,_⟩:=p;calc W.kia_one W.kitx_dict I.j2 ⟨o,g,l.1⟩ e (λz=>nomatch z) h
 | @dT a j f=>
  cases(show u=Value.ref a from d);obtain⟨_,_,k,_,o,D,F,g,l,_⟩:=(show cg X.prog X.w H s.heap a (.dT j) from I.aO a _ f)
  calc W.kia_one W.kitx_dict I.j2 ⟨o,g,l.1⟩ e (λz=>nomatch z) h
 | @ins a C g i f m G L M N=>
  cases(show u=Value.ref a from d);obtain⟨mA,O,_⟩:=nk I.aO f;obtain⟨a,J,_⟩:=O.look;calc W.kia_one (W.kitx_own (m.get _) m.hd G L M N) I.j2 J e (λz=>nomatch z) h
end
end
section
variable {A:Around}{base:Heap}{H:Hp}{kw:List (Str×Value)}{us:List Value}{s:Shared}{mg:Str->Option Value}{K:W.Frag}
structure eV(k:Nat)(A:Around):Prop where
 hd:A.handled=none
 dp:A.depth+3*k+5<recursionLimit
 un:A.units+16*k+200<cLine
theorem eV.mono{j k:Nat}(r:eV k A)(h:j<=k):eV j A:=⟨r.hd,by have:=r.dp;lia,by have:=r.un;lia⟩
theorem eV.deeper{k:Nat}(r:eV (k+1) A)(env:Env):eV k (A.deeper env):=
 ⟨r.hd,by have:=r.dp;show A.depth+1+3*k+5<_;lia,by have:=r.un;show A.units+3+16*k+200<_;lia⟩
theorem y9{C:Addr}:(A.under (.builtin "type.__call__" ⟨.ref C::us,kw⟩)).depth=A.depth+1:=by
 first|rfl|simp[Around.under,Code.weight,Code.isCreation,Code.isGuard,Code.isCaller,Code.frames,Code.isFrame,guardIds]
theorem za{C:Addr}:(A.under (.builtin "type.__call__" ⟨.ref C::us,kw⟩)).units=A.units+1:=by
 first|rfl|simp[Around.under,Code.cUnits,Code.frames,Code.isFrame]
theorem eV.make{k:Nat}(r:eV (k+1) A)(C:Addr)(us:List Value)(kw:List (Str×Value)):eV k (A.under (.builtin "type.__call__" ⟨.ref C::us,kw⟩)):=
 ⟨r.hd,by have:=r.dp;rw[y9];lia,by have:=r.un;rw[za];lia⟩
theorem eV.depth{k:Nat}(r:eV k A):A.depth<recursionLimit:=by have:=r.dp;lia
theorem eV.units{k:Nat}(r:eV k A):A.units+64<cLine:=by have:=r.un;lia
def EU:TA:=λ_ H Q=>Q [] H
def AJ(a:TE)(b:TA):TA:=λσ H Q=>a σ H λx c=>b σ c λxs a=>Q (x::xs) a
section
variable {X:Cx}{e:Expr}{es:List Expr}{te:TE}{t:TA}{pos:Pos}
theorem aa:PA X [] EU:=.mk λ_ _ _ _ H Q I h=>Calls.spliced_nil ⟨[],H,I,.nil,h⟩
theorem JN(b:PE X e te)(c:PA X es t)(d:starEach (e::es) X.env=(false,eval e X.env)::starEach es X.env:=by rfl):PA X (e::es) (AJ te t):=by
 calc⟨?_⟩;intro pos a s σ H Q I h;rw[d];show wpAny _ _ (spliced ((false,eval e X.env)::backTo pos (starEach es X.env))) _ _ s;calc Calls.spliced_cons (cO (b a s σ H _ I h) λu f g=>?_);obtain⟨x,b,d,h,i⟩:=g;calc cO (c pos a f σ b _ d i) λus o ⟨j,k,l,m,n⟩=>⟨x::j,k,l,.cons h m,n⟩
def Oh(t:TA):TE:=λσ H Q=>t σ H λxs a=>xs.length<=sizeLine/\∀p,a p=none->Q (.ref p) (upd a p (.tup xs))
def Oi(t:TA):TE:=λσ H Q=>t σ H λxs a=>xs.length<=sizeLine/\∀p,a p=none->Q (.ref p) (upd a p (.lst xs))
theorem bD{a}(h:PA X es t):PE X (.Tuple es a pos) (Oh t):=by
 calc⟨?_⟩;intro a s σ H Q I f;calc wpAny_Tuple_spliced (cO (h pos a s σ H _ I f) λus c ⟨g,b,d,r,z,q⟩=>⟨by rw[<-r.length];calc z,?_⟩);have a:b c.heap.objs.size=none:=d.aO.fresh (P' _);calc⟨.ref c.heap.objs.size,upd b c.heap.objs.size (.tup g),d.laid (t':=c.toks) (λb u e=>K' _ e) (P' _) ?_,rfl,q _ a⟩;calc⟨z,us,r,⟨_,X' _ rfl,rfl,_,rfl⟩⟩
theorem bu(h:PA X es t):PE X (.List es pos) (Oi t):=by
 calc⟨?_⟩;intro a s σ H Q I f;calc wpAny_List_spliced (cO (h pos a s σ H _ I f) λus c ⟨g,b,d,r,z,q⟩=>⟨by rw[<-r.length];calc z,?_⟩);have a:b c.heap.objs.size=none:=d.aO.fresh (P' _);calc⟨.ref c.heap.objs.size,upd b c.heap.objs.size (.lst g),d.laid (t':=c.toks) (λb u e=>K' _ e) (P' _) ?_,rfl,q _ a⟩;calc⟨z,us,0,r,X' _ rfl⟩
end
abbrev Sp:=List V->Hp->VK->XK->Prop
abbrev IP:=List Env->Hp->Shared->XK->Value->Shared->Prop
structure zb(P:Program)(w:World)(K:W.Frag)(mg:Str->Option Value)(base:Heap)(A:Around)(outer:List Env)(s:Shared)(H:Hp):Prop where
 frames:A.frames=some outer
 mod:Mod K mg base
 bs:∀b o,base.get? b=some o->s.heap.get? b=some o/\H b=none
 Ex:base.objs.size<=s.heap.objs.size
 oK:s.heap.FunFrames base outer
 LW:∀b∈Ct outer,H b=none
 aO:lZ P w H s.heap
 bare:AllBare s.gens
def CE(outer:List Env)(P:Program)(w:World)(H:Hp)(s:Shared)(Q:VK)(u:Value)(s':Shared):Prop:=
 ∃v a,s'.os=s.os/\AllBare s'.gens/\Un (Ct outer) [] H a s.heap s'.heap/\lZ P w a s'.heap/\RelV v u/\Q v a
def CR(CX:IP)(outer:List Env)(P:Program)(w:World)(H:Hp)(s:Shared)(Q:VK)(E:XK)(r:Result)(s':Shared):Prop:=
 match r with
 | .ok (.ret u)=>CE outer P w H s Q u s'
 | .ok _=>False
 | .error e=>CX outer H s E e s'
structure lK(P:Program)(w:World)(K:W.Frag)(mg:Str->Option Value)(base:Heap)(CX:IP)(k:Nat)(f:Addr)(fd:FuncData)(ps:List Str)(sp:Sp):Prop where
 len:∀vs H Q E,sp vs H Q E->vs.length=ps.length
 run:∀(A:Around) (outer:List Env) (s:Shared) (H:Hp) (args:Args) (us:List Value) (vs:List V) (Q:VK) (E:XK),eV k A->zb P w K mg base A outer s H->BindsTo s fd args (ps.zip us)->Vals vs us->sp vs H Q E->
  codeAny (model P w) A (.call (.ref f) args) (CR CX outer P w H s Q E) s
theorem zb.make{P:Program}{w:World}{outer:List Env}(e:zb P w K mg base A outer s H)(C:Addr)(us:List Value)(kw:List (Str×Value)):
  zb P w K mg base (A.under (.builtin "type.__call__" ⟨.ref C::us,kw⟩)) outer s H:=⟨by first|exact e.frames|(simpa[Around.under,Code.envs,Code.isFrame,pushEnvs] using e.frames),e.mod,e.bs,e.Ex,e.oK,e.LW,e.aO,e.bare⟩
section
variable {X:Cx}{pins:List (Addr×Obj)}{σ:St}{H:Hp}{s s':Shared}
theorem Inv.Te(I:Inv X pins σ H s):zb X.prog X.w X.K X.mg X.base X.A X.stack s H:=
 ⟨I.ok.frames,I.ok.mod,I.bs,aab I.ok.Ex I.sz,I.stack,I.Av,I.aO,I.bare⟩
theorem Inv.after{Q:VK}{u:Value}(I:Inv X pins σ H s)(h:CE X.stack X.prog X.w H s Q u s'):EP X pins σ Q u s':=by
 obtain⟨v,c,os,a,e,f,r,q⟩:=h;obtain⟨i,g,d,t,b⟩:=s';obtain rfl:b=s.os:=os;calc⟨v,c,I.call (h':=i) (g':=g) (d':=d) (t':=t) (ch:=[]) e f a (λb z=>absurd z nofun),r,q⟩
end
def wU(sp:Sp)(a:List V)(E:XK)(t:TA):TE:=λσ H Q=>t σ H λvs b=>sp (vs++a) b Q E
def uh(C:Addr)(m:Str)(sp:Sp)(d:List V)(E:XK)(a:TE)(t:TA):TE:=λσ H Q=>a σ H λx b=>∃a e c,x=.ref a/\b a=some (.ins C e c)/\c.lookup m=none/\
 t σ b λvs a=>sp (x::(vs++d)) a Q E
def AK(C:Addr)(sp:Sp)(c:List V)(E:XK)(t:TA):TE:=λσ H Q=>t σ H λvs b=>∀x a,b x=none->b a=none->a≠x->
 sp (.ref x::(vs++c)) (upd (upd b a (.own x)) x (.ins C a [])) (λv d=>v=.bC/\Q (.ref x) d) E
def Binds(K:W.Frag)(c:FuncData)(a:List Str)(b:List Value):Prop:=
 ∀(s:Shared) (us:List Value),K.In s.heap->(us++b).length=a.length->BindsTo s c ⟨us,[]⟩ (a.zip (us++b))
theorem Binds.all{b:FuncData}{a:List Str}(h:∀us:List Value,us.length=a.length->bindArgs b ⟨us,[]⟩=pure (a.zip us)):Binds K b a []:=λs us _ a=>by
 rw[List.append_nil]at a ⊢;calc .of_eq (h us a)
def Passes(CX:IP)(X:Cx)(E:XK):Prop:=∀(pins:List (Addr×Obj)) (σ:St) (H:Hp) (s:Shared) (e:Value) (s':Shared),Inv X pins σ H s->CX X.stack H s E e s'->X.xe e s'
section
variable {X:Cx}{CX:IP}{k:Nat}{f C:Addr}{fd:FuncData}{ps:List Str}{sp:Sp}{tm:List V}{ds:List Value}{E:XK}{x m:Str}{p pos apos:Pos}{e o:Expr}{es:List Expr}{ta:TE}{t:TA}
theorem zc{pins:List (Addr×Obj)}{σ:St}{H:Hp}{s:Shared}{Q:VK}{us:List Value}{vs:List V}(F:lK X.prog X.w X.K X.mg X.base CX k f fd ps sp)(c:eV k X.A)(d:Binds X.K fd ps ds)(g:Vals tm ds)(i:Passes CX X E)
  (I:Inv X pins σ H s) (r:Vals vs us) (h:sp (vs++tm) H Q E):wpAny (model X.prog X.w) X.A (call (.ref f) us) (EP X pins σ Q) X.xe s:=by
 have b:Vals (vs++tm) (us++ds):=r.append g;have j:(us++ds).length=ps.length:=by rw[<-b.length];exact F.len _ _ _ _ h
 refine wpAny_call (codeAny_mono (F.run X.A X.stack s H ⟨us,[]⟩ (us++ds) (vs++tm) Q E c I.Te (d s us I.j2 j) b h) λr l a=>?_)
 cases r with
 |error e=>calc i pins σ H s e l I a
 |ok m=>
  cases m with
  |ret u=>calc I.after a
  |next=>calc aaq a
  |brk=>calc aaq a
  |cont=>calc aaq a
theorem JO(F:lK X.prog X.w X.K X.mg X.base CX k f fd ps sp)(b:eV k X.A)(a:Gl X x)(c:X.mg x=some (.ref f))(d:W.keepIn X.K (.ref f)=true)(g:Binds X.K fd ps ds)(i:Vals tm ds)(j:Passes CX X E)
  (l:PA X (e::es) t) (m:(x==("__debug__":Str))=false:=by decide) (n:starEach (e::es) X.env=(false,eval e X.env)::starEach es X.env:=by rfl) (o:(backTo pos (starEach es X.env)).any (·.1)=false:=by rfl):
  PE X (.Call (.Name x p) (e::es) [] pos) (wU sp tm E t):=by
 walk_at "xc";refine wpAny_Call_Name_kw (qK I a c ?_ m);refine W.callWith_K (h₀:=X.base) I.ok.mod.Rl d (cO (l pos pins s σ H _ I h) λus c ⟨m,u,a,r,q⟩=>⟨a.j2,?_⟩) n o;exact zc F b g i j a r q
theorem JP{pl:Sem Bool}(i:PE X o ta)(c:vk X.K C)(b:Meth X.K C m f)(F:lK X.prog X.w X.K X.mg X.base CX k f fd ps sp)(j:eV k X.A)(n:Binds X.K fd ps ds)(p:Vals tm ds)(v:Passes CX X E)(y:PA X (e::es) t)
  (z:starEach (e::es) X.env=(false,eval e X.env)::starEach es X.env:=by rfl) (B:(backTo pos (starEach es X.env)).any (·.1)=false:=by rfl)
  (r:eval (.Call (.Attribute o m apos) (e::es) [] pos) X.env=(do
   let d <-eval o X.env
   standAt apos.atName
   let (f,first) <-holding [d] (getMethod d m pl)
   callWith pos f first (backTo pos (starEach (e::es) X.env)) (backToKw pos (keywordEach [] X.env))):=by rfl):
  PE X (.Call (.Attribute o m apos) (e::es) [] pos) (uh C m sp tm E ta t):=by
 walk_at "xc";refine W.methodCall_KW (pl:=pl) (cO (i pins s σ H _ I h) λu D G=>?_) r;obtain⟨x,J,g,L,a,d,i,M,N,l,q⟩:=G;subst M;obtain rfl:u=Value.ref a:=L;refine qY g N c b l ?_;refine W.callWith_K (first:=[.ref a]) (h₀:=X.base) I.ok.mod.Rl b.kp (cO (y pos pins D σ J _ g q) λus l ⟨c,u,d,r,i⟩=>⟨d.j2,?_⟩) z B;exact zc (us:=.ref a::us) (vs:=.ref a::c) F j n p v d (.cons rfl r) i
theorem EV{pl:Sem Bool}(g:PE X o ta)(c:vk X.K C)(d:Meth X.K C m f)(F:lK X.prog X.w X.K X.mg X.base CX k f fd ps sp)(i:eV k X.A)(j:Binds X.K fd ps ds)(n:Vals tm ds)(p:Passes CX X E)
  (r:eval (.Call (.Attribute o m apos) [] [] pos) X.env=(do
   let e <-eval o X.env
   standAt apos.atName
   let (f,first) <-holding [e] (getMethod e m pl)
   callWith pos f first (backTo pos (starEach [] X.env)) (backToKw pos (keywordEach [] X.env))):=by rfl):
  PE X (.Call (.Attribute o m apos) [] [] pos) (uh C m sp tm E ta EU):=by
 walk_at "xc";refine W.methodCall_KW (pl:=pl) (cO (g pins s σ H _ I h) λu e t=>?_) r;obtain⟨x,e,b,v,a,g,B,y,z,l,q⟩:=t;subst y;obtain rfl:u=Value.ref a:=v;refine qY b z c d l ?_;exact W.callWith_K0 (first:=[.ref a]) b.j2 d.kp (zc (us:=[.ref a]) (vs:=[.ref a]) F i j n p b (.cons rfl .nil) q)
structure Mk(K:W.Frag)(C f:Addr):Prop where
 makes:W.makesIn K C=true
 init:W.findIn K (.ref C) "__init__"=some (some (.ref f))
 fn:W.isFn K (.ref f)=true
 kp:W.keepIn K (.ref C)=true
theorem EW{pins:List (Addr×Obj)}{σ:St}{Q:VK}{vs:List V}(M:Mk X.K C f)(F:lK X.prog X.w X.K X.mg X.base CX k f fd ps sp)(hr:eV (k+1) X.A)(g:Binds X.K fd ps ds)(i:Vals tm ds)
  (j:Passes CX X E) (I:Inv X pins σ H s) (r:Vals vs us)
  (h:∀x b,H x=none->H b=none->b≠x->sp (.ref x::(vs++tm)) (upd (upd H b (.own x)) x (.ins C b [])) (λv d=>v=.bC/\Q (.ref x) d) E):
  wpAny (model X.prog X.w) X.A (call (.ref C) us) (EP X pins σ Q) X.xe s:=by
 have b:=h (s.heap.objs.size+1) s.heap.objs.size (I.aO.fresh (Nat.le_succ _)) (I.aO.fresh (P' _)) (aaa (Nat.lt_succ_self _));have c:=Inv.made (C:=C) I;have d:Vals (V.ref (s.heap.objs.size+1)::(vs++tm)) (Value.ref (s.heap.objs.size+1)::(us++ds)):=.cons rfl (r.append i);have l:(Value.ref (s.heap.objs.size+1)::us++ds).length=ps.length:=by
  have e:=d.length;rw[F.len _ _ _ _ b]at e;exact e.symm
 refine wpAny_call (ET (f:=f) I.j2 M.makes M.init (beq_iff_eq.mp M.fn) (codeAny_mono (F.run _ X.stack _ _ ⟨Value.ref (s.heap.objs.size + 1)::us,[]⟩ (Value.ref (s.heap.objs.size + 1)::(us++ds)) _ _ E (hr.make C us [])
  (c.Te.make C us []) (g _ (Value.ref (s.heap.objs.size + 1)::us) c.j2 l) d b) λr m a=>?_))
 cases r with
 |error e=>calc j pins σ _ _ e m c a
 |ok n=>
  cases n with
  |ret u=>
   obtain⟨v,o,p,q,t,y⟩:=c.after a;subst t;calc⟨q,⟨V.ref (s.heap.objs.size+1),o,p,rfl,y⟩⟩
  |next=>calc aaq a
  |brk=>calc aaq a
  |cont=>calc aaq a
theorem JQ(M:Mk X.K C f)(F:lK X.prog X.w X.K X.mg X.base CX k f fd ps sp)(b:eV (k+1) X.A)(a:Gl X x)(c:X.mg x=some (.ref C))(d:Binds X.K fd ps ds)(g:Vals tm ds)(i:Passes CX X E)
  (j:PA X (e::es) t) (l:(x==("__debug__":Str))=false:=by decide) (m:starEach (e::es) X.env=(false,eval e X.env)::starEach es X.env:=by rfl) (n:(backTo pos (starEach es X.env)).any (·.1)=false:=by rfl):
  PE X (.Call (.Name x p) (e::es) [] pos) (AK C sp tm E t):=by
 walk_at "xc";refine wpAny_Call_Name_kw (qK I a c ?_ l);refine W.callWith_K (h₀:=X.base) I.ok.mod.Rl M.kp (cO (j pos pins s σ H _ I h) λus c ⟨l,o,a,r,q⟩=>⟨a.j2,?_⟩) m n;exact EW M F b d g i a r q
end
structure aB(N P:List Str)(sc:Scope):Prop where
 kind:sc.kind=.function
 co:sc.isCoroutine=false
 gen:sc.isGenerator=false
 nd:N.Nodup
 pre:N.take P.length=P
 par:∀x∈P,sc.names.lookup x=some .local\/sc.names.lookup x=some .cell
 Oj:∀y∈sc.names,y.2≠.free
theorem ui{b:Str->Option NameKind}{x:Str}:∀{a:List (Str×Value)}{m:Str->Option Value},(∀v,(x,v)∉a)->bindL b a m x=m x
 | [],_,_=>rfl
 |(n,v)::r,m,h=>by
  unfold bindL;rw[ui λw c=>h w (List.mem_cons_of_mem _ c)];split
  ·have:x≠n:=by rintro rfl;exact h v aag
   simp[this]
  ·rfl
theorem uj{b:Str->Option NameKind}{x:Str}:∀{a:List (Str×Value)}{m:Str->Option Value},(∀v,(x,v)∉a)->bindC b a m x=m x
 | [],_,_=>rfl
 |(n,v)::r,m,h=>by
  unfold bindC;rw[uj λw c=>h w (List.mem_cons_of_mem _ c)];split
  ·rfl
  ·have:x≠n:=by rintro rfl;exact h v aag
   simp[this]
theorem uk{a:Str->Option NameKind}{x:Str}{v:Value}:∀{P:List Str}{vs:List Value}{i:Nat}{m:Str->Option Value},P.Nodup->P[i]?=some x->vs[i]?=some v->a x=some .local->
  bindL a (P.zip vs) m x=some v
 | [],_,_,_,_,h,_,_=>by simp at h
 |_::_,[],_,_,_,_,h,_=>by simp at h
 |p::P,w::vs,0,m,d,b,c,e=>by
  simp at b c;subst b;subst c;show bindL a ((p,w)::P.zip vs) m p=_;unfold bindL;rw[ui λv f=>(List.nodup_cons.mp d).1 (List.of_mem_zip f).1,if_pos e];simp
 |p::P,w::vs,i+1,m,d,b,c,e=>by
  show bindL a ((p,w)::P.zip vs) m x=_;unfold bindL;calc uk (i:=i) (List.nodup_cons.mp d).2 (by simpa using b) (by simpa using c) e
theorem um{a:Str->Option NameKind}{x:Str}{v:Value}:∀{P:List Str}{vs:List Value}{i:Nat}{m:Str->Option Value},P.Nodup->P[i]?=some x->vs[i]?=some v->a x≠some .local->
  bindC a (P.zip vs) m x=some v
 | [],_,_,_,_,h,_,_=>by simp at h
 |_::_,[],_,_,_,_,h,_=>by simp at h
 |p::P,w::vs,0,m,d,b,c,e=>by
  simp at b c;subst b;subst c;show bindC a ((p,w)::P.zip vs) m p=_;unfold bindC;rw[uj λv f=>(List.nodup_cons.mp d).1 (List.of_mem_zip f).1,if_neg e];simp
 |p::P,w::vs,i+1,m,d,b,c,e=>by
  show bindC a ((p,w)::P.zip vs) m x=_;unfold bindC;calc um (i:=i) (List.nodup_cons.mp d).2 (by simpa using b) (by simpa using c) e
def start(N:List Str)(vs:List V):St:=vs.map some++List.replicate (N.length-vs.length) none
def qZ(CX:IP)(P:Program)(w:World)(K:W.Frag)(mg:Str->Option Value)(base:Heap)(N:List Str)(a:Str)(scope:Scope)(f:Addr)(b:Value)(A:Around)(outer:List Env)(s:Shared)(H:Hp)(E:XK):Cx where
 prog:=P
 w:=w
 K:=K
 mg:=mg
 base:=base
 A:=A.deeper (envOfC a scope s.heap.objs.size f b)
 N:=N
 s₀:=s
 H₀:=H
 env:=envOfC a scope s.heap.objs.size f b
 outer:=outer
 stack:=envOfC a scope s.heap.objs.size f b::outer
 ex:=[]
 calm:=true
 fn:=λ_=>true
 pn:=[]
 xe:=λe s'=>wpAny (model P w) (A.deeper (envOfC a scope s.heap.objs.size f b)) (leaving (envOfC a scope s.heap.objs.size f b) e) (λ_ c=>CX outer H s E e c) (λa c=>CX outer H s E a c) s'
theorem wV{a:Scope}{n:Nat}{x:Str}(h:a.names.lookup x=some .cell):∃c,(cellsFrom n a.names []).lookup x=some c:=by
 have q:=W.cellsFrom_some a.names n [] (.inl h);calc Option.isSome_iff_exists.mp q
theorem CK{CX:IP}{P:Program}{w:World}{N j:List Str}{a:Str}{scope:Scope}{f:Addr}{o:Value}{outer:List Env}{b:Shared}{E:XK}{vs:List V}
  (S:aB N j scope) (D:A.handled=none) (g:zb P w K mg base A outer s H) (p:vs.length=j.length) (r:Vals vs us)
  (x:InCallC s s.heap.objs.size (bindL (envOfC a scope s.heap.objs.size f o).kindOf (j.zip us) λ_=>none) (cellsFrom (s.heap.objs.size+1) scope.names []) (bindC (envOfC a scope s.heap.objs.size f o).kindOf (j.zip us) λ_=>none) b):
  Inv (qZ CX P w K mg base N a scope f o A outer s H E) [] (start N vs) H b:=by
 have b:j.length<=N.length:=by have:=congrArg List.length S.pre;rw[List.length_take]at this;lia
 obtain⟨q,z,rfl,B⟩:=x.done;have p:∀b:Addr,b ∉ (qZ CX P w K mg base N a scope f o A outer s H E).ex:=λb z=>absurd (show b ∈ ([]:List Addr) from z) nofun;refine⟨⟨g.mod,S.kind,rfl,rfl,P' _,λy z c q d=>?_,λy k=>?_,λy c _ h=>?_,λ_=>D,Around.frames_deeper g.frames,.inr ⟨rfl,rfl⟩,λb z=>absurd z (p b),g.bs,g.Ex,λb _ _=>p b,λb z=>absurd z (p b),g.oK,g.LW⟩,
  rfl,g.bare,Un.kept B,⟨_,x.toInCall.ns,λi y v q d a=>?_⟩,λy c h=>⟨_,x.cell y c h⟩,g.aO.fresh (P' _),λy c h=>?_,λp l=>absurd (show p ∈ ([]:List (Addr×Obj)) from l) nofun,g.aO.kept B,?_⟩
 ·exact name_of_addr x.apart (aaH q) (aaH d)
 ·have k:scope.names.lookup y=some .cell\/scope.names.lookup y=some .free:=k;rcases k with k | k
  ·exact wV k
  ·exact absurd rfl (S.Oj _ (aaH k))
 ·exact S' (x.above y c (aaH h))
 ·have t:i<vs.length:=by
   unfold start at d;by_cases t:i<vs.length
   ·exact t
   ·rw[List.getElem?_append_right (by simpa using t)]at d;rw[List.getElem?_replicate]at d;split at d<;>cases d
  have F:vs[i]?=some v:=by
   unfold start at d;rw[List.getElem?_append_left (by simpa using t),List.getElem?_map]at d
   cases e:vs[i]? with
   |none=>rw[e]at d;cases d
   |some a=>rw[e]at d;cases d;rfl
  obtain⟨u,C,G⟩:=r.get F;have l:j[i]?=some y:=by
   rw[<-S.pre,List.getElem?_take_of_lt ()];exact q
  have m:j.Nodup:=by rw[<-S.pre];exact S.nd.sublist (List.take_sublist _ _)
  calc⟨u,G,?_⟩;rcases S.par y (aad l) with k|k
  ·exact .inl ⟨k,uk m l C k⟩
  ·obtain⟨c,e⟩:=wV (n:=s.heap.objs.size+1) k;calc .inr ⟨.inl k,c,e,?_⟩;have q:=x.cell y c e;rw[um m l C (by show scope.names.lookup y≠_;rw[k];decide)]at q;exact q
 ·exact g.aO.fresh (S' (x.above y c (aaH h)))
 ·unfold start;show _=N.length;rw[List.length_append,List.length_map,List.length_replicate];lia
theorem Th{CX:IP}{P:Program}{w:World}{k:Nat}{f:Addr}{name a:Str}{b:Arguments}{c:List Stmt}{scope:Scope}{o kV j y h ct l:Value}{F M:Option Addr}
  {O:Array (Option Value)} {N z:List Str} {sp:Sp} (R:K.lookup f=some ⟨l,M,.func (W.fnOf name a b c scope o kV j y F h ct),O⟩) (T:W.codeIn K h a=true) (S:aB N z scope)
  (l:∀vs H Q E,sp vs H Q E->vs.length=z.length)
  (U:∀(A:Around) (outer:List Env) (s:Shared) (H:Hp) (vs:List V) (Q:VK) (E:XK),eV k (A.deeper (envOfC a scope s.heap.objs.size f h))->sp vs H Q E->
   ∃t,wA (qZ CX P w K mg base N a scope f h A outer s H E) c t/\t {nx:=λ_ g=>Q .bC g,rt:=Q} (start N vs) H):
  lK P w K mg base CX (k+1) f (W.fnOf name a b c scope o kV j y F h ct) z sp:=by
 calc⟨l,λA outer s H b us vs Q E B m X r G=>?_⟩;have Y:=l _ _ _ _ G;have I:K.In s.heap:=m.mod.Rl.keeps λb o e=>(m.bs b o e).1;have C:s.heap.NoLimit:=m.mod.nolimit.keeps λb o e=>(m.bs b o e).1;have Z:∀y∈z.zip us,scope.names.lookup y.1=some .local\/(scope.names.lookup y.1=some .cell/\((cellsFrom (s.heap.objs.size+1) scope.names []).lookup y.1).isSome=true):=λ⟨n,v⟩ hy=>by
  rcases S.par n (List.of_mem_zip hy).1 with q|q
  ·exact .inl q
  ·exact .inr ⟨q,W.cellsFrom_some _ _ _ (.inl q)⟩
 calc codeAny_call_function B.depth (I _ _ R) rfl S.co S.gen rfl (W.codeRec_of I T) (X _ _ _ _ ?_);calc wpAny_newFunctionEnv_cells S.kind Z λb he L x=>?_;subst he;calc⟨C.keeps x.toInCall.keep,codeAny_func ?_⟩;obtain⟨t,c,j⟩:=U A outer s H vs Q E (B.deeper _) G;have I:Inv (qZ CX P w K mg base N a scope f h A outer s H E) [] (start N vs) H L:=CK S B.hd m Y r x;calc aak (c [] L (start N vs) H _ I j) (λfl b i=>?_) λe b i=>i;have p:∀{d:St} {g:Hp} {v:V} {u:Value},Inv (qZ CX P w K mg base N a scope f h A outer s H E) [] d g b->RelV v u->Q v g->CE outer P w H s Q u b:=
  λ{d g v u} J D q=>⟨v,g,J.os,J.bare,J.base,J.aO,D,q⟩
 cases fl with
 |ret u=>
  obtain⟨v,d,g,J,D,q⟩:=i;calc p J D q
 |next=>
  obtain⟨d,g,J,q⟩:=i;calc p (v:=V.bC) (u:=Value.none) J rfl q
 |brk=>
  obtain⟨_,_,_,q⟩:=i;calc aaq q
 |cont=>
  obtain⟨_,_,_,q⟩:=i;calc aaq q
end
section
section
variable {X:Cx}{x:Str}{p pos:Pos}{e:Expr}{es:List Expr}{t:TA}{id T:String}{r:List V->Hp->VK->Prop}
def Rr(r:List V->Hp->VK->Prop)(t:TA):TE:=λσ H Q=>t σ H λvs a=>r vs a Q
theorem EX(a:fm X (.builtin id) r)(b:Gl X x)(c:X.mg x=none)(d:bootBuiltins x=some (.builtin id))(f:PA X (e::es) t)(g:x≠"__name__":=by decide)(i:(x==("__debug__":Str))=false:=by decide)
  (j:starEach (e::es) X.env=(false,eval e X.env)::starEach es X.env:=by rfl) (k:(backTo pos (starEach es X.env)).any (·.1)=false:=by rfl):PE X (.Call (.Name x p) (e::es) [] pos) (Rr r t):=by
 walk_at "xc";refine wpAny_Call_Name_kw (oM I b c d ?_ g i);exact PyProof.Rows.callWith_builtin1 (cO (f pos pins s σ H _ I h) λl m ⟨n,o,q,u,v⟩=>a pins m σ o n l Q q u v) j k
theorem CL(a:fm X (.type T) r)(b:Gl X x)(c:X.mg x=none)(d:bootBuiltins x=some (.type T))(f:PA X (e::es) t)(g:x≠"__name__":=by decide)(i:(x==("__debug__":Str))=false:=by decide)
  (j:starEach (e::es) X.env=(false,eval e X.env)::starEach es X.env:=by rfl) (k:(backTo pos (starEach es X.env)).any (·.1)=false:=by rfl):PE X (.Call (.Name x p) (e::es) [] pos) (Rr r t):=by
 walk_at "xc";refine wpAny_Call_Name_kw (oM I b c d ?_ g i);exact PyProof.Rows.callWith_type1 (cO (f pos pins s σ H _ I h) λl m ⟨n,o,q,u,v⟩=>a pins m σ o n l Q q u v) j k
end
end
end L2
namespace HT
open PySem PyProof.Rows
variable {Q:Value->Shared->Prop}
section
open PySem.SeqAt
open PySem.AutoSeq1 (wpAny_loadPart')
open PySem.MeetsSeq PySem.MeetsSeq2 PySem.MeetsSeq3
end
section
variable {prog:Program}{w:World}{A:Around}{E:Value->Shared->Prop}{s:Shared}
theorem JR{t b:Addr}{vs ws:List Value}(p:IsTup s.heap t vs.toArray)(q:IsTup s.heap b ws.toArray)(f:vs≠[])
  (r:ws=[]->Q (.ref t) s) (u:ws≠[]->Q (.ref s.heap.objs.size) {s with heap:=s.heap.push {cls:=.type "tuple",data:=.seq (vs++ws).toArray}})
  (hsz:vs.length+ws.length<=sizeLine):wpAny (model prog w) A (binaryOp .Add (.ref t) (.ref b)) Q E s:=by
 obtain⟨⟨cls,g,data,h⟩,c,i,n,j⟩:=id p;obtain⟨⟨v,k,e,l⟩,d,m,o,a⟩:=id q;simp only at i j m a;subst i j m a;have e:vs.toArray++ws.toArray=(vs++ws).toArray:=by simp
 by_cases a:ws=[]
 ·exact concat_meets ⟨_,c,rfl⟩ ⟨_,d,rfl⟩ noFill_tuple_add seq_tuple_add PySem.F.slot_tuple_add PySem.F.entry_tuple_add (PySem.F.args_tuple_add_2 _ _)
   (tuple_addW1 t b vs.toArray ws.toArray n o g k h l (by simpa using f) (by simp[a])) ⟨c,d,r a⟩
 ·refine concat_meets ⟨_,c,rfl⟩ ⟨_,d,rfl⟩ noFill_tuple_add seq_tuple_add PySem.F.slot_tuple_add PySem.F.entry_tuple_add (PySem.F.args_tuple_add_2 _ _)
   (tuple_addW2 t b vs.toArray ws.toArray n o g k h l (by simpa using f) (by simpa using a) (by rw[List.size_toArray,List.size_toArray];calc hsz)) ⟨c,d,?_⟩
  rw[e];calc u a
def d9(n d:Nat):Option Int->Nat
 |none=>d
 |some v=>if v<0 then(v+(n:Int)).toNat else min v.toNat n
theorem AM(n d k:Nat):d9 n d (some (k:Int))=min k n:=by
 show(if (k:Int)<0 then((k:Int)+(n:Int)).toNat else min (k:Int).toNat n)=min k n;rw[if_neg (),Int.toNat_natCast]
theorem Om(n d:Nat)(a:d<=n)(o:Option Int):d9 n d o<=n:=by
 cases o with
 |none=>calc a
 |some v=>
  show(if v<0 then(v+(n:Int)).toNat else min v.toNat n)<=n;by_cases a:v<0
  ·rw[if_pos a];lia
  ·rw[if_neg a];calc Nat.min_le_right _ _
theorem AN(v:Int)(n d:Nat):(if v<0 then max (v+(n:Int)) 0 else min v (n:Int))=((d9 n d (some v):Nat):Int):=by
 show(if v<0 then max (v+(n:Int)) 0 else min v (n:Int))=(((if v<0 then(v+(n:Int)).toNat else min v.toNat n):Nat):Int)
 by_cases a:v<0
 ·simp only[if_pos a];lia
 ·simp only[if_neg a];lia
theorem zd(a b:Option Int)(n:Nat):Builtin.Slice.sliceAdjust a b 1 (n:Int)=(((d9 n 0 a:Nat):Int),((d9 n n b:Nat):Int)):=by
 have c:¬((1:Int)<0):=by lia
 unfold Builtin.Slice.sliceAdjust;simp only[c,if_false];refine Prod.ext ?_ ?_
 ·cases a with
  |none=>rfl
  |some v=>exact AN v n 0
 ·cases b with
  |none=>rfl
  |some v=>calc AN v n n
theorem ze(i j:Nat):Builtin.Slice.slicePlaces (i:Int) (j:Int) 1=j-i:=by
 unfold Builtin.Slice.slicePlaces;have a:(1:Int) > 0:=by lia
 simp only[a,if_true,Int.ediv_one];split<;>lia
theorem q5{v:Value}{o:Option Int}{Q:Option Int->Shared->Prop}(p:IsPart v o)(h:Q o s):wpAny (model prog w) A (Builtin.Slice.slicePartIndex v) Q E s:=by
 cases p with
 |none=>calc slicePart_none h
 |int i t=>calc slicePart_int h
theorem jh{e:Addr}{c d:Value}{a b:Option Int}{n:Nat}{Q:Int×Int×Nat->Shared->Prop}(g:s.heap.IsSliceOf e c d .none)(pl:IsPart c a)(i:IsPart d b)
  (h:Q (((d9 n 0 a:Nat):Int),1,d9 n n b-d9 n 0 a) s):wpAny (model prog w) A (Builtin.Slice.sliceApplied (.ref e) (pure (n:Int))) Q E s:=by
 obtain⟨j,e,k,f⟩:=id g;unfold Builtin.Slice.sliceApplied Builtin.Slice.sliceFields;calc E' (E' (aan e f (x:=c) rfl (E' (aan e f (x:=d) rfl (E' (aan e f (x:=.none) rfl (J' ?_)))))));calc E' (slicePart_none ?_);show wpAny _ _ (if ((1:Int)==0)=true then _ else _) _ _ s;rw[if_neg ∅];calc E' (q5 pl (E' (q5 i (E' (J' ?_)))));show wpAny _ _ (match Builtin.Slice.sliceAdjust a b 1 (n:Int) with|(a,b)=>pure (a,(1:Int),Builtin.Slice.slicePlaces a b 1)) _ _ s;rw[zd a b n];show wpAny _ _ (pure (((d9 n 0 a:Nat):Int),(1:Int),Builtin.Slice.slicePlaces ((d9 n 0 a:Nat):Int) ((d9 n n b:Nat):Int) 1)) _ _ s;rw[ze];calc J' h
theorem EY(xs:Array Value)(i k:Nat):((List.range k).filterMap λ(m:Nat)=>xs[((i:Int)+(m:Int)*1).toNat]?).toArray=((xs.toList.drop i).take k).toArray:=by
 have e:(λ(m:Nat)=>xs[((i:Int)+(m:Int)*1).toNat]?)=λm=>xs[i+m]?:=by
  funext m;have:((i:Int)+(m:Int)*1).toNat=i+m:=by lia
  rw[this]
 rw[e];have:=pick_run xs i k;rw[List.filterMap_map]at this;have a:((λx=>xs[x]?) ∘ λx=>i+x)=λm=>xs[i+m]?:=rfl;rw[a]at this;rw[this]
theorem nu{t f:Addr}{a:Array Value}{e g:Value}{b c:Option Int}(d:IsTup s.heap t a)(i:s.heap.IsSliceOf f e g .none)(pl:IsPart e b)(j:IsPart g c)
  (g:¬(d9 a.size 0 b=0/\d9 a.size a.size c=a.size))
  (h:Q (.ref s.heap.objs.size) {s with heap:=s.heap.push {cls:=.type "tuple",data:=.seq ((a.toList.drop (d9 a.size 0 b)).take (d9 a.size a.size c-d9 a.size 0 b)).toArray}})
  (hsz:a.size<=sizeLine):wpAny (model prog w) A (getItem (.ref t) (.ref f)) Q E s:=by
 have e:sizeOk (.seq ((a.toList.drop (d9 a.size 0 b)).take (d9 a.size a.size c-d9 a.size 0 b)).toArray):=by
  show((a.toList.drop (d9 a.size 0 b)).take (d9 a.size a.size c-d9 a.size 0 b)).toArray.size<=sizeLine;rw[List.size_toArray,List.length_take,List.length_drop,Array.length_toList];lia
 have k:d9 a.size a.size c<=a.size:=Om _ _ (P' _) c;obtain⟨k,l,n,o⟩:=id i;have o:s.TypeIs (.ref f) "slice":=⟨k,l,n⟩
 unfold getItem
 try with_reducible refine aaF ?_
 first|calc E' (J' ?_)|skip
 calc E' (wpAny_sequenceKey d.typeIs ∅ ?_);refine E' (aai (name:=Str.ofString "__getitem__") d.typeIs aaJ
  (aar aaJ d.typeIs entry_tuple_getitem ?_ (args_tuple_getitem _ _)))
 show wpAny _ _ (Builtin.Tuple.tupleItemsOf (.ref t) >>= _) _ _ s;calc E' (tupleItemsOf_ d ?_);calc E' (wpAny_typeOf o ?_);rw[if_pos ∅];calc E' (jh i pl j ?_);have f:¬((((d9 a.size 0 b:Nat):Int)==0&&(1:Int)==1&&(d9 a.size a.size c-d9 a.size 0 b)==a.size)=true):=by
  intro q;rw[Bool.and_eq_true,Bool.and_eq_true]at q;have d:((d9 a.size 0 b:Nat):Int)=0:=eq_of_beq q.1.1;have d:d9 a.size a.size c-d9 a.size 0 b=a.size:=eq_of_beq q.2;exact g ⟨(),()⟩
 show wpAny _ _ (if (((d9 a.size 0 b:Nat):Int)==0&&(1:Int)==1&&(d9 a.size a.size c-d9 a.size 0 b)==a.size)=true then _ else _) _ _ s;rw[if_neg f,EY]
 first
  |calc E' (m:=Builtin.Tuple.tupleExact _) (aal (J' ⟨_,rfl,J' h⟩) e)
  |calc E' (m:=Builtin.Tuple.tupleExact _) (aal (E' (J' (J' ⟨_,rfl,J' h⟩))) e)
  |calc E' (E' (m:=Builtin.Tuple.tupleExact _) (aal (J' (J' ⟨_,rfl,J' h⟩)) e))
  |calc E' (E' (m:=Builtin.Tuple.tupleExact _) (aal (J' ⟨_,rfl,J' h⟩) e))
end
end HT
namespace L2
open PySem PySem.Spec PyProof.Rows
section
abbrev TO:=St->Hp->(Option Int->Hp->Prop)->Prop
def PO(X:Cx)(e:Option Expr)(t:TO):Prop:=
 ∀(pins:List (Addr×Obj)) (s:Shared) (σ:St) (H:Hp) (Q:Option Int->Hp->Prop),Inv X pins σ H s->t σ H Q->
  wpAny (model X.prog X.w) X.A (evalPart e X.env) (λu s'=>∃o a,Inv X pins σ a s'/\IsPart u o/\Q o a) X.xe s
def vo:TO:=λ_ H Q=>Q none H
def E2(t:TE):TO:=λσ H Q=>t σ H λx a=>∃i,x=.int i/\Q (some i) a
section
variable {X:Cx}{e:Expr}{te:TE}{lo hi:Option Expr}{tl th:TO}{pos p2:Pos}
theorem nv:PO X none vo:=by
 intro a s σ H Q I h;rw[evalPart_none];calc J' ⟨none,H,I,.none,h⟩
theorem jz(h:PE X e te):PO X (some e) (E2 te):=by
 intro a s σ H Q I b;rw[evalPart_some];calc cO (h a s σ H _ I b) λu k c=>?_;obtain⟨x,d,f,g,j⟩:=c;obtain⟨i,rfl,q⟩:=j;obtain⟨t,rfl⟩:=g;calc⟨some i,d,f,.int i t,q⟩
def Ti(X:Cx)(r:V->Option Int->Option Int->Hp->VK->Prop):Prop:=
 ∀(pins:List (Addr×Obj)) (s:Shared) (σ:St) (H:Hp) (x:V) (v a b:Value) (lo hi:Option Int) (c:Addr) (Q:VK),Inv X pins σ H s->RelV x v->s.heap.IsSliceOf c a b .none->IsPart a lo->IsPart b hi->r x lo hi H Q->
  ∃T a,typeLookup (.type T) "__getitem__"=pure (some (.builtin a))/\s.TypeIs v T/\wpAny (model X.prog X.w) X.A (getItem v (.ref c)) (EP X pins σ Q) X.xe s
def Tj(r:V->Option Int->Option Int->Hp->VK->Prop)(te:TE)(tl th:TO):TE:=λσ H Q=>te σ H λx a=>tl σ a λl b=>th σ b λu a=>r x l u a Q
theorem wW{r:V->Option Int->Option Int->Hp->VK->Prop}(g:Ti X r)(a:PE X e te)(d:PO X lo tl)(f:PO X hi th):PE X (.Subscript e (.Slice lo hi none p2) pos) (Tj r te tl th):=by
 walk_at "xc";refine Subscript_ (cO (a pins s σ H _ I h) λv i b=>?_);obtain⟨x,a,j,k,m⟩:=b;refine wpAny_Slice (cO (d pins i σ a _ j m) λc n ⟨l,o,p,r,q⟩=>cO (f pins n σ o _ p q) λd a b=>?_);obtain⟨u,f,i,j,m⟩:=b;rw[evalPart_none];refine J' ?_;have n:Inv X pins σ f {a with heap:=a.heap.push {cls:=.type "slice",data:=.fields #[c,d,.none]}}:=i.kept (t':=a.toks) λb i q=>K' _ q;obtain⟨T,p,b,i,o⟩:=g pins {a with heap:=a.heap.push {cls:=.type "slice",data:=.fields #[c,d,.none]}} σ f x v c d l u a.heap.objs.size Q n k (Heap.IsSliceOf.new ..) r j m;show wpAny (model X.prog X.w) X.A (subscriptTail e (.Slice lo hi none p2) v (.ref a.heap.objs.size)) (EP X pins σ Q) X.xe {a with heap:=a.heap.push {cls:=.type "slice",data:=.fields #[c,d,.none]}};exact tail_any (ops:=[.ref a.heap.objs.size,v]) i b o (by with_unfolding_all rfl)
def dG(xs:List V)(lo hi:Option Int):List V:=(xs.drop (HT.d9 xs.length 0 lo)).take (HT.d9 xs.length xs.length hi-HT.d9 xs.length 0 lo)
theorem qf(xs:List V)(lo hi:Option Int):(dG xs lo hi).length<=xs.length:=by
 unfold dG;rw[List.length_take,List.length_drop];lia
def Y3(K:W.Frag):V->Option Int->Option Int->Hp->VK->Prop:=λx lo hi H Q=>∃a xs,x=.ref a/\bz K H a xs/\
 ¬(HT.d9 xs.length 0 lo=0/\HT.d9 xs.length xs.length hi=xs.length)/\∀p,H p=none->Q (.ref p) (upd H p (.tup (dG xs lo hi)))
theorem Oq:Ti X (Y3 X.K):=by
 intro b s σ H x v d m lo hi n Q I e g i j h;obtain⟨a,c,rfl,k,l,q⟩:=h
 cases e;obtain⟨m,r,b,d⟩:=I.tuple k;have a:m.toArray.size=c.length:=by rw[List.size_toArray];exact r.length.symm
 refine⟨"tuple",_,PyProof.Rows.slot_tuple_getitem.lookup,b.typeIs,?_⟩;refine HT.nu b g i j (by rw[a];exact l) ?_ (by rw[a];exact d);rw[a];refine⟨.ref s.heap.objs.size,_,I.laid (t':=s.toks) (o:=.tup (dG c lo hi)) (λb a q=>K' _ q) (P' _) ?_,rfl,q _ (I.aO.fresh (P' _))⟩;exact⟨aab (qf c lo hi) d,_,(r.drop (HT.d9 c.length 0 lo)).take (HT.d9 c.length c.length hi-HT.d9 c.length 0 lo),IsTup.new _ _⟩
def Tn(K:W.Frag):R2:=λx y H Q=>∃a b xs c,x=.ref a/\y=.ref b/\bz K H a xs/\bz K H b c/\xs≠[]/\xs.length+c.length<=sizeLine/\
 (c=[]->Q (.ref a) H)/\(c≠[]->∀p,H p=none->Q (.ref p) (upd H p (.tup (xs++c))))
theorem Vals.vp{xs:List V}{us:List Value}(r:Vals xs us):us=[]↔xs=[]:=by
 cases r with
 |nil=>simp
 |cons _ _=>simp
theorem JS:gq X (binaryOp .Add) (Tn X.K):=by
 intro c s σ H x y v u Q I d f h;obtain⟨a,b,g,i,rfl,rfl,j,k,l,e,m,n⟩:=h
 cases d
 cases f;obtain⟨c,d,h,_⟩:=I.tuple j;obtain⟨f,c,p2,_⟩:=I.tuple k;calc HT.JR h p2 (λz=>l (d.vp.mp z)) (λz=>⟨.ref a,H,I,rfl,m (c.vp.mp z)⟩) (λz=>?_) (by rw[<-d.length,<-c.length];calc e);calc⟨.ref s.heap.objs.size,_,I.laid (t':=s.toks) (o:=.tup (g++i)) (λb a q=>K' _ q) (P' _) ?_,rfl,n (λw=>z (c.vp.mpr w)) _ (I.aO.fresh (P' _))⟩;calc⟨by rw[List.length_append];calc e,_,d.append c,IsTup.new _ _⟩
end
end
section
def zf(n:Nat)(i:Int):Option Nat:=if 0<=i then(if i<n then some i.toNat else none) else if -(n:Int)<=i then some (i+n).toNat else none
def ip{α:Type}(xs:List α)(i:Int):Option α:=(zf xs.length i).bind λj=>xs[j]?
theorem AQ{n:Nat}{i:Int}{j:Nat}(h:zf n i=some j):seqIndex? i n=some j/\j<n/\-(n:Int)<=i/\i<n:=by
 unfold zf at h;by_cases b:0<=i
 ·rw[if_pos b] at h;by_cases a:i < n
  ·rw[if_pos a]at h;have e:i.toNat=j:=Option.some.inj h;exact⟨by rw[seqIndex_of b a,e],(),(),a⟩
  ·rw[if_neg a]at h;cases h
 ·rw[if_neg b] at h;by_cases a:-(n:Int)<=i
  ·rw[if_pos a]at h;have e:(i+n).toNat=j:=Option.some.inj h;exact⟨by rw[seqIndex_neg () a,e],(),a,()⟩
  ·rw[if_neg a]at h;cases h
theorem vq{α:Type}{xs:List α}{i:Int}{v:α}(h:ip xs i=some v):∃j,seqIndex? i xs.length=some j/\xs[j]?=some v/\j<xs.length/\-(xs.length:Int)<=i/\i<xs.length:=by
 unfold ip at h
 cases e:zf xs.length i with
 |none=>rw[e]at h;cases h
 |some j=>
  rw[e]at h;obtain⟨a,b,c,d⟩:=AQ e;calc⟨j,a,h,b,c,d⟩
theorem ax{α:Type}{xs:List α}{j:Nat}{v:α}(h:xs[j]?=some v):ip xs (j:Int)=some v:=by
 have a:j<xs.length:=(List.getElem?_eq_some_iff.mp h).1;have e:zf xs.length (j:Int)=some j:=by
  unfold zf;rw[if_pos (),if_pos ()];simp
 unfold ip;rw[e];calc h
def AR(b:Expr):Prop:=∀o i,subscripted b false o i=operate [o,i] (getItem o i)
def To(X:Cx)(r:R2):Prop:=
 ∀(b a:Expr) (pins:List (Addr×Obj)) (s:Shared) (σ:St) (H:Hp) (x y:V) (v u:Value) (Q:VK),Inv X pins σ H s->RelV x v->RelV y u->r x y H Q->
  subscripted a false v u=operate [v,u] (getItem v u)->wpAny (model X.prog X.w) X.A (subscriptTail b a v u) (EP X pins σ Q) X.xe s
def Ot(X:Cx)(a:String)(r:V->List V->Hp->VK->Prop):Prop:=
 ∀(pins:List (Addr×Obj)) (s:Shared) (σ:St) (H:Hp) (x:V) (xs:List V) (v:Value) (us:List Value) (Q:VK),Inv X pins σ H s->RelV x v->Vals xs us->r x xs H Q->
  wpAny (model X.prog X.w) X.A (call (.builtin a) (v::us)) (EP X pins σ Q) X.xe s
section
variable {X:Cx}{a b:Expr}{ta tb:TE}{pos:Pos}
theorem Tp{r:R2}(c:To X r)(d:PE X a ta)(e:PE X b tb)(f:AR b):PE X (.Subscript a b pos) (EL r ta tb):=by
 walk_at "xc";exact Subscript_ (NZ d e I h λv u g x y i j k l q=>c a b pins g σ i x y v u Q j k l q (f _ _))
def Y4(K:W.Frag):R2:=λx y H Q=>∃p xs i v,x=.ref p/\y=.int i/\aP K H p xs/\ip xs i=some v/\Q v H
def Y5(K:W.Frag):R2:=λx y H Q=>∃p xs i v,x=.ref p/\y=.int i/\bz K H p xs/\ip xs i=some v/\Q v H
def Y6:R2:=λx y H Q=>∃z i c,x=.str z/\y=.int i/\z.length<=sizeLine/\ip z.cps.toList i=some c/\Q (.str ⟨#[c]⟩) H
theorem JT:To X (Y4 X.K):=by
 intro b c a s σ H x y v u Q I d e h f;obtain⟨p,j,i,z,rfl,rfl,g,k,q⟩:=h
 cases d;obtain⟨t,rfl⟩:=e;obtain⟨l,r,d,b⟩:=I.list g;obtain⟨j,c,b,e,m,n⟩:=vq k;obtain⟨w,g,e⟩:=r.get b;have k:=r.length;have b:=qX;have b:EP X a σ Q w s:=⟨z,H,I,e,q⟩
 by_cases h:0<=i
 ·have e:i.toNat=j:=by
   rw[seqIndex_of h n]at c;exact Option.some.inj c
  exact item_listR d.isList h () (by rw[e];simpa using g) b f
 ·have e:(i+(l.toArray.size:Int)).toNat=j:=by
   rw[seqIndex_neg () m]at c;rw[List.size_toArray,<-k];exact Option.some.inj c
  exact subscriptTail_builtinR (x:=w) d.isList.typeIs slot_list_getitem.lookup
   (wpAny_getItem_list_neg (Q:=λr c=>r=w/\EP X a σ Q r c) d.isList () (by rw[List.size_toArray]<;>lia) () (by rw[e];simpa using g) ⟨rfl,b⟩) f
theorem Ou:To X (Y5 X.K):=by
 intro b c a s σ H x y v u Q I d e h f;obtain⟨p,j,i,z,rfl,rfl,g,k,q⟩:=h
 cases d;obtain⟨t,rfl⟩:=e;obtain⟨b,r,c,d⟩:=I.tuple g;obtain⟨j,d,b,e,h,i⟩:=vq k;obtain⟨w,e,g⟩:=r.get b;have h:=r.length;have b:=qX;have b:EP X a σ Q w s:=⟨z,H,I,g,q⟩
 exact subscriptTail_builtinR (x:=w) c.typeIs slot_tuple_getitem.lookup
  (getItem_tuple (j:=j) (Q:=λr g=>r=w/\EP X a σ Q r g) c () () (by rw[List.size_toArray,<-h];calc d) (by simpa using e) ⟨rfl,b⟩) f
theorem Ov:To X Y6:=by
 intro a b d s σ H x y v u Q I e f h g;obtain⟨z,i,c,rfl,rfl,j,k,q⟩:=h;obtain⟨t,rfl⟩:=e;obtain⟨l,rfl⟩:=f;obtain⟨j,a,b,h,d,e⟩:=vq k;have f:z.cps.toList.length=z.length:=by simp[Str.length]
 rw[f] at a d e;have h:=qX;exact tail_any (typeIs_str s z t) slot_str_getitem.lookup (getItem_str (c:=c) (by
  have d:decide (i < -(2 ^ 63:Int))=false:=decide_eq_false ();have e:decide (i >= 2 ^ 63)=false:=decide_eq_false ();rw[d,e,Bool.or_false]) (by rw[a];simpa using b) ⟨.str ⟨#[c]⟩,H,I.tok _,⟨_,rfl⟩,q⟩) g
theorem zh(a:List Value)(n j:Nat)(u:Value):Obj.mapSeq (·.setIfInBounds j u) {cls:=.type "list",data:=.seq a.toArray n}={cls:=.type "list",data:=.seq (a.set j u).toArray n}:=by
 simp[Obj.mapSeq]
theorem Inv.lst{pins:List (Addr×Obj)}{σ:St}{H:Hp}{s:Shared}{p:Addr}{xs:List V}(I:Inv X pins σ H s)(h:H p=some (.lst xs)):
  ∃(a:List Value) (n:Nat),Vals xs a/\s.heap.get? p=some {cls:=.type "list",data:=.seq a.toArray n}/\xs.length<=sizeLine:=by
 obtain⟨z,a,n,r,e⟩:=I.aO p _ h;calc⟨a,n,r,e,z⟩
theorem Inv.Ow{pins:List (Addr×Obj)}{σ:St}{H:Hp}{s:Shared}{p:Addr}{xs a:List V}{d lJ:List Value}{n c:Nat}{f:Obj->Obj}(I:Inv X pins σ H s)(h:H p=some (.lst xs))
  (i:s.heap.get? p=some {cls:=.type "list",data:=.seq d.toArray n}) (g:f {cls:=.type "list",data:=.seq d.toArray n}={cls:=.type "list",data:=.seq lJ.toArray c}) (r:Vals a lJ) (hz:a.length<=sizeLine) (t:Nat):
  Inv X pins σ (upd H p (.lst a)) {s with heap:=s.heap.update p f,toks:=t}:=by
 have e:(s.heap.update p f).get? p=some {cls:=.type "list",data:=.seq lJ.toArray c}:=by
  rw[Heap.get?_update_self f i (by rw[g]<;>rfl),g]
 calc I.write (x:=p) (e:=p) (by rw[h];trivial) (.inl rfl) (λb u a q=>(Heap.get?_update_other _ _ (Ne.symm a)).trans q) ⟨_,e⟩ ?_;calc⟨hz,lJ,c,r,e⟩
def Tq:V->V->V->Hp->(Hp->Prop)->Prop:=λo i v H Q=>∃p xs k j,o=.ref p/\i=.int k/\H p=some (.lst xs)/\zf xs.length k=some j/\Q (upd H p (.lst (xs.set j v)))
theorem set_list:NS X Tq:=by
 intro a s σ H o i v c f u Q I b d l h;obtain⟨p,m,k,j,rfl,rfl,e,w,q⟩:=h
 cases b;obtain⟨t,rfl⟩:=d;obtain⟨f,n,r,c,o⟩:=I.lst e;obtain⟨b,d,g,h⟩:=AQ w;have d:=r.length;have i:=qX;have i:Inv X a σ (upd H p (.lst (m.set j v))) {s with heap:=s.heap.update p (Obj.mapSeq (·.setIfInBounds j u))}:=
  I.Ow e c (zh f n j u) (r.set l j) (by rw[List.length_set];calc o) s.toks
 by_cases e:0<=k
 ·have a:k.toNat=j:=by
   rw[seqIndex_of e h]at b;exact Option.some.inj b
  exact W.ki_setAt c e () (by rw[List.size_toArray,<-d];calc h) (by rw[a];calc⟨_,i,q⟩)
 ·have a:(k+(f.toArray.size:Int)).toNat=j:=by
   rw[seqIndex_neg () g]at b;rw[List.size_toArray,<-d];exact Option.some.inj b
  calc W.ki_setBack c () (by rw[List.size_toArray,<-d];calc g) () (by rw[a];calc⟨_,i,q⟩)
theorem vt(a b:Option Int)(n:Nat):(sliceBounds a b none n).1=((HT.d9 n 0 a:Nat):Int)/\(sliceBounds a b none n).2.1=((HT.d9 n n b:Nat):Int)/\(sliceBounds a b none n).2.2=1:=by
 refine⟨?_,?_,rfl⟩
 ·cases a with
  |none=>simp[sliceBounds,HT.d9]
  |some i=>
   simp only[sliceBounds,HT.d9,Option.getD_none,show(1:Int) > 0 by decide,if_true];by_cases h:i<0
   ·simp only[h,if_true]<;>lia
   ·simp only[h,if_false]<;>lia
 ·cases b with
  |none=>simp[sliceBounds,HT.d9]
  |some i=>
   simp only[sliceBounds,HT.d9,Option.getD_none,show(1:Int) > 0 by decide,if_true];by_cases h:i<0
   ·simp only[h,if_true]<;>lia
   ·simp only[h,if_false]<;>lia
theorem tq(a:List Value)(b c:Option Int):slicePick a.toArray b c none=((a.drop (HT.d9 a.length 0 b)).take (HT.d9 a.length a.length c-HT.d9 a.length 0 b)).toArray:=by
 obtain⟨d,e,f⟩:=vt b c a.toArray.size;unfold slicePick;rw[d,e,f];simp only[sliceRange_one,pick_run,List.size_toArray]<;>rfl
def Y7(K:W.Frag):V->Option Int->Option Int->Hp->VK->Prop:=λx b c H Q=>∃a xs,x=.ref a/\aP K H a xs/\∀p,H p=none->Q (.ref p) (upd H p (.lst (dG xs b c)))
theorem AS:Ti X (Y7 X.K):=by
 intro d s σ H x v g n e f p Q I i j k l h;obtain⟨a,c,rfl,m,q⟩:=h
 cases i;obtain⟨d,r,g,h⟩:=I.list m;have d:=r.length;refine⟨"list",_,slot_list_getitem.lookup,g.isList.typeIs,?_⟩;refine wpAny_getItem_list_slice g.isList j k l .none nofun ?_ (by rw[List.size_toArray]<;>lia);rw[tq,<-d];refine⟨.ref s.heap.objs.size,_,I.laid (t':=s.toks) (o:=.lst (dG c e f)) (λb d q=>K' _ q) (P' _) ?_,rfl,q _ (I.aO.fresh (P' _))⟩;exact⟨aab (qf c e f) h,_,0,(r.drop (HT.d9 c.length 0 e)).take (HT.d9 c.length c.length f-HT.d9 c.length 0 e),X' _ rfl⟩
def fM:V->Bool
 | .bC=>true
 | .bl _=>true
 | .int _=>true
 | .str _=>true
 |_=>false
def Eh:V->V->Bool
 | .bC,.bC=>true
 | .bl a,.bl b=>a==b
 | .bl a,.int b=>(if a then 1 else 0)==b
 | .int a,.bl b=>a==(if b then 1 else 0)
 | .int a,.int b=>a==b
 | .str a,.str b=>a==b
 |_,_=>false
theorem zi{A:Around}{s:Shared}{y x:V}{u v:Value}(e:RelV y u)(c:RelV x v)(g:fM y=true)(f:fM x=true):SeqAt.EqAt A s u v (Eh y x):=by
 cases y with
 |bC=>
  cases e
  cases x with
  |bC=>cases c;calc SeqAt.EqAt.same _
  |bl b=>cases c;calc SeqAt.EqAt.none_bool b
  |int b=>obtain⟨t,rfl⟩:=c;calc SeqAt.EqAt.none_int b t
  |str b=>obtain⟨t,rfl⟩:=c;calc SeqAt.EqAt.none_str b t
  |_=>calc absurd (show false=true from f) T'
 |bl a=>
  cases e
  cases x with
  |bC=>cases c;calc SeqAt.EqAt.bool_none a
  |bl b=>cases c;calc SeqAt.EqAt.bool_bool a b
  |int b=>obtain⟨t,rfl⟩:=c;calc SeqAt.EqAt.bool_int a b t
  |str b=>obtain⟨t,rfl⟩:=c;calc SeqAt.EqAt.bool_str a b t
  |_=>calc absurd (show false=true from f) T'
 |int a=>
  obtain⟨d,rfl⟩:=e
  cases x with
  |bC=>cases c;calc SeqAt.EqAt.int_none a d
  |bl b=>cases c;calc SeqAt.EqAt.int_bool a d b
  |int b=>obtain⟨t,rfl⟩:=c;calc SeqAt.EqAt.int_int a d b t
  |str b=>obtain⟨t,rfl⟩:=c;calc SeqAt.EqAt.int_str a d b t
  |_=>calc absurd (show false=true from f) T'
 |str a=>
  obtain⟨d,rfl⟩:=e
  cases x with
  |bC=>cases c;calc SeqAt.EqAt.str_none a d
  |bl b=>cases c;calc SeqAt.EqAt.str_bool a d b
  |int b=>obtain⟨t,rfl⟩:=c;calc SeqAt.EqAt.str_int a d b t
  |str b=>obtain⟨t,rfl⟩:=c;calc SeqAt.EqAt.str_str a d b t
  |_=>calc absurd (show false=true from f) T'
 |_=>calc absurd (show false=true from g) T'
def JU(x:V)(u:Value):Bool:=match u with
 | .none=>Eh .bC x
 | .bool b=>Eh (.bl b) x
 | .int i _=>Eh (.int i) x
 | .str z _=>Eh (.str z) x
 |_=>false
theorem E3{x y:V}{u:Value}(r:RelV y u)(f:fM y=true):JU x u=Eh y x:=by
 cases y with
 |bC=>cases r;rfl
 |bl b=>cases r;rfl
 |int i=>obtain⟨t,rfl⟩:=r;rfl
 |str z=>obtain⟨t,rfl⟩:=r;rfl
 |_=>calc absurd (show false=true from f) T'
theorem vv{x:V}:∀{xs:List V}{us:List Value},Vals xs us->xs.all fM=true->us.any (JU x)=xs.any λy=>Eh y x
 |_,_,.nil,_=>rfl
 |y::xs,u::us,.cons r t,f=>by
  rw[List.all_cons,Bool.and_eq_true]at f;rw[List.any_cons,List.any_cons,E3 r f.1,vv t f.2]
theorem q8{A:Around}{s:Shared}{x:V}{v:Value}(b:RelV x v)(c:fM x=true):∀{xs:List V}{us:List Value},Vals xs us->xs.all fM=true->∀u∈us,SeqAt.EqAt A s u v (JU x u)
 |_,_,.nil,_=>λu a=>by cases a
 |y::xs,u::us,.cons r t,f=>λd a=>by
  rw[List.all_cons,Bool.and_eq_true]at f;rcases List.mem_cons.mp a with rfl|a
  ·rw[E3 r f.1];exact zi r b f.1 c
  ·calc q8 b c t f.2 d a
def AU(x:V)(xs:List V):Bool:=xs.any λy=>Eh y x
def rIn(K:W.Frag)(a:Bool):R2:=λx y H Q=>∃p xs,y=.ref p/\(aP K H p xs\/bz K H p xs)/\fM x=true/\xs.all fM=true/\Q (.bl (if a then !AU x xs else AU x xs)) H
theorem CM:gq X (compareOp .In) (rIn X.K false):=by
 intro b s σ H x y v u Q I f d h;obtain⟨p,e,rfl,a,g,c,q⟩:=h
 cases d;rcases a with a|a
 ·obtain⟨b,r,d,h⟩:=I.list a;calc SeqAt.in_listAt (JU x) d.isList (λw e=>q8 f g r c w (by simpa using e)) ⟨.bl _,H,I,rfl,?_⟩;rw[show b.toArray.any (JU x)=b.any (JU x) by simp,vv r c];exact q
 ·obtain⟨b,r,d,h⟩:=I.tuple a;calc SeqAt.in_tupleAt (JU x) d (λw e=>q8 f g r c w (by simpa using e)) ⟨.bl _,H,I,rfl,?_⟩;rw[show b.toArray.any (JU x)=b.any (JU x) by simp,vv r c];calc q
theorem vz:fm X (.type "list") (λxs H Q=>∃p d,xs=[.ref p]/\(aP X.K H p d\/bz X.K H p d)/\∀l,H l=none->Q (.ref l) (upd H l (.lst d))):=by
 intro i s σ H xs o Q I r h;obtain⟨p,d,rfl,j,q⟩:=h;obtain⟨u,rfl,n⟩:=vals1 r
 cases n;have k:∀(c:List Value),Vals d c->d.length<=sizeLine->∀(a:Heap) (f:Nat),(∀b h,s.heap.get? b=some h->a.get? b=some h)->
   a.get? s.heap.objs.size=some {cls:=.type "list",dict:=none,data:=.seq c.toArray f,slots:=#[]}->EP X i σ Q (.ref s.heap.objs.size) {s with heap:=a}:=λc g m a f t e=>
  ⟨.ref s.heap.objs.size,_,I.laid (t':=s.toks) t (P' _) (show cg X.prog X.w _ a _ (.lst d) from⟨m,c,f,g,e⟩),rfl,q _ (I.aO.fresh (P' _))⟩
 rcases j with j|j
 ·obtain⟨c,g,h,m⟩:=I.list j;have d:=g.length;obtain⟨o,i,l,n,q⟩:=h.isList;exact call_list_seq p (.inl rfl) i l q (λa f t e=>k c g m a f t e) (by simp only[List.size_toArray]<;>lia)
 ·obtain⟨c,g,h,m⟩:=I.tuple j;have d:=g.length;obtain⟨o,i,l,n,q⟩:=h;calc call_list_seq p (.inr rfl) i l q (λa f t e=>k c g m a f t e) (by simp only[List.size_toArray]<;>lia)
theorem lR:fm X (.type "tuple") (λxs H Q=>∃p c,xs=[.ref p]/\((aP X.K H p c/\∀l,H l=none->Q (.ref l) (upd H l (.tup c)))\/(bz X.K H p c/\Q (.ref p) H))):=by
 intro a s σ H xs e Q I r h;obtain⟨p,c,rfl,h⟩:=h;obtain⟨u,rfl,d⟩:=vals1 r
 cases d;rcases h with⟨f,q⟩|⟨f,q⟩
 ·obtain⟨g,h,i,j⟩:=I.list f;have d:=h.length;calc call_tuple_list i.isList (λd e=>?_) (by simp only[List.size_toArray]<;>lia);have k:Inv X a σ H {s with heap:=d}:=I.kept (t':=s.toks) e;have m:Inv X a σ (upd H d.objs.size (.tup c)) {s with heap:=d.push {cls:=.type "tuple",data:=.seq g.toArray}}:=
   k.laid (t':=s.toks) (λb o e=>K' _ e) (P' _) (show cg X.prog X.w _ _ _ (.tup c) from⟨j,g,h,IsTup.new _ _⟩)
  exact⟨.ref d.objs.size,_,m,rfl,q _ (k.aO.fresh (P' _))⟩
 ·obtain⟨g,h,i,j⟩:=I.tuple f;calc call_tuple_same i ⟨.ref p,H,I,rfl,q⟩
def Tr(K:W.Frag)(T:String)(x:V)(H:Hp):Prop:=match x with
 | .str _=>T="str"
 | .int _=>T="int"
 | .ref p=>(T="list"/\∃xs,aP K H p xs)\/(T="tuple"/\∃o,K.lookup p=some o/\o.cls=.type "tuple"/\o.dict=none)\/
   (T="dict"/\((∃kvs,H p=some (.dK kvs))\/∃kvs,H p=some (.dT kvs)))\/(T="set"/\∃S n,H p=some (.set S n))
 |_=>False
theorem E4{pins:List (Addr×Obj)}{σ:St}{H:Hp}{s:Shared}{T:String}{x:V}{v:Value}(I:Inv X pins σ H s)(r:RelV x v)(f:Tr X.K T x H):
  s.TypeIs v T/\∀a,v=.ref a->∃ob,s.heap.get? a=some ob/\ob.dict=none:=by
 cases x with
 |str z=>
  obtain⟨t,rfl⟩:=r
  cases(show T="str" from f);exact⟨typeIs_str s z t,λ_ e=>nomatch e⟩
 |int i=>
  obtain⟨t,rfl⟩:=r
  cases(show T="int" from f);exact⟨typeIs_int s i t,λ_ e=>nomatch e⟩
 |ref p=>
  cases r;rcases f with⟨rfl,l,c⟩|⟨rfl,o,b,k,g⟩|⟨rfl,b⟩|⟨rfl,S,n,b⟩
  ·obtain⟨i,_,j,_⟩:=I.list c;refine⟨j.isList.typeIs,λa e=>?_⟩
   cases e;obtain⟨o,n,e,c,g,_⟩:=j;exact⟨o,e,g⟩
  ·refine⟨⟨o,I.j2 p o b,k⟩,λa e=>?_⟩
   cases e;exact⟨o,I.j2 _ o b,g⟩
  ·have z:∃o,s.heap.get? p=some o/\o.ExactDict:=by
    rcases b with⟨c,b⟩|⟨c,b⟩
    ·obtain⟨_,_,_,_,o,_,_,e,d,_⟩:=I.aO p _ b;exact⟨o,e,d⟩
    ·obtain⟨_,_,_,_,o,_,_,e,d,_⟩:=I.aO p _ b;exact⟨o,e,d⟩
   obtain⟨o,e,d⟩:=z;refine⟨⟨o,e,d.1⟩,λa h=>?_⟩
   cases h;exact⟨o,e,d.2.1⟩
  ·obtain⟨o,_,_,_,e,d,_⟩:=I.aO p _ b;refine⟨⟨o,e,d.1⟩,λa h=>?_⟩
   cases h;calc⟨o,e,d.2.1⟩
 |_=>calc aaq f
def Ox(K:W.Frag)(T:String)(r:V->List V->Hp->VK->Prop)(b:TE):TE:=λσ H Q=>b σ H λx a=>Tr K T x a/\r x [] a Q
def Y8(K:W.Frag)(T:String)(r:V->List V->Hp->VK->Prop)(b:TE)(t:TA):TE:=λσ H Q=>b σ H λx a=>Tr K T x a/\t σ a λxs b=>r x xs b Q
variable {o e:Expr}{es:List Expr}{to:TE}{t:TA}{name:Str}{apos iK:Pos}{T id:String}{r:V->List V->Hp->VK->Prop}
theorem Oy(d:PlainAttrs T)(a:Slot T name id)(e:typeOf (.builtin id)=pure (.type "method_descriptor"))(f:Ot X id r)(b:PE X o to)
  (c:attributeBase o name X.env (eval o X.env)=eval o X.env:=by rfl) (g:(apos.endLine==iK.line)=true:=by rfl):PE X (.Call (.Attribute o name apos) [] [] iK) (Ox X.K T r to):=by
 walk_at "xc";refine wpAny_Call_method0_late c g (cO (b pins s σ H _ I h) λv i j=>?_);obtain⟨x,g,b,c,k,l⟩:=j;obtain⟨m,n⟩:=E4 b c k;exact⟨T,id,d,a,e,m,n,Calls.callWith_builtin rfl (PySem.evalArgs_none (f pins i σ g x [] v [] Q b c .nil l))⟩
theorem cY(f:PlainAttrs T)(a:Slot T name id)(g:typeOf (.builtin id)=pure (.type "method_descriptor"))(i:Ot X id r)(b:PE X o to)(j:PA X (e::es) t)
  (c:attributeBase o name X.env (eval o X.env)=eval o X.env:=by rfl)
  (d:((backTo iK (starEach (e::es) X.env)).all (λx=> !x.1) && (backToKw iK (keywordEach [] X.env)).all (λx=>x.1.isSome)
   && decide ((e::es).length + ([]:List Keyword).length + (if ([]:List Keyword).isEmpty then 0 else 1) < 30))=true:=by rfl)
  (k:(apos.endLine==iK.line)=true:=by rfl) (l:starEach (e::es) X.env=(false,eval e X.env)::starEach es X.env:=by rfl) (m:(backTo iK (starEach es X.env)).any (·.1)=false:=by rfl):
  PE X (.Call (.Attribute o name apos) (e::es) [] iK) (Y8 X.K T r to t):=by
 walk_at "xc";refine wpAny_Call_method_late c d k rfl (cO (b pins s σ H _ I h) λv n p=>?_);obtain⟨x,k,b,c,q,u⟩:=p;obtain⟨w,y⟩:=E4 b c q;refine⟨T,id,f,a,g,w,y,?_⟩;have d:=j iK pins n σ k _ b u;rw[l]at d ⊢;refine Calls.callWith_builtin (by show(false||(backTo iK (starEach es X.env)).any (·.1))=false;rw[m]<;>rfl) (Calls.evalArgs_plain ?_);exact cO d λa f ⟨g,p,q,w,y⟩=>i pins f σ p x g v a Q q c w y
end
end
section
def Y9(X:Cx)(a:String)(r:V->List V->Hp->VK->Prop):Prop:=
 ∀(pins:List (Addr×Obj)) (s:Shared) (σ:St) (H:Hp) (x:V) (xs:List V) (v:Value) (us:List Value) (Q:VK),Inv X pins σ H s->RelV x v->Vals xs us->r x xs H Q->
  wpAny (model X.prog X.w) X.A (call (.builtin a) (v::us)) (EP X pins σ Q) X.xe s
theorem Vals.one:∀{x:V}{us:List Value},Vals [x] us->∃u,us=[u]/\RelV x u
 |_,_,.cons r .nil=>⟨_,rfl,r⟩
theorem Vals.two:∀{x y:V}{us:List Value},Vals [x,y] us->∃u v,us=[u,v]/\RelV x u/\RelV y v
 |_,_,_,.cons r (.cons q .nil)=>⟨_,_,rfl,r,q⟩
theorem Vals.zero:∀{us:List Value},Vals [] us->us=[]
 |_,.nil=>rfl
theorem Vals.dropLast{xs:List V}{us:List Value}(h:Vals xs us):Vals xs.dropLast us.dropLast:=by
 induction h with
 |nil=>calc .nil
 |cons r t a=>
  cases t with
  |nil=>calc .nil
  |cons q b=>calc .cons r a
theorem Vals.eraseIdx:∀{xs:List V}{us:List Value}(i:Nat),Vals xs us->Vals (xs.eraseIdx i) (us.eraseIdx i)
 |_,_,_,.nil=>.nil
 |_,_,0,.cons _ t=>t
 |_,_,i+1,.cons r t=>.cons r (Vals.eraseIdx i t)
theorem zj{α:Type}(l:List α):l.eraseIdx (l.length-1)=l.dropLast:=by
 induction l with
 |nil=>rfl
 |cons a r c=>
  cases r with
  |nil=>rfl
  |cons b r=>
   have e:(a::b::r).length-1=((b::r).length-1)+1:=by
    have d:(a::b::r).length=r.length+2:=rfl;have a:(b::r).length=r.length+1:=rfl;lia
   rw[e,List.eraseIdx_cons_succ,c]
   all_goals rfl
theorem uo{α:Type}:∀(l:List α) (i:Nat),(l.eraseIdx i).length<=l.length
 | [],_=>P' _
 |_::_,0=>Nat.le_succ _
 |_::r,i+1=>Nat.succ_le_succ (uo r i)
section
variable {X:Cx}{pins:List (Addr×Obj)}{σ:St}{H:Hp}{s:Shared}{l b:Addr}{xs ys zs:List V}
theorem Inv.JW{a lJ:List Value}{n:Nat}{f:Array Value->Array Value}{t':Nat}(I:Inv X pins σ H s)(b:H l=some (.lst xs))
  (e:s.heap.get? l=some {cls:=.type "list",data:=.seq a.toArray n}) (c:f a.toArray=lJ.toArray) (d:Vals ys lJ) (hz:ys.length<=sizeLine):
  Inv X pins σ (upd H l (.lst ys)) {s with heap:=s.heap.update l (Obj.mapSeq f),toks:=t'}:=by
 have q:=PySem.IsL.update e f;rw[c]at q;calc I.write (x:=l) (e:=l) (by rw[b];calc trivial) (.inl rfl) (λe u a c=>(Heap.get?_update_other s.heap (Obj.mapSeq f) (Ne.symm a)).trans c) ⟨_,q⟩ ?_;calc⟨hz,lJ,_,d,q⟩
theorem Inv.Za{a:List Value}{t':Nat}(I:Inv X pins σ H s)(b:Vals ys a)(hz:ys.length<=sizeLine):
  Inv X pins σ (upd H s.heap.objs.size (.lst ys)) {s with heap:=s.heap.push {cls:=.type "list",data:=.seq a.toArray},toks:=t'}:=
 I.laid (λ_ _ q=>K' _ q) (P' _) ⟨hz,a,0,b,X' _ rfl⟩
theorem Inv.fresh(I:Inv X pins σ H s):H s.heap.objs.size=none:=I.aO.fresh (P' _)
theorem Inv.zk(I:Inv X pins σ H s)(b:H l=some (.lst xs)):xs.length<=sizeLine/\∃(a:List Value) (n:Nat),Vals xs a/\xs.length=a.length/\s.heap.get? l=some {cls:=.type "list",data:=.seq a.toArray n}:=by
 obtain⟨z,a,n,r,e⟩:=I.aO l _ b;calc⟨z,a,n,r,r.length,e⟩
theorem E5{n:Nat}(h:n<=sizeLine):Builtin.List.listTooLong n=false:=by
 unfold Builtin.List.listTooLong;calc decide_eq_false ()
end
section
variable {X:Cx}
def JX:V->List V->Hp->VK->Prop:=λx vs H Q=>∃l xs y,x=.ref l/\vs=[y]/\H l=some (.lst xs)/\xs.length<sizeLine/\Q .bC (upd H l (.lst (xs++[y])))
theorem uq:Y9 X "list.append" JX:=by
 intro a s σ H x e v f Q I c d h;obtain⟨l,g,y,rfl,rfl,b,i,q⟩:=h
 cases c;obtain⟨u,rfl,f⟩:=d.one;obtain⟨z,a,n,r,c,e⟩:=I.zk b;calc call_meets F.slot_list_append ⟨_,e,rfl⟩ F.entry_list_append (F.args_list_append_2 _ _) (PySem.list_append l a.toArray n u (by rw[List.size_toArray];lia)) ⟨e,?_⟩;calc⟨.bC,_,I.JW (lJ:=a++[u]) b e nofun (r.append (.cons f .nil)) ?_,rfl,q⟩;rw[List.length_append,List.length_singleton];lia
def JY:V->List V->Hp->VK->Prop:=λx vs H Q=>∃l b xs a,x=.ref l/\vs=[.ref b]/\H l=some (.lst xs)/\H b=some (.lst a)/\xs.length+a.length<=sizeLine/\Q .bC (upd H l (.lst (xs++a)))
theorem CP:Y9 X "list.extend" JY:=by
 intro a s σ H x e v j Q I c d h;obtain⟨l,b,k,m,rfl,rfl,f,g,n,q⟩:=h
 cases c;obtain⟨u,rfl,i⟩:=d.one
 cases i;obtain⟨z,a,n,r,c,e⟩:=I.zk f;obtain⟨d,c,h,i,k,j⟩:=I.zk g;have d:a.toArray.size+c.toArray.size<=sizeLine:=by rw[List.size_toArray,List.size_toArray];lia
 have g:¬(!a.toArray.isEmpty&&Builtin.List.listTooLong (a.toArray.size+c.toArray.size))=true:=by
  rw[E5 d,Bool.and_false];exact T'
 refine call_meets F.slot_list_extend ⟨_,e,rfl⟩ F.entry_list_extend (F.args_list_extend_2 _ _)
  (AutoSeq1.list_extend_list_list_0 l a.toArray n b c.toArray h g (by rw[List.size_toArray];lia) ()) ⟨e,j,?_⟩
 calc⟨.bC,_,I.JW (lJ:=a++c) f e nofun (r.append i) ?_,rfl,q⟩;rw[List.length_append];lia
def Zb:V->List V->Hp->VK->Prop:=λx vs H Q=>∃l xs y,x=.ref l/\vs=[]/\H l=some (.lst xs)/\xs[xs.length-1]?=some y/\Q y (upd H l (.lst xs.dropLast))
theorem OA:Y9 X "list.pop" Zb:=by
 intro a s σ H x e v i Q I d f h;obtain⟨l,j,y,rfl,rfl,c,g,q⟩:=h
 cases d;have b:=f.zero;subst b;obtain⟨z,a,n,r,d,e⟩:=I.zk c;obtain⟨u,b,f⟩:=r.get g;have h:a.toArray[a.toArray.size-1]?=some u:=by
  show a.toArray[a.length-1]?=some u;rw[<-Array.getElem?_toList,<-d];exact b
 calc call_meets F.slot_list_pop ⟨_,e,rfl⟩ F.entry_list_pop (F.args_list_pop_1 _) (MeetsSeq.list_pop_last l a.toArray n u h (by rw[List.size_toArray];lia)) ⟨e,?_⟩;refine⟨y,_,I.JW (lJ:=a.dropLast) c e ?_ r.dropLast ?_,f,q⟩
 ·show a.toArray.eraseIdxIfInBounds (a.toArray.size-1)=a.dropLast.toArray;rw[List.size_toArray,List.eraseIdxIfInBounds_toArray,zj]
 ·rw[List.length_dropLast];lia
def Zc:R2:=λx y H Q=>∃l b xs a,x=.ref l/\y=.ref b/\H l=some (.lst xs)/\H b=some (.lst a)/\xs.length+a.length<=sizeLine/\∀p,H p=none->Q (.ref p) (upd H p (.lst (xs++a)))
theorem OB:gq X (binaryOp .Add) Zc:=by
 intro a s σ H x y v u Q I c d h;obtain⟨l,b,e,i,rfl,rfl,f,g,j,q⟩:=h
 cases c
 cases d;obtain⟨z,a,n,r,b,e⟩:=I.zk f;obtain⟨h,b,i,c,j,d⟩:=I.zk g;calc PySem.P.add_list e d ?_ (by rw[List.size_toArray,List.size_toArray];lia);have f:a.toArray++b.toArray=(a++b).toArray:=by simp
 rw[f];calc⟨.ref _,_,I.Za (t':=s.toks) (r.append c) (by rw[List.length_append];lia),rfl,q _ I.fresh⟩
theorem E6{pins:List (Addr×Obj)}{s:Shared}{σ:St}{H:Hp}{l:Addr}{xs:List V}{i:Int}{t:Tok}{k:Nat}{Q:Unit->Shared->Prop}(I:Inv X pins σ H s)(b:H l=some (.lst xs))
  (c:-(2^63)<=i) (d:i<2^63) (f:seqIndex? i xs.length=some k) (h:∀s',Inv X pins σ (upd H l (.lst (xs.eraseIdx k))) s'->Q ⟨⟩ s'):
  wpAny (model X.prog X.w) X.A (delItem (.ref l) (.int i t)) Q X.xe s:=by
 obtain⟨z,a,n,r,g,e⟩:=I.zk b;calc PySem.P.delItem_list (k:=k) e (fitsIndex_both c d) (by rw[List.size_toArray,<-g];calc f) (h _ ?_) (by rw[List.size_toArray];lia);refine I.JW (lJ:=a.eraseIdx k) (t':=s.toks) b e ?_ (r.eraseIdx k) ?_
 ·show a.toArray.eraseIdxIfInBounds k=(a.eraseIdx k).toArray;rw[List.eraseIdxIfInBounds_toArray]
 ·have:=uo xs k;lia
end
section
variable {prog:Program}{w:World}{A:Around}{E:Value->Shared->Prop}{s:Shared}
set_option maxRecDepth 100000 in
end
section
variable {X:Cx}
end
end
section
variable {a:Addr}{X:Cx}{H H':Hp}{pins:List (Addr×Obj)}{xs:List (List Key×Addr×Value)}{kvs:List (List Key×V)}{yK:List (TE×TE)}{pos:Pos}{s:Shared}{σ:St}{Q:Value->Shared->Prop}
section
variable {κ:Type} [DecidableEq κ]
def dW(kvs:List (κ×V))(k:κ):Option V:=(kvs.find? λa=>decide (a.1=k)).map (·.2)
def putK(kvs:List (κ×V))(k:κ)(v:V):List (κ×V):=
 if (kvs.any λa=>decide (a.1=k))=true then kvs.map (λa=>if a.1=k then(a.1,v) else a) else kvs++[(k,v)]
theorem E8{k:κ}:dW ([]:List (κ×V)) k=none:=rfl
theorem dq{p:κ×V}{r:List (κ×V)}{k:κ}(e:p.1=k):dW (p::r) k=some p.2:=by simp[dW,List.find?_cons,e]
theorem dw{p:κ×V}{r:List (κ×V)}{k:κ}(e:¬p.1=k):dW (p::r) k=dW r k:=by simp[dW,List.find?_cons,e]
theorem ji(k:κ):∀kvs:List (κ×V),(kvs.any λa=>decide (a.1=k))=(dW kvs k).isSome
 | []=>rfl
 |p::r=>by
  rw[List.any_cons];by_cases e:p.1=k
  ·simp only[dq e,decide_eq_true e,Bool.true_or,Option.isSome_some]
  ·rw[dw e,decide_eq_false e,Bool.false_or];calc ji k r
theorem wZ(k j:κ)(y:V):∀kvs:List (κ×V),dW (kvs.map λa=>if a.1=k then(a.1,y) else a) j=(dW kvs j).map λx=>if j=k then y else x
 | []=>rfl
 |p::r=>by
  have a:=wZ k j y r;rw[List.map_cons];by_cases h:p.1=k
  ·rw[if_pos h];by_cases e:p.1=j
   ·rw[dq (p:=(p.1,y)) e,dq e,Option.map_some,if_pos (e.symm.trans h)]
   ·rw[dw (p:=(p.1,y)) e,dw e,a]
  ·rw[if_neg h];by_cases e:p.1=j
   ·rw[dq (p:=p) e,dq e,Option.map_some,if_neg (λz=>h (e.trans z))]
   ·rw[dw (p:=p) e,dw e,a]
theorem ur(k j:κ)(y:V):∀kvs:List (κ×V),dW kvs k=none->dW (kvs++[(k,y)]) j=if j=k then some y else dW kvs j
 | [],_=>by
  by_cases e:k=j
  ·rw[if_pos e.symm];exact dq (p:=(k,y)) e
  ·rw[if_neg (λz=>e z.symm)];calc dw (p:=(k,y)) e
 |p::r,a=>by
  rw[List.cons_append];have b:¬p.1=k:=λz=>by rw[dq z]at a;cases a
  rw[dw b]at a;have c:=ur k j y r a;by_cases e:p.1=j
  ·rw[dq e,dq e,if_neg (λz=>b (e.trans z))]
  ·rw[dw e,dw e,c]
theorem q9(kvs:List (κ×V))(k j:κ)(y:V):dW (putK kvs k y) j=if j=k then some y else dW kvs j:=by
 unfold putK;by_cases a:(kvs.any λb=>decide (b.1=k))=true
 ·rw[if_pos a,wZ];rw[ji] at a;by_cases e:j=k
  ·obtain⟨x,b⟩:=Option.isSome_iff_exists.mp a;rw[if_pos e,e,b,Option.map_some,if_pos rfl]
  ·rw[if_neg e]
   cases dW kvs j with
   |none=>rfl
   |some x=>rw[Option.map_some,if_neg e]
 ·rw[if_neg a];calc ur k j y kvs ?_;rw[ji] at a
  cases q:dW kvs k with
  |none=>rfl
  |some x=>rw[q]at a;calc(a rfl).elim
theorem iA(kvs:List (κ×V))(k:κ)(v:V):(putK kvs k v).length<=kvs.length+1:=by
 unfold putK;split
 ·rw[List.length_map];lia
 ·rw[List.length_append,List.length_cons,List.length_nil];lia
theorem E9{kvs:List (κ×V)}{k:κ}(v:V)(h:dW kvs k=none):putK kvs k v=kvs++[(k,v)]:=by
 unfold putK;rw[ji,h];calc if_neg ∅
theorem j5.oQ{o:Option V}{u:Option Value}(r:j5 o u):o.isSome=u.isSome:=by
 cases o with
 |none=>cases u with
  |none=>rfl
  |some _=>calc(show False from r).elim
 |some _=>cases u with
  |none=>calc(show False from r).elim
  |some _=>rfl
theorem j5.getD{o:Option V}{u:Option Value}{d:V}{d':Value}(r:j5 o u)(a:RelV d d'):RelV (o.getD d) (u.getD d'):=by
 cases o with
 |none=>cases u with
  |none=>calc a
  |some _=>calc(show False from r).elim
 |some _=>cases u with
  |none=>calc(show False from r).elim
  |some _=>calc r
theorem KV.val{kvs:List (κ×V)}{vs:List (κ×Value)}(r:KV kvs vs)(k:κ):j5 (dW kvs k) (valueAt vs k):=by
 unfold KV at r;induction r with
 |nil=>calc aah
 | @cons p q b a h t g=>
  obtain⟨d,i⟩:=h;by_cases e:p.1=k
  ·have c:q.1=k:=d.symm.trans e;have b:valueAt (q::a) k=some q.2:=by simp[valueAt,List.find?_cons,c]
   rw[dq e,b];exact i
  ·have c:¬q.1=k:=λz=>e (d.trans z);have b:valueAt (q::a) k=valueAt a k:=by simp[valueAt,List.find?_cons,c]
   rw[dw e,b];calc g
theorem KV.any{kvs:List (κ×V)}{vs:List (κ×Value)}(r:KV kvs vs)(k:κ):(kvs.any λa=>decide (a.1=k))=vs.any λa=>decide (a.1=k):=by
 unfold KV at r;induction r with
 |nil=>rfl
 |cons h t a=>rw[List.any_cons,List.any_cons,a,h.1]
theorem KV.OC{kvs:List (κ×V)}{vs:List (κ×Value)}(r:KV kvs vs)(k:κ){y:V}{u:Value}(b:RelV y u):
  KV (kvs.map λa=>if a.1=k then(a.1,y) else a) (vs.map λa=>if a.1=k then(a.1,u) else a):=by
 unfold KV at r ⊢;induction r with
 |nil=>calc .nil
 | @cons p q a d h t c=>
  rw[List.map_cons,List.map_cons];calc .cons ?_ c;obtain⟨a,d⟩:=h;by_cases e:p.1=k
  ·rw[if_pos e,if_pos (a.symm.trans e)];exact⟨a,b⟩
  ·rw[if_neg e,if_neg (λz=>e (a.trans z))];calc⟨a,d⟩
theorem KV.put{kvs:List (κ×V)}{vs:List (κ×Value)}(r:KV kvs vs)(k:κ){y:V}{u:Value}(a:RelV y u):KV (putK kvs k y) (stored vs k u):=by
 unfold putK stored;rw[r.any k];by_cases e:(vs.any λb=>decide (b.1=k))=true
 ·rw[if_pos e,if_pos e];exact r.OC k a
 ·rw[if_neg e,if_neg e];calc Paired.snoc r ⟨rfl,a⟩
theorem KV.length{kvs:List (κ×V)}{vs:List (κ×Value)}(r:KV kvs vs):kvs.length=vs.length:=Paired.length r
end
theorem rf{P:Program}{w:World}{k:Key}{u:Value}(r:RelV (kV k) u):(bG P w).is k u=true:=by
 cases k with
 |inl i=>obtain⟨t,e⟩:=(show ∃t,u=Value.int i t from r);subst e;calc wL P w i t
 |inr x=>obtain⟨t,e⟩:=(show ∃t,u=Value.str x t from r);subst e;calc wM P w x t
theorem uu{P:Program}{w:World}:∀{a:List Key}{us:List Value},Vals (a.map kV) us->ItemsAre (bG P w) a us
 | [],_,r=>by rw[List.map_nil]at r;cases r;calc .nil
 |k::a,_,r=>by
  rw[List.map_cons]at r
  cases r with
  |cons h t=>calc .cons (rf h) (uu t)
abbrev KT(H:Hp):List (List Key×V)->List (List Key×Addr×Value)->Prop:=Paired λp q=>p.1=q.1/\H q.2.1=some (.tup (p.1.map kV))/\RelV p.2 q.2.2
theorem KT.val{H:Hp}{kvs:List (List Key×V)}{xs:List (List Key×Addr×Value)}(r:KT H kvs xs)(k:List Key):j5 (dW kvs k) ((atKey xs k).map (·.2)):=by
 induction r with
 |nil=>calc aah
 | @cons p q b a h t g=>
  obtain⟨d,_,i⟩:=h;by_cases e:p.1=k
  ·have c:q.1=k:=d.symm.trans e;have b:atKey (q::a) k=some q.2:=by simp[atKey,List.find?_cons,c]
   rw[dq e,b];exact i
  ·have c:¬q.1=k:=λz=>e (d.trans z);have b:atKey (q::a) k=atKey a k:=by simp[atKey,List.find?_cons,c]
   rw[dw e,b];calc g
theorem KT.OC{H:Hp}{kvs:List (List Key×V)}{xs:List (List Key×Addr×Value)}(r:KT H kvs xs)(k:List Key){y:V}{u:Value}(c:RelV y u):
  KT H (kvs.map λa=>if a.1=k then(a.1,y) else a) (xs.map (putAt k u)):=by
 induction r with
 |nil=>calc .nil
 | @cons p q a b h t d=>
  rw[List.map_cons,List.map_cons];calc .cons ?_ d;obtain⟨a,b,g⟩:=h;unfold putAt;by_cases e:p.1=k
  ·rw[if_pos e,if_pos (a.symm.trans e)];exact⟨a,b,c⟩
  ·rw[if_neg e,if_neg (λz=>e (a.trans z))];calc⟨a,b,g⟩
theorem KT.put(r:KT H kvs xs)(k:List Key){b:Addr}{y:V}{u:Value}(c:H b=some (.tup (k.map kV)))(a:RelV y u):
  KT H (putK kvs k y) (storedH xs k b u):=by
 have e:(kvs.any λb=>decide (b.1=k))=(atKey xs k).isSome:=by
  rw[ji,(r.val k).oQ,Option.isSome_map]
 unfold putK storedH;rw[e];by_cases q:(atKey xs k).isSome=true
 ·rw[if_pos q,if_pos q];exact r.OC k a
 ·rw[if_neg q,if_neg q];calc Paired.snoc r ⟨rfl,c,a⟩
theorem KT.keeps(r:KT H kvs xs)(c:∀b a,H b=some (.tup a)->H' b=some (.tup a)):KT H' kvs xs:=
 Paired.Cr r λ_ _ z=>⟨z.1,c _ _ z.2.1,z.2.2⟩
section
variable {P:Program}{w:World}{H:Hp}{h:Heap}{a:Addr}
theorem AW{u:HO}(ok:lZ P w H h)(e:Rd H a u):cg P w H h a u:=e.ok ok
theorem rg{kvs:List (Key×V)}(b:lZ P w H h)(e:Rd H a (.dK kvs)):kvs.length<=sizeLine/\(a==sysModules)=false/\∃vs,KV kvs vs/\h.DictOf (bG P w) a vs:=
 show cg P w H h a (.dK kvs) from AW b e
theorem L7{kvs:List (Key×V)}(b:lZ P w H h)(e:H a=some (.dK kvs)):kvs.length<=sizeLine/\(a==sysModules)=false/\∃vs,KV kvs vs/\h.DictOf (bG P w) a vs:=rg b (.inl e)
theorem oR{b:List Key}(c:lZ P w H h)(e:H a=some (.tup (b.map kV))):(tupleKind (bG P w)).is h b a:=by
 obtain⟨_,d,r,o,f,g,n,i⟩:=(show cg P w H h a (.tup (b.map kV)) from c a _ e)
 calc⟨o,d.toArray,n,f,g,i,by simpa using uu r⟩
theorem qg(d:lZ P w H h)(e:Rd H a (.dT kvs)):kvs.length<=sizeLine/\(a==sysModules)=false/\
  ∃xs,KT H kvs xs/\h.DictOfH (tupleKind (bG P w)) a xs:=by
 obtain⟨z,y,xs,r,o,g,i,j,k,n,p,s⟩:=(show cg P w H h a (.dT kvs) from AW d e)
 calc⟨z,y,xs,r,o,g,i,j,k,n,p,λx b=>?_,s⟩;have c:∀{l:List (List Key×V)} {m:List (List Key×Addr×Value)},KT H l m->∀x∈m,(tupleKind (bG P w)).is h x.1 x.2.1:=by
  intro l m q;induction q with
  |nil=>intro x b;calc nomatch b
  | @cons p q g i f t u=>
   intro x b;rcases List.mem_cons.mp b with e|b
   ·subst e;exact oR d (by rw[<-f.1];calc f.2.1)
   ·exact u x b
 calc c r x b
theorem L8(b:lZ P w H h)(e:H a=some (.dT kvs)):kvs.length<=sizeLine/\(a==sysModules)=false/\
  ∃xs,KT H kvs xs/\h.DictOfH (tupleKind (bG P w)) a xs:=qg b (.inl e)
end
def fK(H:Hp)(a:Addr)(y:V)(r:Option V):Prop:=
 (∃kvs k,Rd H a (.dK kvs)/\y=kV k/\r=dW kvs k)\/∃kvs k b,Rd H a (.dT kvs)/\y=.ref b/\H b=some (.tup (k.map kV))/\r=dW kvs k
def lL(H:Hp)(a:Addr)(y v:V)(H':Hp):Prop:=
 (∃kvs k,H a=some (.dK kvs)/\y=kV k/\kvs.length<sizeLine/\H'=upd H a (.dK (putK kvs k v)))\/
 ∃kvs k b,H a=some (.dT kvs)/\y=.ref b/\H b=some (.tup (k.map kV))/\kvs.length<sizeLine/\H'=upd H a (.dT (putK kvs k v))
theorem fK.k{kvs:List (Key×V)}{k:Key}(e:H a=some (.dK kvs)):fK H a (kV k) (dW kvs k):=.inl ⟨kvs,k,.inl e,rfl,rfl⟩
theorem fK.t{b:Addr}{k:List Key}(e:H a=some (.dT kvs))(c:H b=some (.tup (k.map kV))):fK H a (.ref b) (dW kvs k):=.inr ⟨kvs,k,b,.inl e,rfl,c,rfl⟩
theorem lL.k{kvs:List (Key×V)}{k:Key}{v:V}(e:H a=some (.dK kvs))(b:kvs.length<sizeLine):lL H a (kV k) v (upd H a (.dK (putK kvs k v))):=.inl ⟨kvs,k,e,rfl,b,rfl⟩
theorem lL.t{b:Addr}{k:List Key}{v:V}(e:H a=some (.dT kvs))(c:H b=some (.tup (k.map kV)))(d:kvs.length<sizeLine):
  lL H a (.ref b) v (upd H a (.dT (putK kvs k v))):=.inr ⟨kvs,k,b,e,rfl,c,d,rfl⟩
section
variable {X:Cx}{pins:List (Addr×Obj)}{σ:St}{H:Hp}{s:Shared}{a:Addr}{y v:V}{u r:Value}{o:Option V}{A:Around}{E:Value->Shared->Prop}
theorem Inv.big(I:Inv X pins σ H s):sysModules<s.heap.objs.size:=by
 have h:mainGlobals<s.heap.objs.size:=(I.mod.glob.keeps I.bk).lt;calc Nat.lt_trans ∅ h
theorem uv(n:A.units+1<cLine)(I:Inv X pins σ H s)(g:fK H a y (some v))(m:RelV y u)(h:∀w' s',Inv X pins σ H s'->RelV v w'->Q w' s'):
  wpAny (model X.prog X.w) A (getItem (.ref a) u) Q E s:=by
 rcases g with⟨kvs,k,e,d,l⟩|⟨kvs,k,b,e,d,q,l⟩
 ·subst d;obtain⟨z,p,g,c,f⟩:=rg I.aO e;obtain⟨w',i,j⟩:=j5.some_of (v:=v) (o:=valueAt g k) (by rw[l];calc c.val k);exact wpAny_getItem_of (rf m) f.mapOf i (h w' _ (I.tok _) j)
 ·subst d
  cases(show u=Value.ref b from m);obtain⟨z,p,xs,c,f⟩:=qg I.aO e;obtain⟨w',i,j⟩:=j5.some_of (v:=v) (o:=(atKey xs k).map (·.2)) (by rw[l];calc c.val k);obtain⟨p,b,d⟩:=Option.map_eq_some_iff.mp i;calc wpAny_getItem_heap (tupleKind_room_in1 n) (oR I.aO q) f b ?_;rw[d];calc h w' _ (I.tok _) j
theorem JZ(m:A.units+1<cLine)(I:Inv X pins σ H s)(g:fK H a y o)(j:RelV y u)(h:∀s',Inv X pins σ H s'->Q (.bool (!o.isSome)) s'):
  wpAny (model X.prog X.w) A (compareOp .NotIn u (.ref a)) Q E s:=by
 rcases g with⟨kvs,k,e,d,l⟩|⟨kvs,k,b,e,d,n,l⟩
 ·subst d;obtain⟨z,f,g,c,i⟩:=rg I.aO e;calc wpAny_notIn_of (rf j) f i.mapOf ?_;rw[<-(c.val k).oQ,<-l];exact h _ (I.tok _)
 ·subst d
  cases(show u=Value.ref b from j);obtain⟨z,f,xs,c,i⟩:=qg I.aO e;calc wpAny_notIn_heap (tupleKind_room_in1 m) (oR I.aO n) f i ?_;have q:=(c.val k).oQ;rw[Option.isSome_map]at q;rw[<-q,<-l];calc h _ (I.tok _)
theorem ny{h':Heap}{t':Nat}{ob:HO}(I:Inv X pins σ H s)(d:SM (H a))(f:Heap.SameBut a s.heap h')(g:∃q,h'.get? a=some q)(c:cg X.prog X.w (upd H a ob) h' a ob):
  Inv X pins σ (upd H a ob) {s with heap:=h',toks:=t'}:=
 I.write (x:=a) (e:=a) d (.inl rfl) (λb q h z=>(f.2 b h).trans z) g c
theorem Fb{P:Program}{w:World}{h':Heap}{kvs:List (Key×V)}{vs:List (Key×Value)}(z:kvs.length<=sizeLine)(c:(a==sysModules)=false)(b:KV kvs vs)(d:h'.DictOf (bG P w) a vs):
  cg P w H' h' a (.dK kvs):=⟨z,c,vs,b,d⟩
theorem CQ{Q:Unit->Shared->Prop}(G:A.units+1<cLine)(I:Inv X pins σ H s)(g:lL H a y v H')(B:RelV y u)(C:RelV v r)(h:∀s',Inv X pins σ H' s'->Q ⟨⟩ s'):
  wpAny (model X.prog X.w) A (setItem (.ref a) u r) Q E s:=by
 rcases g with⟨kvs,k,e,c,l,j⟩|⟨kvs,k,b,e,c,D,l,j⟩
 ·subst c j;obtain⟨z,m,g,d,n⟩:=L7 I.aO e;have o:g.length<=sizeLine:=by rw[<-d.length];exact z
  have p:(putK kvs k v).length<=sizeLine:=by have:=iA kvs k v;lia
  calc wpAny_setItem_pairs (hsz:=o) (rf B) n λF f x=>h _ ?_;have g:∃q,F.get? a=some q:=let ⟨q,_,_,i,_⟩:=f;⟨q,i⟩
  exact ny I (by rw[e];calc aah) x g (Fb p m (d.put k C) f)
 ·subst c j
  cases(show u=Value.ref b from B);obtain⟨z,m,xs,d,n⟩:=L8 I.aO e;have o:xs.length<=sizeLine:=by rw[<-Paired.length d];exact z
  have p:(putK kvs k v).length<=sizeLine:=by have:=iA kvs k v;lia
  calc wpAny_setItem_heap (hsz:=o) (tupleKind_room_in1 G) (oR I.aO D) n λF f x=>h _ ?_;obtain⟨q,g,j,i,l,n,o,_,t⟩:=f;calc ny I (by rw[e];calc aah) x ⟨q,i⟩ ⟨p,m,_,(d.put k D C).keeps λc h b=>?_,q,g,j,i,l,n,o,t⟩;rw[av (eD b e (λz=>nomatch z))];calc b
end
section
variable {X:Cx}{pins:List (Addr×Obj)}{σ:St}{H:Hp}{s:Shared}{a:Addr}{kvs:List (Key×V)}{k:Key}{u:Value}{A:Around}{E:Value->Shared->Prop}
end
def Tv(i:Expr):Prop:=∀a b,subscripted i false a b=operate [a,b] (getItem a b)
theorem J0{prog:Program}{w:World}{A:Around}{E:Value->Shared->Prop}{env:Env}{b a:Expr}{T c:String}
  (j:typeLookup (.type T) "__getitem__"=pure (some (.builtin c))) (k:Tv a)
  (h:wpAny (model prog w) A (eval b env) (λo d=>wpAny (model prog w) A (eval a env) (λi c=>c.TypeIs o T/\wpAny (model prog w) A (getItem o i) Q E c) E d) E s):
  wpAny (model prog w) A (eval (.Subscript b a pos) env) Q E s:=by
 calc Subscript_ (aak h (λo d e=>aak e (λi c d=>?_) λ_ _ x=>x) λ_ _ x=>x);obtain⟨g,d⟩:=d;unfold subscriptTail;calc E' ?_;rw[getitemInPython_of_ne g.not_modules];calc E' (wpAny_specialOf g j ?_);have f:wpAny (model prog w) A (subscripted a false o i) (λr e=>wpAny (model prog w) A (letTemporaryGo b o r >>= λ_=>pure r) Q E e) E c:=by
  rw[k o i];exact wpAny_operating (aak d (λr e a=>E' (wpAny_letTemporaryGo (J' a))) λ_ _ x=>x)
 first
  |calc J' (E' f)
  |calc E' (J' (E' f))
  |calc E' f
theorem qh{y:V}{o:Option V}(I:Inv X pins σ H s)(g:fK H a y o):s.TypeIs (.ref a) "dict":=by
 rcases g with⟨kvs,k,e,_,_⟩|⟨kvs,k,b,e,_,_,_⟩
 ·obtain⟨_,_,c,_,b⟩:=rg I.aO e;exact b.typeIs
 ·obtain⟨_,_,xs,_,b⟩:=qg I.aO e;calc b.typeIs
def Fc(b c:TE):TE:=λσ H Q=>b σ H λx d=>c σ d λy b=>∃a v,x=.ref a/\fK b a y (some v)/\Q v b
def vA(b c:TE):TE:=λσ H Q=>b σ H λy d=>c σ d λx b=>∃a o,x=.ref a/\fK b a y o/\Q (.bl (!o.isSome)) b
def Fd(b c d:TE):TS:=λD σ H=>d σ H λv e=>b σ e λx d=>c σ d λy e=>∃a b,x=.ref a/\lL e a y v b/\D.nx σ b
section
variable {X:Cx}{o i e value:Expr}{pos pos' Og:Pos}{td ty tv:TE}
theorem qL(c:X.A.units+1<cLine)(d:PE X o td)(e:PE X i ty)(f:Tv i):PE X (.Subscript o i pos) (Fc td ty):=by
 walk_at "xc";refine J0 PySem.F.slot_dict_getitem.lookup f (cO (d pins s σ H _ I h) λu j ⟨x,k,l,m,n⟩=>cO (e pins j σ k _ l n) λd f p=>?_);obtain⟨y,q,b,r,a,v,t,g,w⟩:=p;subst t;obtain rfl:u=Value.ref a:=m;exact⟨qh b g,uv c b g r λf j d e=>⟨v,q,d,e,w⟩⟩
theorem CS(b:X.A.units+1<cLine)(c:PE X i ty)(d:PE X o td):PC X .NotIn i o (vA ty td):=by
 walk_at "xc";refine cO (c pins s σ H _ I h) λw e ⟨y,f,j,k,l⟩=>cO (d pins e σ f _ j l) λu c m=>?_;obtain⟨x,n,p,q,a,r,t,g,v⟩:=m;subst t;obtain rfl:u=Value.ref a:=q;exact JZ b p g k λd c=>⟨.bl (!r.isSome),n,c,rfl,v⟩
theorem gg(b:X.A.units+1<cLine)(c:PE X o td)(d:PE X i ty)(e:PE X value tv)(f:swapsWith value (some (.Subscript o i pos')) pos.line X.env=pure false):
  PS X (.Assign [.Subscript o i pos'] value pos) (Fd td ty tv):=by
 walk_at "xd";refine wpAny_Assign_Subscript (cO (e pins s σ H _ I h) λr j ⟨v,k,l,m,n⟩=>cO (c pins j σ k _ l n) λu e ⟨x,p,q,t,r⟩=>cO (d pins e σ p _ q r) λc j w=>?_) f;obtain⟨y,c,z,B,a,C,E,g,F⟩:=w;subst E;obtain rfl:u=Value.ref a:=t;exact CQ b z g B m λd c=>⟨σ,C,c,F⟩
end
theorem w6{P:Program}{w:World}(h:Heap)(a:sysModules<h.objs.size):cg P w H (h.push {cls:=.type "dict",data:=.dict #[]}) h.objs.size (.dK []):=
 ⟨Y' _,beq_eq_false_iff_ne.mpr (Ne.symm (aaa a)),[],.nil,Heap.DictOf.new h⟩
theorem Fe{P:Program}{w:World}(h:Heap)(a:sysModules<h.objs.size):cg P w H (h.push {cls:=.type "dict",data:=.dict #[]}) h.objs.size (.dT []):=
 ⟨Y' _,beq_eq_false_iff_ne.mpr (Ne.symm (aaa a)),[],.nil,_,#[],0,X' _ rfl,⟨rfl,rfl,rfl⟩,rfl,rfl,List.nodup_nil⟩
def zl:TE:=λ_ H Q=>∀p,H p=none->Q (.ref p) (upd H p (.dK []))
def zm:TE:=λ_ H Q=>∀p,H p=none->Q (.ref p) (upd H p (.dT []))
section
variable {X:Cx}{pos:Pos}
theorem xb:PE X (.Dict [] [] pos) zl:=.mk λpins s σ H Q I h=>
 wpAny_Dict_empty ⟨.ref s.heap.objs.size,_,I.laid (a:=s.heap.objs.size) (o:=.dK []) (t':=s.toks) (λ_ _ q=>K' _ q) (P' _) (w6 s.heap I.big),rfl,h _ (I.aO.fresh (P' _))⟩
theorem rj:PE X (.Dict [] [] pos) zm:=.mk λpins s σ H Q I h=>
 wpAny_Dict_empty ⟨.ref s.heap.objs.size,_,I.laid (a:=s.heap.objs.size) (o:=.dT []) (t':=s.toks) (λ_ _ q=>K' _ q) (P' _) (Fe s.heap I.big),rfl,h _ (I.aO.fresh (P' _))⟩
end
def oS:List (TE×TE)->St->Hp->(List (V×V)->Hp->Prop)->Prop
 | [],_,H,Q=>Q [] H
 |(a,b)::r,σ,H,Q=>a σ H λx c=>b σ c λy a=>oS r σ a λb c=>Q ((x,y)::b) c
abbrev VV:List (V×V)->List (Value×Value)->Prop:=Paired λp q=>RelV p.1 q.1/\RelV p.2 q.2
def XD(X:Cx)(pos:Pos)(b:List (Option Expr))(a:List Expr)(yK:List (TE×TE)):Prop:=
 ∀(pins:List (Addr×Obj)) (s:Shared) (σ:St) (H:Hp) (Q:List (V×V)->Hp->Prop),Inv X pins σ H s->oS yK σ H Q->
  wpAny (model X.prog X.w) X.A (evalPairs (pairTrees b a X.env pos)) (λvs s'=>∃a H',Inv X pins σ H' s'/\VV a vs/\Q a H') X.xe s
theorem J5:XD X pos [] [] []:=λpins s σ H Q I h=>pairTrees_nil_walk ⟨[],H,I,.nil,h⟩
theorem rm{k v:Expr}{a:List (Option Expr)}{vs:List Expr}{b c:TE}(d:PE X k b)(e:PE X v c)(f:XD X pos a vs yK):
  XD X pos (some k::a) (v::vs) ((b,c)::yK):=λpins s σ H Q I h=>
 pairTrees_cons_walk (cO (d pins s σ H _ I h) λu a ⟨x,b,c,g,i⟩=>cO (e pins a σ b _ c i) λm d ⟨y,h,j,k,l⟩=>
  cO (f pins d σ h _ j l) λm n ⟨b,c,e,a,i⟩=>⟨(x,y)::b,c,e,.cons ⟨g,k⟩ a,i⟩)
def l7(kvs a:List (Key×V)):List (Key×V):=a.foldl (λb c=>putK b c.1 c.2) kvs
theorem KV.merge:∀{a:List (Key×V)}{b:List (Key×Value)}{kvs:List (Key×V)}{vs:List (Key×Value)},KV a b->KV kvs vs->KV (l7 kvs a) (merged vs b):=by
 intro a b kvs vs r;unfold KV at r;induction r generalizing kvs vs with
 |nil=>intro q;calc q
 | @cons p q b c h t a=>
  intro b;have e:KV (putK kvs p.1 p.2) (stored vs q.1 q.2):=by
   have:=b.put p.1 h.2;rw[<-h.1];exact this
  calc a e
theorem lS:∀(a kvs:List (Key×V)),(l7 kvs a).length<=kvs.length+a.length
 | [],kvs=>by show kvs.length<=kvs.length+0;lia
 |p::r,kvs=>by
  have a:=lS r (putK kvs p.1 p.2);have a:=iA kvs p.1 p.2;show(l7 (putK kvs p.1 p.2) r).length<=_;rw[List.length_cons];lia
theorem rq{P:Program}{w:World}:∀{kvs:List (Key×V)}{ws:List (Value×Value)},VV (kvs.map λb=>(kV b.1,b.2)) ws->∃d,Carries (bG P w) ws d/\KV kvs d
 | [],_,r=>by rw[List.map_nil]at r;cases r;calc⟨[],aah,.nil⟩
 |p::kvs,_,r=>by
  rw[List.map_cons]at r
  cases r with
  | @cons a b c e h t=>
   obtain⟨d,c,q⟩:=rq (P:=P) (w:=w) t;obtain⟨f,e⟩:=b;calc⟨(p.1,e)::d,⟨rf h.1,rfl,c⟩,.cons ⟨rfl,h.2⟩ q⟩
def AX(yK:List (TE×TE)):TE:=λσ H Q=>∀p,H p=none->oS yK σ (upd H p (.dK [])) λc a=>a p=some (.dK [])/\∃kvs:List (Key×V),c=kvs.map (λb=>(kV b.1,b.2))/\kvs.length<=15/\Q (.ref p) (upd a p (.dK (l7 [] kvs)))
theorem J6{b:List (Option Expr)}{d:List Expr}(h:XD X pos b d yK)(k:b.all (·.isSome)=true)(l:b.length=d.length)(m:b≠[])
  (f:b.length<=15):PE X (.Dict b d pos) (AX yK):=by
 refine⟨?_⟩;intro pins s σ H Q I q;have b:=I.aO.fresh (P' s.heap.objs.size);have d:=I.laid (a:=s.heap.objs.size) (o:=.dK []) (h':=s.heap.push {cls:=.type "dict",data:=.dict #[]}) (t':=s.toks) (λ_ _ q=>K' _ q) (P' _) (w6 s.heap I.big);refine wpAny_Dict_walk (knd:=bG X.prog X.w) k l m f (cO (h pins _ σ _ _ d (q _ b)) λz A n=>?_);obtain⟨b,d,j,g,e,kvs,p,f,r⟩:=n;subst p;obtain⟨t,c,u⟩:=rq (P:=X.prog) (w:=X.w) g;obtain⟨z,v,b,x,y⟩:=L7 j.aO e
 cases x;calc⟨t,c,y,λi b d=>⟨.ref s.heap.objs.size,_,?_,rfl,r⟩⟩;have c:(l7 [] kvs).length<=sizeLine:=by
  have f:=lS kvs [];rw[List.length_nil]at f;rw[sizeLine_eq];lia
 have f:∃q,i.get? s.heap.objs.size=some q:=let ⟨q,_,_,g,_⟩:=b;⟨q,g⟩
 calc ny j (by rw[e];calc aah) d f (Fb c v (u.merge .nil) b)
structure M1(X:Cx)(o:Expr)(m:Str)(apos:Pos)(e:Expr)(iK:Pos):Prop where
 base:attributeBase o m X.env (eval o X.env)=eval o X.env
 OE:((backTo iK (starEach [e] X.env)).all (λx=> !x.1) && (backToKw iK (keywordEach [] X.env)).all (λx=>x.1.isSome)
  && decide (([e]:List Expr).length + ([]:List Keyword).length + (if ([]:List Keyword).isEmpty then 0 else 1) < 30))=true
 line:(apos.endLine==iK.line)=true
 trees:backTo iK (starEach [e] X.env)=[(false,eval e X.env)]
def IsD(H:Hp)(a:Addr):Prop:=(∃kvs,Rd H a (.dK kvs))\/∃kvs,Rd H a (.dT kvs)
theorem OF(I:Inv X pins σ H s)(d:IsD H a):
  s.TypeIs (.ref a) "dict"/\(∀b,Value.ref a=.ref b->∃ob,s.heap.get? b=some ob/\ob.dict=none)/\(a==sysModules)=false:=by
 rcases d with⟨kvs,e⟩|⟨kvs,e⟩
 ·obtain⟨_,f,d,_,c⟩:=rg I.aO e;refine⟨c.typeIs,λb q=>?_,f⟩
  cases q;obtain⟨ob,_,_,g,h,_⟩:=c;exact⟨ob,g,h.2.1⟩
 ·obtain⟨_,f,xs,_,c⟩:=qg I.aO e;refine⟨c.typeIs,λb q=>?_,f⟩
  cases q;obtain⟨ob,_,_,g,h,_⟩:=c;calc⟨ob,g,h.2.1⟩
section
variable {X:Cx}{pins:List (Addr×Obj)}{σ:St}{H:Hp}{s:Shared}{a:Addr}{y d:V}{u r:Value}{o:Option V}{A:Around}{E:Value->Shared->Prop}
theorem OG(m:A.units+1<cLine)(I:Inv X pins σ H s)(g:fK H a y o)(j:RelV y u)(h:∀w' s',Inv X pins σ H s'->RelV (o.getD .bC) w'->Q w' s'):
  wpAny (model X.prog X.w) A (call (.builtin "dict.get") [.ref a,u]) Q E s:=by
 rcases g with⟨kvs,k,e,f,l⟩|⟨kvs,k,b,e,f,n,l⟩
 ·subst f;obtain⟨z,i,g,c,d⟩:=rg I.aO e;calc call_meetsIn IL d.typeIs Rk (PySem.F.args_dict_get_2 _ _) (meets_dict_get (bG X.prog X.w) a (rf j) i) ⟨_,d.mapOf,h _ _ (I.tok _) ?_⟩;rw[l];exact(c.val k).getD rfl
 ·subst f
  cases(show u=Value.ref b from j);obtain⟨z,i,xs,c,d⟩:=qg I.aO e;calc call_meetsIn IL d.typeIs Rk (PySem.F.args_dict_get_2 _ _) (meetsH_dict_get (tupleKind (bG X.prog X.w)) a b i) ⟨tupleKind_room_in1 m,k,xs,oR I.aO n,d,h _ _ (I.tok _) ?_⟩;rw[l];calc(c.val k).getD rfl
theorem OH(p:A.units+1<cLine)(I:Inv X pins σ H s)(g:fK H a y o)(m:RelV y u)(n:RelV d r)(h:∀w' s',Inv X pins σ H s'->RelV (o.getD d) w'->Q w' s'):
  wpAny (model X.prog X.w) A (call (.builtin "dict.get") [.ref a,u,r]) Q E s:=by
 rcases g with⟨kvs,k,e,i,l⟩|⟨kvs,k,b,e,i,q,l⟩
 ·subst i;obtain⟨z,j,g,c,f⟩:=rg I.aO e;calc call_meetsIn IL f.typeIs Rk (PySem.F.args_dict_get_3 _ _ _) (meets_dict_get_default (bG X.prog X.w) a (rf m) j r) ⟨_,f.mapOf,h _ _ (I.tok _) ?_⟩;rw[l];exact(c.val k).getD n
 ·subst i
  cases(show u=Value.ref b from m);obtain⟨z,j,xs,c,f⟩:=qg I.aO e;calc call_meetsIn IL f.typeIs Rk (PySem.F.args_dict_get_3 _ _ _) (meetsH_dict_get_default (tupleKind (bG X.prog X.w)) a b j r) ⟨tupleKind_room_in1 p,k,xs,oR I.aO q,f,h _ _ (I.tok _) ?_⟩;rw[l];calc(c.val k).getD n
end
def zo(c d:TE):TE:=λσ H Q=>c σ H λx b=>∃a,x=.ref a/\IsD b a/\d σ b λy c=>∃o,fK c a y o/\Q (o.getD .bC) c
section
variable {X:Cx}{o e f:Expr}{apos iK:Pos}{td ty tx:TE}
theorem Ff(c:X.A.units+1<cLine)(f:PE X o td)(i:PE X e ty)(m:M1 X o "get" apos e iK):PE X (.Call (.Attribute o "get" apos) [e] [] iK) (zo td ty):=by
 walk_at "xc";refine wpAny_Call_method m.base m.OE m.line SK IL Xs (cO (f pins s σ H _ I h) λu j g=>?_);obtain⟨x,k,b,l,a,n,d,p⟩:=g;subst n;obtain rfl:u=Value.ref a:=l;obtain⟨f,n,_⟩:=OF b d;refine⟨f,n,?_⟩;rw[m.trees];refine Calls.callWith_builtin rfl (Calls.evalArgs_plain (Calls.spliced_cons (cO (i pins j σ k _ b p) λu v ⟨y,l,q,r,w,g,t⟩=>Calls.spliced_nil ?_)));exact OG c q g r λf i b d=>⟨_,l,b,d,t⟩
end
section
variable {X:Cx}{pins:List (Addr×Obj)}{σ:St}{H:Hp}{s:Shared}{a:Addr}{y:V}{u:Value}{A:Around}{E:Value->Shared->Prop}
end
end
end L2
namespace Att
open PySem PySem.W PySem.Calls PyProof.Rows
theorem qr{P:Params}{h:Heap}:∀(c:List Int) (vs:List Value),WellAll P h vs (c.map WData.int)->IntsAre vs c:=by
 intro c;induction c with
 |nil=>
  intro vs w;rw[List.map_nil]at w
  cases w;calc .nil
 |cons n c d=>
  intro vs w;rw[List.map_cons]at w
  cases w with
  |cons a b=>
   cases a;calc .cons _ _ (d _ b)
theorem CT{l:OpenLaw}{n:Nat}(j:l.most=some n){P:Params}{h:Heap}{args:List WData}{c:List Value}
  (g:l.row.toRowW.claim.pre args=true) (k:WellAll P h c args):
  ∃a vs b,c=[Value.ref a]/\args=[WData.list (b.map WData.int)]/\h.get? a=some {cls:=.type "list",data:=.seq vs.toArray}/\IntsAre vs b/\b.length<=n:=by
 have f:WShape.hasAll [] args [.list .int]=true:=(pre_splitW g).1;have i:l.pre.holds [] {args:=args}=true:=(pre_splitW g).2;obtain⟨d,r,rfl,m,o⟩:=hasAllW_cons f;obtain rfl:=hasAllW_nil o;obtain⟨q,rfl,p⟩:=hasW_list m;obtain⟨b,rfl⟩:=items_int p;have e:b.length<=n:=by
  unfold OpenLaw.pre at i;have a:(WTm.not (.lt (.lit (.int (n:Int))) (.len (.arg 0)))).holds [] {args:=[.list (b.map .int)]}=true:=by
   have a:=(holds_andW i).1;rw[j]at a;exact a
  have c:=condW_of a (w_not (w_lt w_lit (w_len_list (w_arg rfl))));rw[List.length_map]at c;calc Nat.le_of_not_lt λq=>?_;have a:(n:Int)<((b.length:Nat):Int):=by lia
  first
   |(rw[decide_eq_true a]at c;calc absurd c ∅)
   |(simp at c;lia)
 cases k with
 |cons s t=>
  cases t
  cases s with
  |list a c=>calc⟨_,_,b,rfl,rfl,a,qr b _ c,e⟩
theorem CU(l:OpenLaw)(args:List WData):l.row.toRowW.claim.post args (.bool true) args=true:=
 postW_of (r:=l.row.toRowW) (X:=(true == true))
  (show WShape.has [] (.bool true) .bool=true by first|rfl|decide|simp[WShape.has,WShape.arms,WShape.armsAll])
  (show(WTm.eq .res (.lit (.bool true))).value [] {args:=args,res:=some (.bool true),after:=args}=some (.bool (true==true)) from w_eq_bool (w_res rfl) w_lit) rfl
theorem xf{l:OpenLaw}{n:Nat}{q:Program}{c:List Str}{p:(Str->Option Value)->Heap->Prop}{s:World->Heap->Prop}{d:DefRec}
  (x:l.most=some n) (y:d.params.defaults=[])
  (call:∀(w:World) (s₀ b:Shared) (h k:Str->Option Value) (g:Addr) (o:Obj) (m i e:Value) (a:Addr) (vs:List Value) (j:List Int),
   Ground q c [] p w s₀ h k b.heap->s w b.heap->
   b.heap.get? g=some o->o.data=.func (docDef d.name d.params d.body d.scope m i e)->b.heap.CodeRec i d.name->h d.name=some (.ref g)->
   b.heap.get? a=some {cls:=.type "list",data:=.seq vs.toArray}->IntsAre vs j->j.length<=n->b.gens=#[]->
   codeAny (model l.prog w) callerA (.call (.ref g) ⟨[.ref a],[]⟩) (λr s'=>r=.ok (.ret (.bool true))/\OldK b.heap s'.heap/\s'.os=b.os/\AllBare s'.gens) b):
  WalkO q c p s l.row.toRowW d [] (λf vs=>PySem.call f vs):=by
 intro w s₀ b h k G Y g o m i e z kV A B C t D E u v L F H I J M;obtain rfl:z=.none:=Dflts.none t y;obtain rfl:kV=.none:=Dflts.noKw t;obtain⟨a,vs,j,rfl,rfl,f,c,d⟩:=CT x F J;calc enter_call (codeAny_mono (call w s₀ b h k g o m i e a vs j G Y A (fd_plain B) C D f c d E) λr s' K=>?_);obtain⟨rfl,a,b,c⟩:=K;calc⟨.inl ⟨.bool true,.bool true,[],rfl,λ_=>rfl,.bool true,CU l _,λ_=>⟨List.Pairwise.nil,λ_ d=>(nomatch d)⟩⟩,a,b,c⟩
section
variable {prog:Program}{w:World}{A:Around}{E:Value->Shared->Prop}{s:Shared}{K:Frag}
end
end Att
namespace L2
open PySem PySem.Spec PyProof.Rows
section
theorem uw:∀{vs:List Value}{a:List Int},IntsAre vs a->Vals (a.map V.int) vs
 |_,_,.nil=>.nil
 |_,_,.cons n t h=>.cons ⟨t,rfl⟩ (uw h)
def OJ(H:Hp):Prop:=∀b,H b=none\/∃o xs,H b=some (.lD o (.lst xs))
theorem Fg{P:Program}{w:World}{K:W.Frag}{j L:Str->Option Value}{CX:IP}{k:Nat}{m a:Addr}{n:FuncData}{x:Str}{sp:Sp}{c:Shared}{vs:List Value}{l:List Int}
  (R:K.In c.heap) (p:c.heap.Ns mainGlobals j) (g:c.heap.Ns builtinsNs L) (M:∀x:Str,x≠"__name__"->L x=bootBuiltins x) (Zd:c.heap.NoLimit) (hg:c.gens=#[])
  (I:c.heap.get? a=some {cls:=.type "list",data:=.seq vs.toArray}) (S:IntsAre vs l) (T:l.length<=sizeLine) (hr:eV k callerA)
  (F:∀base:Heap,K.In base->base.Ns mainGlobals j->lK P w K j base CX k m n [x] sp) (TB:∀(s:Shared) (u:Value),BindsTo s n ⟨[u],[]⟩ [(x,u)])
  (L5:∀H:Hp,OJ H->aP K H a (l.map V.int)->sp [.ref a] H (λv _=>v=.bl true) λ_ _ _=>False)
  (Ze:∀H e s',CX [] H c (λ_ _ _=>False) e s'->False):
  codeAny (model P w) callerA (.call (.ref m) ⟨[.ref a],[]⟩) (λr s'=>r=.ok (.ret (.bool true))/\OldK c.heap s'.heap/\s'.os=c.os/\AllBare s'.gens) c:=by
 have U:=uw S;have Zf:=S.length;have i:∀H:Hp,OJ H->aP K H a (l.map V.int)->lZ P w H c.heap->(∀b,H b≠none->b=a)->(H a≠none->K.lookup a=none)->
   codeAny (model P w) callerA (.call (.ref m) ⟨[.ref a],[]⟩) (λr s'=>r=.ok (.ret (.bool true))/\OldK c.heap s'.heap/\s'.os=c.os/\AllBare s'.gens) c:=by
  intro H X hS Y Z hK;have AY:∀{b:Addr} {o:Obj},c.heap.get? b=some o->H b=none->(ve c.heap H).get? b=some o:=λe n=>Ew e n;have Tg:∀{b:Addr} {o:Obj} {t:Array DictEntry} {y:Nat},c.heap.get? b=some o->o.data=.dict t y->H b=none:=λ{b o t y} e d=>by
   cases q:H b with
   |none=>rfl
   |some u=>
    have N:b=a:=Z b (by rw[q];simp);subst N;rw[I]at e;cases e;have d':Data.seq vs.toArray _=Data.dict t y:=d
    cases d'
  have J:∀{b:Addr} {m:Str->Option Value},c.heap.Ns b m->(ve c.heap H).Ns b m:=λ{b m} ⟨o,t,y,e,d,r⟩=>⟨o,t,y,AY e (Tg e d),d,r⟩
  have B:K.In (ve c.heap H):=λb o e=>AY (R b o e) (by
   cases q:H b with
   |none=>rfl
   |some u=>
    have N:b=a:=Z b (by rw[q];simp);subst N;rw[hK (by rw[q];simp)] at e;cases e)
  have d:Mod K j (ve c.heap H):=⟨B,J p,⟨L,J g,M⟩,let ⟨k,m,n⟩:=Zd;⟨k,J m,n⟩⟩
  have k:zb P w K j (ve c.heap H) callerA [] c H:=⟨rfl,d,λb o e=>JA e,Nat.le_of_eq (Cs _ _),trivial,λb g=>absurd (show b∈([]:List Addr) from g) nofun,Y,.of_eq hg⟩
  refine codeAny_mono ((F _ B (J p)).run callerA [] c H ⟨[.ref a],[]⟩ [.ref a] [.ref a] _ _ hr k (TB c (.ref a)) (.cons rfl .nil) (L5 H X hS)) λr s' h=>?_
  cases r with
  |error e=>calc(Ze H e s' h).elim
  |ok fl=>
   cases fl with
   |next=>calc aaq h
   |brk=>calc aaq h
   |cont=>calc aaq h
   |ret u=>
    obtain⟨v,c,os,C,un,Zg,r',q⟩:=h;have q':v=.bl true:=q;subst q';obtain rfl:u=Value.bool true:=r';refine⟨rfl,OldK.of_keep λb o e=>?_,os,C⟩
    cases q:H b with
    |none=>calc un.keep b o e q (by intro z;calc absurd (show b∈([]:List Addr) from z) nofun) nofun
    |some u=>
     rcases X b with z|⟨ob,c,z⟩
     ·rw[q]at z;cases z
     ·have z2:=un.qp b ob _ z;obtain⟨e1,_⟩:=Y b _ z;obtain⟨e2,_⟩:=Zg b _ z2;rw[e]at e1;cases e1;exact e2
 cases O:K.lookup a with
 |some o=>
  have e:=R a o O;rw[I]at e
  cases e;calc i (λ_=>none) (λ_=>.inl rfl) (.inr ⟨_,vs.toArray,_,O,rfl,rfl,rfl,by rw[List.size_toArray,Zf];calc T,by simpa using U⟩) (λb u z=>by have G:(none:Option HO)=some u:=z;cases G) (λb z=>absurd rfl z) λz=>absurd rfl z
 |none=>
  refine i (λb=>if b=a then some (.lD {cls:=.type "list",data:=.seq vs.toArray} (.lst (l.map V.int))) else none) (λb=>?_) (.inl (.inr ⟨{cls:=.type "list",data:=.seq vs.toArray},if_pos rfl⟩)) (λb u z=>?_) (λb z=>?_) λ_=>O
  ·by_cases g:b=a
   ·exact .inr ⟨_,_,if_pos g⟩
   ·exact .inl (if_neg g)
  ·by_cases g:b=a
   ·have G:=(if_pos g).symm.trans z
    cases G;subst g;exact⟨I,by rw[List.length_map];calc T,vs,_,U,I⟩
   ·have G:=(if_neg g).symm.trans z
    cases G
  ·by_cases g:b=a
   ·exact g
   ·calc absurd (if_neg g) z
end
section
theorem J8{l:W.OpenLaw}{n k:Nat}{q:Program}{c:List Str}{p:(Str->Option Value)->Heap->Prop}{o:World->Heap->Prop}{d:DefRec}{K:Params->W.Frag}{CX:World->IP}{sp:World->Sp}{x:Str}
  (r:l.most=some n) (t:n<=sizeLine) (y:d.params.defaults=[]) (z:eV k callerA)
  (A:∀(w:World) (h:Heap),o w h->(K w.params).In h)
  (F:∀(w:World) (i:Str->Option Value) (j:Addr) (h:Heap),(K w.params).In h->h.Ns mainGlobals i->i d.name=some (.ref j)->
   ∃m:FuncData,(∀(s:Shared) (u:Value),BindsTo s m ⟨[u],[]⟩ [(x,u)])/\
    ∀base:Heap,(K w.params).In base->base.Ns mainGlobals i->lK l.prog w (K w.params) i base (CX w) k j m [x] (sp w))
  (u:∀(w:World) (H:Hp) (a:Addr) (h:List Int),h.length<=n->OJ H->aP (K w.params) H a (h.map V.int)->sp w [.ref a] H (λv _=>v=.bl true) λ_ _ _=>False)
  (n:∀(w:World) (H:Hp) (s:Shared) (e:Value) (s':Shared),CX w [] H s (λ_ _ _=>False) e s'->False):
  W.WalkO q c p o l.row.toRowW d [] (λf vs=>PySem.call f vs):=by
 calc Att.xf r y λw k f i v j o x B l a vs h G Y C D E p q d c s=>?_;have k:=A w _ Y;obtain⟨m,l,o⟩:=F w i j _ k G.T.g p;calc Fg k G.T.g G.T.b G.T.builtins G.T.nolimit s q d (aab c t) z o l (λH m r=>u w H a h c m r) λH e s'=>n w H f e s'
end
section
variable {f:Addr}{st:Stmt}{qual:Str}
def ee(s:Stmt):Arguments:=match s with
 | .FunctionDef _ a _ _ _ _ _ _ _ _=>a
 |_=>{posonlyargs:=[],args:=[],vararg:=none,kwonlyargs:=[],kw_defaults:=[],kwarg:=none,defaults:=[]}
def cW(s:Stmt):List Stmt:=match s with
 | .FunctionDef _ _ b _ _ _ _ _ _ _=>b
 |_=>[]
def ay(s:Stmt):Scope:=match s with
 | .FunctionDef _ _ _ _ _ _ a _ _ _=>a
 |_=>{kind:=.function,names:=[],isGenerator:=false,isCoroutine:=false}
abbrev CV:IP:=λ_ _ _ _ _ _=>False
abbrev E0:XK:=λ_ _ _=>False
theorem AZ{X:Cx}:Passes CV X E0:=λ_ _ _ _ _ _ _ h=>h.elim
structure J9(K:W.Frag)(x qual:Str)(st:Stmt)(f:Addr)(fd:FuncData):Prop where
 ex:∃(oc:Value) (od:Option Addr) (kV doc pm:Value) (an:Option Addr) (gp ct:Value) (L4:Array (Option Value)),
  fd=W.fnOf x qual (ee st) (cW st) (ay st) .none kV doc pm an gp ct/\K.lookup f=some ⟨oc,od,.func fd,L4⟩/\W.codeIn K gp qual=true
 kp:W.keepIn K (.ref f)=true
section
variable {P:Program}{w:World}{K:W.Frag}{mg:Str->Option Value}{base:Heap}
theorem J9.ok{x:Str}{d:FuncData}{N b:List Str}{k:Nat}{sp:Sp}(F:J9 K x qual st f d)(S:aB N b (ay st))(c:∀vs H Q E,sp vs H Q E->vs.length=b.length)
  (e:∀(a:Value) (A:Around) (outer:List Env) (s:Shared) (H:Hp) (vs:List V) (Q:VK) (E:XK),eV k (A.deeper (envOfC qual (ay st) s.heap.objs.size f a))->sp vs H Q E->
   ∃t,wA (qZ CV P w K mg base N qual (ay st) f a A outer s H E).JC (cW st) t/\t {nx:=λ_ g=>Q .bC g,rt:=Q} (start N vs) H):lK P w K mg base CV (k + 1) f d b sp:=by
 obtain⟨i,j,kV,h,l,m,a,n,o,rfl,b,d⟩:=F.ex;calc Th b d S c λA outer s H vs Q E g i=>?_;obtain⟨t,h,q⟩:=e a A outer s H vs Q E g i;calc⟨t,h.JC,q⟩
theorem J9.binds{x:Str}{g:FuncData}{b:List Str}(F:J9 K x qual st f g)
  (h:∀(kV a c:Value) (d:Option Addr) (e ct:Value) (us:List Value),us.length=b.length->bindArgs (W.fnOf x qual (ee st) (cW st) (ay st) .none kV a c d e ct) ⟨us,[]⟩=pure (b.zip us)):Binds K g b []:=by
 obtain⟨i,j,kV,a,c,d,e,ct,k,rfl,b,g⟩:=F.ex;calc .all (h kV a c d e ct)
theorem l8{x:Str}{g:Value}{h d:Option Addr}{i:Array (Option Value)}{kV a e b ct:Value}(l:K.lookup f=some ⟨g,h,.func (W.fnOf x qual (ee st) (cW st) (ay st) .none kV a e d b ct),i⟩)
  (c:W.codeIn K b qual=true) (k:W.keepIn K (.ref f)=true):J9 K x qual st f (W.fnOf x qual (ee st) (cW st) (ay st) .none kV a e d b ct):=⟨⟨g,h,kV,a,e,d,b,ct,i,rfl,l,c⟩,k⟩
end
theorem aA{n:Nat}(h:n<=1000):n<sizeLine:=aaI h ∅
section
variable {X:Cx}
theorem pv(i:Nat){x:Str}{a:Pos}(b:X.N[i]?=some x:=by rfl)(c:SO X.env.scope x:=by first|calc Or.inl rfl|calc Or.inr (Or.inl rfl)|calc Or.inr (Or.inr rfl))(d:(x==("__debug__":Str))=false:=by decide)
  (e:(x==("__classdict__":Str))=false:=by decide):PE X (.Name x a) (Ey i):=Ez b c d e
end
def aq(H a:Hp):Prop:=∀b o,H b=some o->a b=some o
theorem aq.refl(H:Hp):aq H H:=λ_ _ h=>h
theorem aq.trans{H c d:Hp}(a:aq H c)(b:aq c d):aq H d:=λc o h=>b c o (a c o h)
theorem aq.free{H a:Hp}(e:aq H a){l:Addr}(h:a l=Option.none):H l=Option.none:=by
 cases q:H l with
 |none=>rfl
 |some o=>
  rw[e l o q]at h
  cases h
theorem aq.seq{K:W.Frag}{H b:Hp}{a:Addr}{xs:List V}(e:aq H b)(h:aP K H a xs):aP K b a xs:=by
 rcases h with(h|⟨o,h⟩)|h
 ·exact .inl (.inl (e _ _ h))
 ·exact .inl (.inr ⟨o,e _ _ h⟩)
 ·calc .inr h
end
end L2
set_option maxHeartbeats 4000000
namespace L2
open PySem PySem.Spec PyProof.Rows
section
variable {X:Cx}{H H₂:Hp}{pins:List (Addr×Obj)}{σ:St}
def l9(env:Env):List (Str×NameKind)->List (Str×Addr)->List (Str×Addr)
 | [],cs=>cs
 |(n,k)::r,cs=>l9 env r (if k == .free then(n,(env.cells.lookup n).getD 0)::cs else cs)
theorem xg{env:Env}{x:Str}{c:Addr}:∀{l:List (Str×NameKind)}{cs:List (Str×Addr)},(x,c)∈l9 env l cs->(x,c)∈cs\/((x,NameKind.free)∈l/\c=(env.cells.lookup x).getD 0)
 | [],cs,h=>.inl h
 |(n,k)::r,cs,h=>by
  unfold l9 at h;rcases xg h with a|⟨a,g⟩
  ·by_cases b:(k == NameKind.free)=true
   ·rw[if_pos b] at a;have i:k=.free:=by simpa using b
    rcases List.mem_cons.mp a with e|e
    ·have d:=congrArg Prod.fst e;have f:=congrArg Prod.snd e;simp only at d f;subst d i;exact .inr ⟨aag,f⟩
    ·exact .inl e
   ·rw[if_neg b]at a;exact .inl a
  ·calc .inr ⟨aac _ a,g⟩
theorem ux{env:Env}{p:Str×Addr}:∀{l:List (Str×NameKind)}{cs:List (Str×Addr)},p∈cs->p∈l9 env l cs
 | [],_,h=>h
 |(n,k)::r,cs,h=>by
  unfold l9;calc ux ?_;split
  ·exact aac _ h
  ·calc h
theorem rA{env:Env}{x:Str}:∀{l:List (Str×NameKind)}{cs:List (Str×Addr)},(x,NameKind.free)∈l->(x,(env.cells.lookup x).getD 0)∈l9 env l cs
 | [],_,h=>by simp at h
 |(n,k)::r,cs,h=>by
  unfold l9;rcases List.mem_cons.mp h with e|e
  ·have a:=congrArg Prod.fst e;have b:=congrArg Prod.snd e;simp only at a b;subst a b;calc ux ?_;rw[if_pos nofun];exact aag
  ·calc rA e
theorem eY{β:Type}:∀{l:List (Str×β)}{x:Str}{c:β},(x,c)∈l->∃d,l.lookup x=some d
 | [],_,_,h=>by simp at h
 |(n,b)::r,x,c,h=>by
  by_cases e:x=n
  ·subst e;exact⟨b,nofun⟩
  ·have a:(x == n)=false:=beq_eq_false_iff_ne.mpr e;rcases List.mem_cons.mp h with q | q
   ·exact absurd (congrArg Prod.fst q) e
   ·obtain⟨d,b⟩:=eY q;calc⟨d,by simp only[List.lookup_cons,a];calc b⟩
theorem lT{scope:Scope}{env:Env}(h:∀x∈scope.names,x.2=.free->∃c,env.cells.lookup x.1=some c):closureFor scope env=pure (l9 env scope.names []):=by
 unfold closureFor;have b:∀(l:List (Str×NameKind)) (a:List (Str×Addr)),(∀x ∈ l,x.2=.free->∃c,env.cells.lookup x.1=some c)->
   ((forIn l a λ(x:Str×NameKind) (r:List (Str×Addr))=>if (x.2==NameKind.free)=true then do let y <-cellOf env x.1;pure (ForInStep.yield ((x.1,y)::r)) else pure (ForInStep.yield r)):Sem (List (Str×Addr)))=pure (l9 env l a):=by
  intro l;induction l with
  |nil=>intro a _;rfl
  |cons p r f=>
   intro a d;obtain⟨n,k⟩:=p;rw[List.forIn_cons];dsimp only;by_cases a:(k==NameKind.free)=true
   ·obtain⟨c,g⟩:=d (n,k) aag (by simpa using a);have e:cellOf env n=pure c:=by unfold cellOf;rw[g]
    rw[if_pos a,e,pure_bind,pure_bind];dsimp only;rw[f _ λx c=>d x (List.mem_cons_of_mem _ c)];show _=pure (l9 env r _);rw[if_pos a,g];rfl
   ·rw[if_neg a,pure_bind];dsimp only;rw[f _ λx c=>d x (List.mem_cons_of_mem _ c)];show _=pure (l9 env r _);rw[if_neg a]
 have:=b scope.names [] h;simp only at this ⊢;rw[this,pure_bind]
def A7(a:List Expr)(env:Env):Sem Bool:=forIn a true λc r=>if r=true then do let ok <-isTrue c env (eval c env);pure (ForInStep.yield ok) else pure (ForInStep.yield r)
def Ru(X:Cx)(a:List Expr)(t:TT):Prop:=
 ∀(pins:List (Addr×Obj)) (s:Shared) (σ:St) (H:Hp) (Q:Bool->Hp->Prop),Inv X pins σ H s->t σ H Q->wpAny (model X.prog X.w) X.A (A7 a X.env) (TP X pins σ Q) X.xe s
def iB:TT:=λ_ H Q=>Q true H
theorem Ka:Ru X [] iB:=λ_ _ _ H _ I h=>J' ⟨H,I,h⟩
theorem jA{c:Expr}{t:TT}(h:PT X c t):Ru X [c] t:=λpins s σ H Q I a=>wpAny_tests_one (h pins s σ H Q I a)
section
variable {prog:Program}{w:World}{A:Around}{R:Result->Shared->Prop}{s:Shared}
theorem vB{o a e:Expr}{p:List Expr}{scope:Scope}{t:Pos}{y q:Value}{env:Env}(I:Nat->Shared->Prop)
  (u:∀n s,I n s->wpAny (model prog w) A (pyNext y) (λr b=>match r with
   |none=>R (.ok .next) b
   | some v=>wpAny (model prog w) A (letOwnedTupleGo a y v) (λ_ f=>wpAny (model prog w) A (assign a env v) (λ_ g=>
     wpAny (model prog w) A (A7 p env) (λok c=>
      if ok=true then wpAny (model prog w) A (eval o env) (λx i=>
       wpAny (model prog w) A (call (.builtin "list.append") [q,x]) (λ_ j=>∃m,m < n/\I m j) (λ_ _=>False) i) (λ_ _=>False) c
      else ∃m,m < n/\I m c) (λ_ _=>False) g) (λ_ _=>False) f) (λ_ _=>False) b) (λ_ _=>False) s)
  (n:Nat) (h:I n s):
  codeAny (model prog w) A (.compLoop (.ListComp o [⟨a,e,p,0⟩] scope t) 0 y q env) R s:=by
 calc codeAny_loop rfl I (λn s m=>?_) n h;show wpAny _ A ((compTurn (.ListComp o [⟨a,e,p,0⟩] scope t) 0 y q env).onRaise (λx=>do noteFrame x env;theTreesLotGoes x)) _ _ s;calc wpAny_noted ?_;rw[compTurn_list];refine E' (wpAny_standAt (E' (aak (u n s m) (λr b k=>?_) λ_ _ d=>d.elim)))
 cases r with
 |none=>calc J' k
 |some v=>
  calc E' (aak k (λ_ f a=>?_) λ_ _ d=>d.elim);refine E' (aak a (λ_ g b=>E' (aak b (λok c l=>?_) λ_ _ d=>d.elim)) λ_ _ d=>d.elim)
  cases ok with
  |false=>calc J' ⟨rfl,l⟩
  |true=>
   calc E' (E' (aak l (λx i a=>E' (aak a (λ_ j b=>J' (J' ⟨rfl,b⟩)) λ_ _ d=>d.elim)) λ_ _ d=>d.elim))
end
def CW(N N':List Str)(ix:List (Option Nat))(scope:Scope):Bool:=
 N'.length==ix.length&&(N'.zip ix).all λp=>match p.2 with|none=>true|some j=>N[j]? == some p.1&&scope.names.lookup p.1==some .free
def tw(ix:List (Option Nat))(σ:St):St:=ix.map λo=>match o with|none=>none|some j=>(σ[j]?).join
def freeOk(scope:Scope)(outer:Scope):Bool:=
 scope.names.all λx=>(x.2 != .cell)&&(x.2 != .free||(outer.names.lookup x.1==some .cell||outer.names.lookup x.1==some .free))&&(x.2 != .local||scope.names.lookup x.1==some .local)&&(x.2 != .free||scope.names.lookup x.1==some .free)
def TC(X:Cx)(scope:Scope)(C:Addr)(N':List Str)(a:Shared)(H₂:Hp)(b:List Addr):Cx:=
 {X with N:=N',s₀:=a,H₀:=H₂,env:=compEnvC scope (l9 X.env scope.names []) C X.env,outer:=X.stack,stack:=X.stack,ex:=b,fn:=λ_=>false,pn:=[],xe:=λ_ _=>False}
theorem freeOk.at{scope outer:Scope}(h:freeOk scope outer=true){x:Str×NameKind}(e:x∈scope.names):x.2≠.cell/\(x.2=.free->outer.names.lookup x.1=some .cell\/outer.names.lookup x.1=some .free)/\(x.2=.local->scope.names.lookup x.1=some .local)/\(x.2=.free->scope.names.lookup x.1=some .free):=by
 have f:=List.all_eq_true.mp h x e;simp only[Bool.and_eq_true,Bool.or_eq_true,bne_iff_ne,ne_eq,beq_iff_eq]at f;obtain⟨⟨⟨a,b⟩,c⟩,d⟩:=f;calc⟨a,λe=>b.resolve_left λz=>z e,λe=>c.resolve_left λz=>z e,λe=>d.resolve_left λz=>z e⟩
theorem eI{scope:Scope}{env:Env}:∀{names:List (Str×NameKind)}{x:Str}{k:NameKind},
  (names.map λ(n,k)=>if (k==NameKind.free&&env.scope.kind == .function&&env.kindOf n==some .cell) then(n,NameKind.cell) else(n,k)).lookup x=some k->∃a,(x,a)∈names/\(k=a\/(k=.cell/\a=.free))
 | [],_,_,h=>by simp at h
 |(n,c)::r,x,k,h=>by
  rw[List.map_cons]at h;by_cases d:(c==NameKind.free&&env.scope.kind == .function&&env.kindOf n==some .cell)=true
  ·simp only[d,if_true] at h
   cases b:x==n with
   |true=>
    simp only[List.lookup_cons,b]at h;have e:x=n:=by simpa using b
    subst e;have g:c=.free:=by
     simp only[Bool.and_eq_true,beq_iff_eq]at d;exact d.1.1
    calc⟨c,aag,.inr ⟨(Option.some.inj h).symm,g⟩⟩
   |false=>
    simp only[List.lookup_cons,b]at h;obtain⟨a,m,q⟩:=eI (scope:=scope) (env:=env) h;exact⟨a,aac _ m,q⟩
  ·dsimp only at h;rw[if_neg d] at h
   cases b:x==n with
   |true=>
    simp only[List.lookup_cons,b]at h;have e:x=n:=by simpa using b
    subst e;calc⟨c,aag,.inl (Option.some.inj h).symm⟩
   |false=>
    simp only[List.lookup_cons,b]at h;obtain⟨a,m,q⟩:=eI (scope:=scope) (env:=env) h;calc⟨a,aac _ m,q⟩
section
variable {X:Cx}{scope:Scope}{C:Addr}{N':List Str}{s₂:Shared}{H₂:Hp}{fp:List Addr}{pins:List (Addr×Obj)}{σ:St}
theorem lE(I:Inv X pins σ H₂ s₂)(d:freeOk scope X.env.scope=true){x:Str}{c:Addr}(h:(l9 X.env scope.names []).lookup x=some c):X.env.cells.lookup x=some c/\(x,NameKind.free)∈scope.names:=by
 rcases xg (aaH h) with z|⟨a,b⟩
 ·simp at z
 ·have q:=(d |> λh=>freeOk.at h a).2.1 rfl;obtain⟨c,e⟩:=I.ok.has x q;rw[e]at b;calc⟨by rw[e,b];rfl,a⟩
theorem OK(I:Inv X pins σ H₂ s₂)(d:freeOk scope X.env.scope=true)(s:scope.kind=.function)(n:s₂.heap.objs.size<=C)(f:∀b∈fp,oN X pins H₂ b)(t:∀b∈fp,∃o,s₂.heap.get? b=some o):(TC X scope C N' s₂ H₂ fp).Ok where
 mod:=I.ok.mod
 kind:=s
 glob:=I.ok.glob
 blt:=I.ok.blt
 above:=n
 inj:=λx y c s u=>I.ok.inj x y c (lE I d s).1 (lE I d u).1
 has:=λx h=>by
  have h:(relabel scope X.env).names.lookup x=some .cell\/(relabel scope X.env).names.lookup x=some .free:=h;have g:(x,NameKind.free)∈scope.names:=by
   rcases h with h|h
   ·obtain⟨v,m,q⟩:=eI (scope:=scope) h;rcases q with q | ⟨_,q⟩
    ·subst q;exact absurd rfl (freeOk.at d m).1
    ·subst q;exact m
   ·obtain⟨v,m,q⟩:=eI (scope:=scope) h;rcases q with q | ⟨q,_⟩
    ·subst q;exact m
    ·cases q
  exact eY (rA g)
 Rm:=λ_ _ h _=>absurd (show false=true from h) T'
 hd:=I.ok.hd
 frames:=I.ok.frames
 SQ:=.inl rfl
 Xu:=λb a=>by
  obtain⟨o,g⟩:=t b a;obtain⟨p,i,j,k,l,r⟩:=f b a;calc⟨aaa (V' (U' g) n),λx c h=>?_⟩;exact l x c (lE I d h).1
 bs:=I.bs
 Ex:=aab I.ok.Ex I.sz
 yQ:=λb o e a=>by
  obtain⟨p,i,j,k,l,r⟩:=f b a;rcases k with z|z
  ·exact I.ok.yQ b o e z
  ·exact absurd (V' (V' (U' e) I.ok.Ex) z) (aaE _)
 Cu:=λb a z=>by
  obtain⟨p,i,j,k,l,r⟩:=f b a;rcases List.mem_cons.mp (I.vf b z) with e|e
  ·exact i e
  ·exact j e
 oK:=I.stack
 LW:=I.Av
end
theorem Inv.less{a:St}{s:Shared}(I:Inv X pins σ H s)(b:a.length=σ.length)(h:∀(i:Nat) (v:V),a[i]?=some (some v)->σ[i]?=some (some v)):Inv X pins a H s:=
 ⟨I.ok,I.os,I.bare,I.base,(let ⟨m,a,c⟩:=I.loc;⟨m,a,λi x v d e f=>c i x v d (h i v e) f⟩),I.cell,I.free,I.j1,I.pin,I.aO,b.trans I.len⟩
def Ext(σ a:St):Prop:=a.length=σ.length/\∀(i:Nat) (v:V),σ[i]?=some (some v)->a[i]?=some (some v)
theorem Ext.refl(σ:St):Ext σ σ:=⟨rfl,λ_ _ h=>h⟩
theorem Ext.set{a:St}(h:Ext σ a){j:Nat}{w:Option V}(b:σ[j]?=some none):Ext σ (a.set j w):=by
 calc⟨by rw[List.length_set];calc h.1,λi v e=>?_⟩;have c:j≠i:=by rintro rfl;rw[b]at e;cases e
 rw[List.getElem?_set_ne c];calc h.2 i v e
theorem Kb(ix:List (Option Nat))(σ:St):(tw ix σ).length=ix.length:=by unfold tw;rw[List.length_map]
section
variable {X:Cx}{scope:Scope}{N':List Str}{ix:List (Option Nat)}{s₂ s₄:Shared}{H₂:Hp}{fp:List Addr}{pins:List (Addr×Obj)}{σ:St}{C D:Addr}{h₄:Heap}
theorem Zh(I:Inv X pins σ H₂ s₂)(g:freeOk scope X.env.scope=true)(M:scope.kind=.function)(B:CW X.N N' ix scope=true)(O:∀b∈fp,oN X pins H₂ b)(P:∀b∈fp,∃o,s₂.heap.get? b=some o)
  (l:s₂.heap.objs.size<=D) (p:s₂.heap.objs.size<=C) (R:D≠C) (S:h₄.Ns C (λ_=>none)) (n:∀b o,s₂.heap.get? b=some o->h₄.get? b=some o)
  (b:h₄.get? D=some {cls:=.type "list",data:=.seq ([]:List Value).toArray 0}) (t':Nat):
  Inv (TC X scope C N' s₂ H₂ fp) [] (tw ix σ) (upd H₂ D (.lst [])) {s₂ with heap:=h₄,toks:=t'}:=by
 have T:H₂ D=none:=I.aO.fresh l;have U:H₂ C=none:=I.aO.fresh p;have W:lZ X.prog X.w (upd H₂ D (.lst [])) h₄:=I.aO.laid n l ⟨Y' _,[],0,.nil,b⟩;refine⟨OK I g M p O P,rfl,I.bare,Un.laid n l T,⟨_,S,λi x v y d Y=>?_⟩,λx c e=>?_,?_,λx c e=>?_,λp b=>absurd (show p∈([]:List (Addr×Obj)) from b) nofun,W,?_⟩
 ·have a:=B;unfold CW at a;rw[Bool.and_eq_true] at a;have b:N'.length=ix.length:=by simpa using a.1
  have b:i<N'.length:=(List.getElem?_eq_some_iff.mp y).1;unfold tw at d;rw[List.getElem?_map]at d
  cases q:ix[i]? with
  |none=>rw[q]at d;cases d
  |some o=>
   rw[q]at d
   cases o with
   |none=>cases d
   |some j=>
    have o:(x,some j)∈N'.zip ix:=by
     calc aad (i:=i) ?_;rw[List.getElem?_zip_eq_some];exact⟨y,q⟩
    have b:=List.all_eq_true.mp a.2 _ o;simp only[Bool.and_eq_true,beq_iff_eq]at b;obtain⟨t,F⟩:=b;have m:(σ[j]?).join=some v:=by simpa using d
    have Z:σ[j]?=some (some v):=by
     cases z:σ[j]? with
     |none=>rw[z]at m;cases m
     |some y=>rw[z]at m;exact congrArg some m
    have G:(x,NameKind.free)∈scope.names:=aaH F;have J:=(freeOk.at g G).2.1 rfl;obtain⟨m,b,hv⟩:=I.loc;obtain⟨u,ru,lk⟩:=hv j x v t Z (by rcases J with z|z;calc .inr (.inl z);calc .inr (.inr z));refine⟨u,ru,.inr ⟨?_,?_⟩⟩
    ·rcases Y with z | z | z
     ·obtain⟨b,m',k⟩:=eI (scope:=scope) (env:=X.env) (show(relabel scope X.env).names.lookup x=some .local from z);rcases k with k | ⟨k,_⟩
      ·subst k;have:=(freeOk.at g m').2.2.1 rfl;rw[F]at this;cases this
      ·cases k
     ·exact .inl z
     ·exact .inr z
    ·rcases lk with⟨r,_⟩ | ⟨_,c,l2,l3⟩
     ·have r:X.env.scope.names.lookup x=some .local:=r;rcases J with z | z
      ·rw[r]at z;cases z
      ·rw[r]at z;cases z
     ·obtain⟨b,K⟩:=eY (rA (env:=X.env) (cs:=[]) G);have L:=(lE I g K).1;rw[l2]at L;have e7:c=b:=Option.some.inj L;subst e7;exact⟨c,K,l3.keeps n⟩
 ·obtain⟨v,z⟩:=I.cell x c (lE I g e).1;exact⟨v,z.keeps n⟩
 ·show upd H₂ D (.lst []) C=none;rw[av (Ne.symm R)];exact U
 ·show upd H₂ D (.lst []) c=none;have b:=(lE I g e).1;obtain⟨v,z⟩:=I.cell x c b;have:c≠D:=aaa (V' z.lt l);rw[av this];exact I.j1 x c b
 ·rw[Kb];have a:=B;unfold CW at a;rw[Bool.and_eq_true] at a;have:N'.length=ix.length:=by simpa using a.1
  calc this.symm
end
def ko(ix:List (Option Nat))(J:It)(g:TG)(d:TT)(e:TE)(σ:St)(a:Hp)(Q:VK)(D:Addr):Prop:=
 ∃W:Nat->Nat->Hp->Prop,(∃m,W 0 m (upd a D (.lst [])))/\∀i m H,W i m H->
  (J.stop i H/\Q (.ref D) H)\/(J.go i H/\∃N:Hp->Prop,(∀b,N b->∃c,c < m/\W (i + 1) c b)/\∀x b,J.JE i H x b->g x (tw ix σ) b λa f=>Ext (tw ix σ) a/\d a f λb c=>
   if b=true then e a c λy d=>∃a,d D=some (.lst a)/\a.length < sizeLine/\N (upd d D (.lst (a++[y]))) else N c)
def TJ(ix:List (Option Nat))(b:TI)(g:TG)(c:TT)(d:TE):TE:=λσ H Q=>b σ H λJ a=>∀D,a D=none->ko ix J g c d σ a Q D
abbrev tD(X:Cx)(scope:Scope)(N':List Str)(F:Cx->Prop):Prop:=∀(C:Addr) (a:Shared) (H₂:Hp) (b:List Addr),F (TC X scope C N' a H₂ b)
section
variable {X:Cx}{elt target iter:Expr}{ifs:List Expr}{scope:Scope}{pos:Pos}{N':List Str}{ix:List (Option Nat)}{wi:TI}{g:TG}{tt:TT}{te:TE}
theorem xi{a:Shared}{it:Addr}{l:List Addr}{S:Nat->Heap->Prop}{J:It}{QD:Addr->Hp->Prop}{RR:Value->Addr->Result->Shared->Prop}{E:Value->Shared->Prop}
  (Fh:X.calm=true) (hf:freeOk scope X.env.scope=true) (hk:scope.kind=.function) (hx:CW X.N N' ix scope=true)
  (hg:tD X scope N' λY=>PG Y target g) (ht:tD X scope N' λY=>Ru Y ifs tt) (he:tD X scope N' λY=>PE Y elt te)
  (I:Inv X pins σ H₂ a) (T:Turn X.prog X.w X.K target J l it S) (st:S 0 a.heap) (IU:∀b∈l,oN X pins H₂ b)
  (hw:∀D,H₂ D=none->∃W:Nat->Nat->Hp->Prop,(∃m,W 0 m (upd H₂ D (.lst [])))/\∀i m H,W i m H->
   (J.stop i H/\QD D H)\/(J.go i H/\∃N:Hp->Prop,(∀d,N d->∃B,B < m/\W (i + 1) B d)/\∀x d,J.JE i H x d->g x (tw ix σ) d λp C=>Ext (tw ix σ) p/\tt p C λb L=>
    if b=true then te p L λy C=>∃U,C D=some (.lst U)/\U.length < sizeLine/\N (upd C D (.lst (U++[y]))) else N L))
  (hRR:∀(D C:Addr) (s':Shared) (d:Hp) (m:Str->Option Value),a.heap.objs.size<=C->d C=none->C∉Ct X.stack->s'.heap.Ns C m->(∃o,s'.heap.get? C=some o/\∀v,o.data≠.cell v)->Inv X pins σ d s'->QD D d->RR (.ref D) C (.ok .next) s'):
  wpAny (model X.prog X.w) X.A (newList []) (λp j=>wpAny (model X.prog X.w) X.A (newFunctionEnv scope X.env.globals (l9 X.env scope.names []) [] X.env.qual none .none (some X.env)) (λJ C=>
   codeAny (model X.prog X.w) X.A (.compStart (.ListComp elt [⟨target,iter,ifs,0⟩] scope pos) 0 (.ref it) p {J with scope:=relabel scope X.env}) (RR p J.locals) C) E j) E a:=by
 calc aal (wpAny_newFunctionEnv (λx hx=>(freeOk.at hf hx).1) (by intro y p;simp at p) (λk OL Kc=>?_) hk);dsimp only at OL Kc ⊢;generalize C:a.heap.push {cls:=.type "list",dict:=none,data:=.seq ([]:List Value).toArray}=P2 at OL Kc ⊢;have p:P2.objs.size=a.heap.objs.size+1:=by rw[<-C,Heap.size_push]
 have J:a.heap.objs.size≠P2.objs.size:=by rw[p];exact aaa (Nat.lt_succ_self _)
 have M:a.heap.objs.size<=P2.objs.size:=by rw[p];exact Nat.le_succ _
 have Z:∀b o,a.heap.get? b=some o->k.get? b=some o:=λb o e=>Kc.extBut b o (aaa (V' (U' e) M)) (K' _ (C▸K' _ e));have N:k.get? a.heap.objs.size=some {cls:=.type "list",data:=.seq ([]:List Value).toArray 0}:=Kc.extBut _ _ J (K' _ (C▸X' _ rfl));have p:∀b∈l,∃o,a.heap.get? b=some o:=λb c=>let ⟨o,e,_⟩:=T.obj _ _ st b c;⟨o,e⟩
 have C:a.heap.get? P2.objs.size=none:=Heap.get?_none_of_le M;have C:H₂ a.heap.objs.size=none:=I.aO.fresh (P' _);obtain⟨W,⟨m0,w0⟩,turn⟩:=hw a.heap.objs.size C;have fpD:∀b∈l,b≠a.heap.objs.size:=λb c=>let ⟨o,e⟩:=p b c;aaa (U' e)
 have fpC:∀b∈l,b≠P2.objs.size:=λb c=>let ⟨o,e⟩:=p b c;aaa (V' (U' e) M)
 let Y:=TC X scope P2.objs.size N' a H₂ l
 have hcY:Y.calm=true:=Fh;have I0:Inv Y [] (tw ix σ) (upd H₂ a.heap.objs.size (.lst [])) {a with heap:=k,toks:=a.toks+([]:List (Str×Value)).length}:=
  Zh I hf hk hx IU p (P' _) M J (by simpa using OL) Z N _
 have NH:P2.objs.size∉Ct X.stack:=λz=>by
  rcases List.mem_cons.mp (I.vf _ z) with e|e
  ·exact absurd I.lt (by rw[<-e];calc Nat.not_lt.mpr M)
  ·exact I.NI M e
 have yY:∀{d:Hp},(∀b∈l,d b=none)->∀b∈l,oN Y [] d b:=λhn b c=>by
  obtain⟨f0,f1,f2,f3,f4,f5⟩:=IU b c;refine⟨hn b c,fpC b c,I0.ok.Cu b c,.inl c,(I0.ok.Xu b c).2,λp C=>absurd (show p∈([]:List (Addr×Obj)) from C) nofun⟩
 have TL:S 0 k:=T.keep _ _ _ st λb _ o e=>Z b o e;have G:∀j:Shared,j={a with heap:=k,toks:=a.toks + ([]:List (Str×Value)).length}->
   codeAny (model X.prog X.w) X.A (.compLoop (.ListComp elt [⟨target,iter,ifs,0⟩] scope pos) 0 (.ref it) (.ref a.heap.objs.size) (compEnvC scope (l9 X.env scope.names []) P2.objs.size X.env))
    (RR (.ref a.heap.objs.size) P2.objs.size) j:=by
  rintro j rfl;calc vB (λn s'=>∃i d,Inv Y [] (tw ix σ) d s'/\S i s'.heap/\(∀b∈l,d b=none)/\W i n d) ?_ m0 ⟨0,_,I0,TL,λb c=>by rw[av (fpD b c)];calc(IU b c).1,w0⟩;rintro n s3 ⟨i,L,I3,oG,SW,w3⟩;rcases turn i n L w3 with⟨stop,qn⟩|⟨go,Nn,hNn,step⟩
  ·calc cO (T.done Y rfl rfl rfl hcY i [] s3 _ L _ I3 (yY SW) oG stop) λr s4 q=>?_;obtain⟨hr,O⟩:=q;subst hr;obtain⟨m,hn,_⟩:=O.loc;refine hRR _ _ s4 L m M O.free NH hn ?_ ?_ qn
   ·obtain⟨o,k,p,j,hd,_⟩:=hn;exact⟨o,j,λv z=>by rw[hd]at z;cases z⟩
   ·refine I.SU (s':=s4) (ch:=l) O.os ?_ O.aO O.bare λb c=>?_
    ·exact O.base
    ·obtain⟨f0,f1,f2,f3,f4,f5⟩:=IU b c;exact⟨f3,f1,f4,f5⟩
  ·calc cO (T.item Y rfl rfl rfl hcY i [] s3 _ L _ I3 (yY SW) oG go) λr s4 q=>?_;obtain⟨u,hr,h4⟩:=q;subst hr;calc cO h4 λ_ s5 q=>?_;obtain⟨x,j,p,r,v,k,z⟩:=q;have C:=p.pinned (yY z) (T.obj _ _ k);calc cO (hg _ _ _ _ _ s5 _ j x u _ C r (step x j v)) λ_ I q=>?_;obtain⟨F,p,r,j,u⟩:=q;calc cO (ht _ _ _ _ _ I F p _ r u) λok s7 q=>?_;obtain⟨H7,I7,q7⟩:=q;have t:∀{P:Shared} {R:Hp} {B:Nat},Inv Y ([]++oO l s5.heap) F R P->B<n->W (i+1) B R->∃m,m<n/\∃i d,Inv Y [] (tw ix σ) d P/\S i P.heap/\(∀b∈l,d b=none)/\W i m d:=λ{P R B} I8 hm w8=>by
    calc⟨B,hm,i+1,R,(I8.ki).less j.1.symm j.2,T.keep _ _ _ k λb c o e=>(I8.pin (b,o) (aaf _ (aaf _ (jx c e)))).1,λb c=>?_,w8⟩;obtain⟨o,e,d⟩:=T.obj _ _ k b c;exact(I8.pin (b,o) (aaf _ (aaf _ (jx c e)))).2.1
   cases ok with
   |false=>
    rw[if_neg Bool.false_ne_true]at q7 ⊢;obtain⟨B,hm,w8⟩:=hNn _ q7;calc t I7 hm w8
   |true=>
    rw[if_pos rfl] at q7 ⊢;calc cO (he _ _ _ _ _ s7 F H7 _ I7 q7) λy P q=>?_;obtain⟨b,R,I8,d,U,e,i,j⟩:=q;have k:=(uq (X:=Y)) (pins:=[]++oO l s5.heap) P F R (.ref a.heap.objs.size) [b] (.ref a.heap.objs.size) [y] (λ_ c=>Nn c) I8 rfl (.cons d .nil)
     ⟨_,U,b,rfl,rfl,e,i,j⟩
    exact cO k λ_ d ⟨_,c,a,_,b⟩=>let ⟨B,hm,c⟩:=hNn _ b;t a hm c
 calc codeAny_compStart_list (G _ rfl) (T.self _ 0 _ _ _ TL (G _ rfl))
theorem Inv.Zl{s b:Shared}{C:Addr}{h':Heap}(a:Inv X pins σ H₂ b)(I:Inv X pins σ H s)(d:b.heap.objs.size<=C)(f:H C=none)(g:Heap.SameBut C s.heap h'):Inv X pins σ H {s with heap:=h'}:=by
 refine I.turned (t':=s.toks) (λb o h e=>(g.2 b h).trans e) f (Nat.ne_of_gt (V' a.lt d)) (.inr (aab a.sz d)) (λx c e z=>?_) λp b z=>?_
 ·obtain⟨v,q⟩:=a.cell x c e;exact absurd (V' q.lt (by rw[z];calc d)) (aaE _)
 ·calc absurd (V' (U' (a.pin p b).1) (by rw[z];calc d)) (aaE _)
theorem dy
  (l:PI X target iter wi) (n:tD X scope N' λY=>PG Y target g) (o:tD X scope N' λY=>Ru Y ifs tt) (a:tD X scope N' λY=>PE Y elt te)
  (p:X.calm=true:=by rfl) (f:freeOk scope X.env.scope=true:=by kernel_rfl) (i:scope.kind=.function:=by rfl) (b:CW X.N N' ix scope=true:=by kernel_rfl) (j:∀x,foldedSetIterable iter X.env x=pure x:=by intro _;rfl):PE X (.ListComp elt [⟨target,iter,ifs,0⟩] scope pos) (TJ ix wi g tt te):=by
 walk_at "xc";rw[eval_ListComp];have m:∀x∈scope.names,x.2=.free->∃c,X.env.cells.lookup x.1=some c:=λx b a=>I.ok.has x.1 ((freeOk.at f b).2.1 a);refine wpAny_comprehension_free (use:=none) rfl j (lT m) i (λx b a=>(freeOk.at f b).2.2.1 a) (aak (l pins s σ H _ I h) (λm j c=>aak c (λl j d=>?_) λ_ _ e=>e) λ_ _ e=>e);obtain⟨c,j,l,J,m,e,k,T,r,t,u⟩:=d;subst e;refine xi (RR:=λc C=>compPost (model X.prog X.w) X.A X.xe none (EP X pins σ Q) c C) (QD:=λD c=>Q (.ref D) c) p f i b n o a k T r t u ?_;intro D C x c m d e y j z l q;exact⟨m,j,λB v=>⟨.ref D,c,k.Zl l d e v,rfl,q⟩⟩
theorem gk{i:Nat}{y:Str}{d S:Pos}(hN:X.N.Nodup)(F:X.N[i]?=some y)(hy:Loc X.env.scope y)
  (hi:PI X target iter wi) (hg:tD X scope N' λY=>PG Y target g) (ht:tD X scope N' λY=>Ru Y ifs tt) (j:tD X scope N' λY=>PE Y elt te)
  (G:swapsWith (.ListComp elt [⟨target,iter,ifs,0⟩] scope pos) (some (.Name y d)) S.line X.env=pure true:=by rfl)
  (Fh:X.calm=true:=by rfl) (K:freeOk scope X.env.scope=true:=by kernel_rfl) (U:scope.kind=.function:=by rfl) (k:CW X.N N' ix scope=true:=by kernel_rfl) (hs:∀x,foldedSetIterable iter X.env x=pure x:=by intro _;rfl) (JB:X.fn y=true\/X.env.scope.names.lookup y=some .local:=by grind):
  PS X (.Assign [.Name y d] (.ListComp elt [⟨target,iter,ifs,0⟩] scope pos) S) (Cy (TJ ix wi g tt te) (fL i)):=by
 walk_at "xd";rw[exec_Assign_Name_used _ _ _ _ G];refine E' (wpAny_standAt (E' ?_));show wpAny _ X.A (do let _ <-comprehension (.ListComp elt [⟨target,iter,ifs,0⟩] scope pos) scope X.env _ (newList []) false (eval iter X.env) (some (assign (.Name y d) X.env))) _ _ s;have TM:∀x ∈ scope.names,x.2=.free->∃c,X.env.cells.lookup x.1=some c:=λx k j=>I.ok.has x.1 ((freeOk.at K k).2.1 j);refine E' (aak (wpAny_comprehension_free (use:=some (assign (.Name y d) X.env)) (Q:=λ_ a=>SP X pins D .next a) rfl hs (lT TM) U (λx k j=>(freeOk.at K k).2.2.1 j)
  (aak (hi pins s σ H _ I h) (λxv W l=>aak l (λXz Z n=>?_) λ_ _ e=>e) λ_ _ e=>e)) (λ_ a hq=>J' (J' hq)) λ_ _ e=>e)
 obtain⟨it,fp,tn,J,H2,e,f,T,AD,f2,hw⟩:=n;subst e;calc xi (RR:=λL C=>compPost (model X.prog X.w) X.A X.xe (some (assign (.Name y d) X.env)) (λ_ a=>SP X pins D .next a) L C) (QD:=λr t=>D.nx (σ.set i (some (.ref r))) t) Fh K U k hg ht j f T AD f2 hw ?_;intro r C a t m u TF Rv hn E I' q;obtain⟨o,E,Xw⟩:=E;show wpAny _ X.A (assign (.Name y d) X.env (.ref r)) _ _ a;have B:C≠X.env.locals:=Nat.ne_of_gt (V' f.lt u);have M:C∉X.fs:=f.NI u;have O:Inv X (pins++[(C,o)]) σ t a:=I'.vg λp P=>(List.mem_append.mp P).elim (λz=>I'.pin p (aaf _ z)) λz=>by
  have z':p=(C,o):=by simpa using z
  subst z';exact⟨E,TF,B,M,Xw⟩
 calc wpAny_assign_Name (nj O hN F hy (v:=.ref r) rfl (λs3 I3=>?_) JB);obtain⟨e3,n3,_⟩:=I3.pin (C,o) (aaf _ (aaf _ nofun));obtain⟨o',es,ep,oF,r'⟩:=hn;rw[E]at oF;cases oF;have R:Inv X pins (σ.set i (some (.ref r))) t s3:=I3.ki;calc⟨m,⟨o,es,ep,e3,r'⟩,λh' zr=>⟨_,t,?_,q⟩⟩;refine R.turned (t':=s3.toks) (λb o hb e=>(zr.2 b hb).trans e) n3 B (.inr (aab f.sz u)) (λx c e z=>?_) λp P z=>?_
 ·obtain⟨v,q⟩:=f.cell x c e;exact absurd (V' q.lt (by rw[z];calc u)) (aaE _)
 ·calc absurd (V' (U' (f.pin p P).1) (by rw[z];calc u)) (aaE _)
end
def XH(b:Nat->List V->Hp->Prop)(D:Addr)(i:Nat)(H:Hp):Prop:=∃a,H D=some (.lst a)/\a.length<=i+1/\b (i+1) a H
theorem cn{c:Nat->List V->Hp->Prop}{D:Addr}{i n:Nat}{a:List V}{y:V}(d:H D=some (.lst a))(b:a.length<=i)(e:i<n)(f:n<=sizeLine)(h:c (i+1) (a++[y]) (upd H D (.lst (a++[y])))):
  ∃b,H D=some (.lst b)/\b.length<sizeLine/\XH c D i (upd H D (.lst (b++[y]))):=
 ⟨a,d,(),a++[y],ab,by rw[List.length_append,List.length_singleton];lia,h⟩
theorem bq{ix:List (Option Nat)}{J:It}{n:Nat}{g:TG}{c:TT}{k:TE}{l:Hp}{Q:VK}{D:Addr}(f:Nat->List V->Hp->Prop)(a:n<=sizeLine)(t:f 0 [] (upd l D (.lst [])))
  (u:∀i d H,i<n->f i d H->J.go i H) (v:∀d H,f n d H->J.stop n H)
  (w:∀i d H,i < n->H D=some (.lst d)->d.length<=i->f i d H->∀x h,J.JE i H x h->g x (tw ix σ) h λa q=>Ext (tw ix σ) a/\c a q λb o=>
   if b=true then k a o λy q=>∃j,q D=some (.lst j)/\j.length < sizeLine/\XH f D i (upd q D (.lst (j++[y]))) else XH f D i o)
  (z:∀d H,H D=some (.lst d)->d.length<=n->f n d H->Q (.ref D) H):
  ko ix J g c k σ l Q D:=by
 calc⟨λi m H=>m=n-i/\i<=n/\∃d,H D=some (.lst d)/\d.length<=i/\f i d H,⟨n,nofun,Y' _,[],ab,P' _,t⟩,?_⟩;rintro i m H ⟨rfl,a,d,r,s,p⟩;by_cases g:i<n
 ·exact .inr ⟨u i d H g p,XH f D i,λh ⟨j,a,b,c⟩=>⟨n-(i+1),(),rfl,g,j,a,b,c⟩,λx h y=>w i d H g r s p x h y⟩
 ·have e:i=n:=by lia
  subst e;calc .inl ⟨v d H p,z d H r s p⟩
end
section
section
variable {X:Cx}
def Fj(i j:Int):Prop:=0<j/\j.natAbs.log2<9000
theorem Fl:gq X (binaryOp .FloorDiv) (rI Fj λi j=>.int (i/j)):=XA λi j _ _ _ _ _ a q=>by
 have b:(0:Int)<j:=a.1;calc floordiv_int () (by rw[Int.fdiv_eq_ediv_of_nonneg i ()];calc q) (.inl (PyProof.noPylong_of_log2 a.2))
def uI(C:Int->Int->Prop)(g:Int->Int->V):R2:=λx y H Q=>match x,y with
 | .int i,.int j=>C i j/\Q (g i j) H
 |_,_=>False
def OM(g:Int->Int->V):R2:=λx y H Q=>match x,y with
 | .int i,.int j=>Q (g i j) H
 |_,_=>False
theorem XI{f:Value->Value->Sem Value}{C:Int->Int->Prop}{g:Int->Int->V}(h:gq X f (rI C g)):gq X f (uI C g):=by
 intro a s σ H x y v u Q I b c q
 cases x<;>cases y<;>first
  |calc(show False from q).elim
  |calc h a s σ H _ _ v u Q I b c ⟨_,_,rfl,rfl,q.1,q.2⟩
theorem Fm{f:Value->Value->Sem Value}{g:Int->Int->V}(h:gq X f (JF g)):gq X f (OM g):=by
 intro a s σ H x y v u Q I b c q
 cases x<;>cases y<;>first
  |calc(show False from q).elim
  |calc h a s σ H _ _ v u Q I b c ⟨_,_,rfl,rfl,q⟩
theorem eX:gq X (binaryOp .Sub) (OM λi j=>.int (i-j)):=Fm Oa
theorem lG:gq X (binaryOp .Mult) (uI EM λi j=>.int (i*j)):=XI Ob
theorem eP:gq X (binaryOp .Mod) (uI (λ_ j=>0<j) λi j=>.int (i%j)):=XI Oc
theorem jj:gq X (binaryOp .FloorDiv) (uI Fj λi j=>.int (i/j)):=XI Fl
theorem qM:gq X (binaryOp .Pow) (uI JH λi j=>.int (i^j.toNat)):=XI Od
theorem gu:gq X (compareOp .Lt) (OM λi j=>.bl (decide (i<j))):=Fm S9
theorem zt:gq X (compareOp .LtE) (OM λi j=>.bl (decide (i<=j))):=Fm Ta
theorem oT:gq X (compareOp .Gt) (OM λi j=>.bl (decide (j<i))):=Fm Tb
theorem ON:gq X (compareOp .GtE) (OM λi j=>.bl (decide (j<=i))):=Fm Tc
def nC(K:W.Frag)(H:Hp):Nat->V->V->Prop
 |0,_,_=>False
 |n+1,x,y=>(x=y/\fM x=true)\/∃a b xs c,x=.ref a/\y=.ref b/\((bz K H a xs/\bz K H b c)\/(aP K H a xs/\aP K H b c))/\xs.length=c.length/\∀(i:Nat) u v,xs[i]?=some u->c[i]?=some v->nC K H n u v
theorem in1_units(A:Around):A.in1.units=A.units+1:=rfl
theorem nE{pins:List (Addr×Obj)}{σ:St}{H:Hp}{s:Shared}(I:Inv X pins σ H s):∀(n:Nat) (A:Around) {x y:V}{u v:Value},nC X.K H n x y->A.units+n<cLine->RelV x u->RelV y v->SeqAt.EqAt A s u v true
 |0,_,_,_,_,_,h,_,_,_=>h.elim
 |n+1,A,x,y,u,v,h,o,c,d=>by
  rcases h with⟨e,f⟩|⟨a,b,J,L,j,k,l,o,M⟩
  ·subst e;have q:=zi (A:=A) (s:=s) c d f f;have g:Eh x x=true:=by cases x <;> first | rfl | calc absurd (show false=true from f) T' | simp[Eh]
   rw[g]at q;exact q
  ·subst j k
   cases c
   cases d;by_cases m:a=b
   ·subst m;exact SeqAt.EqAt.same _
   rcases l with⟨o,p⟩|⟨o,p⟩
   ·obtain⟨c,h,q,H⟩:=I.tuple o;obtain⟨f,k,r,N⟩:=I.tuple p;have O:=h.length;have P:=k.length;have t:c.toArray.size=f.toArray.size:=by simp;lia
    have d:=SeqAt.RcAt.tuples (A:=A) (e:=λ_=>true) (show s.heap.IsTuple a c.toArray from q) (show s.heap.IsTuple b f.toArray from r) () λj u v=>by
     have w:j<c.length:=by simpa using u
     have y:j<f.length:=by simpa using v
     obtain⟨z,l,B⟩:=h.get (i:=j) (x:=J[j]'()) nofun;obtain⟨C,g,D⟩:=k.get (i:=j) (x:=L[j]'()) nofun;have E:c.toArray[j]=z:=by
      have:=cy w;rw[this]at l;simpa using Option.some.inj l
     have F:f.toArray[j]=C:=by
      have:=cy y;rw[this]at g;simpa using Option.some.inj g
     rw[E,F];exact nE I n A.in1 (M j _ _ nofun nofun) (by rw[in1_units];lia) B D
    have G:SeqAt.RcAt A s (.ref a) (.ref b) true:=by
     have:((List.range (min c.toArray.size f.toArray.size)).all (λ_=>true)&&c.toArray.size==f.toArray.size)=true:=by
      rw[t];simp
     rw[this]at d;exact d
    exact SeqAt.EqAt.of_refs m G
   ·obtain⟨c,h,q,H⟩:=I.list o;obtain⟨f,k,r,N⟩:=I.list p;have O:=h.length;have P:=k.length;have t:c.toArray.size=f.toArray.size:=by simp;lia
    have d:=SeqAt.RcAt.lists (A:=A) (e:=λ_=>true) q.isList r.isList t () λj u v=>by
     have w:j<c.length:=by simpa using u
     have y:j<f.length:=by simpa using v
     obtain⟨z,l,B⟩:=h.get (i:=j) (x:=J[j]'()) nofun;obtain⟨C,g,D⟩:=k.get (i:=j) (x:=L[j]'()) nofun;have E:c.toArray[j]=z:=by
      have:=cy w;rw[this]at l;simpa using Option.some.inj l
     have F:f.toArray[j]=C:=by
      have:=cy y;rw[this]at g;simpa using Option.some.inj g
     rw[E,F];exact nE I n A.in1 (M j _ _ nofun nofun) (by rw[in1_units];lia) B D
    have G:SeqAt.RcAt A s (.ref a) (.ref b) true:=by
     have:((List.range c.toArray.size).all (λ_=>true))=true:=by simp
     rw[this]at d;exact d
    calc SeqAt.EqAt.of_refs m G
end
end
section
variable {pins:List (Addr×Obj)}{σ:St}
section
variable {X:Cx}
theorem Fn{H:Hp}{s:Shared}(I:Inv X pins σ H s){A:Around}{n:Nat}{a b:Addr}(h:nC X.K H (n+1) (.ref a) (.ref b))(f:A.units+n+1<cLine):
  SeqAt.RcAt A s (.ref a) (.ref b) true/\SeqAt.RcNeAt A s (.ref a) (.ref b) false:=by
 rcases h with⟨e,f⟩|⟨g,k,J,L,c,d,j,l,M⟩
 ·exact absurd (show false=true from f) T'
 ·cases c
  cases d;rcases j with⟨g,h⟩|⟨g,h⟩
  ·obtain⟨d,k,l,H⟩:=I.tuple g;obtain⟨f,m,o,N⟩:=I.tuple h;have O:=k.length;have P:=m.length;have u:d.toArray.size=f.toArray.size:=by simp;lia
   have c:∀j (g:j<d.toArray.size) (h:j<f.toArray.size),SeqAt.EqAt A.in1 s d.toArray[j] f.toArray[j] ((λ_=>true) j):=λj v w=>by
    have y:j<d.length:=by simpa using v
    have z:j<f.length:=by simpa using w
    obtain⟨B,p,C⟩:=k.get (i:=j) (x:=J[j]'()) nofun;obtain⟨D,q,E⟩:=m.get (i:=j) (x:=L[j]'()) nofun;have F:d.toArray[j]=B:=by
     have:=cy y;rw[this]at p;simpa using Option.some.inj p
    have G:f.toArray[j]=D:=by
     have:=cy z;rw[this]at q;simpa using Option.some.inj q
    rw[F,G];exact nE I n A.in1 (M j _ _ nofun nofun) (by rw[in1_units];lia) C E
   have e:((List.range (min d.toArray.size f.toArray.size)).all (λ_=>true)&&d.toArray.size==f.toArray.size)=true:=by
    rw[u];simp
   have r:=SeqAt.RcAt.tuples (A:=A) (show s.heap.IsTuple a d.toArray from l) (show s.heap.IsTuple b f.toArray from o) () c;have t:=SeqAt.RcNeAt.tuples (A:=A) (show s.heap.IsTuple a d.toArray from l) (show s.heap.IsTuple b f.toArray from o) () c;rw[e]at r t;exact⟨r,t⟩
  ·obtain⟨d,k,l,H⟩:=I.list g;obtain⟨f,m,o,N⟩:=I.list h;have O:=k.length;have P:=m.length;have u:d.toArray.size=f.toArray.size:=by simp;lia
   have c:∀j (g:j<d.toArray.size) (h:j<f.toArray.size),SeqAt.EqAt A.in1 s d.toArray[j] f.toArray[j] ((λ_=>true) j):=λj v w=>by
    have y:j<d.length:=by simpa using v
    have z:j<f.length:=by simpa using w
    obtain⟨B,p,C⟩:=k.get (i:=j) (x:=J[j]'()) nofun;obtain⟨D,q,E⟩:=m.get (i:=j) (x:=L[j]'()) nofun;have F:d.toArray[j]=B:=by
     have:=cy y;rw[this]at p;simpa using Option.some.inj p
    have G:f.toArray[j]=D:=by
     have:=cy z;rw[this]at q;simpa using Option.some.inj q
    rw[F,G];exact nE I n A.in1 (M j _ _ nofun nofun) (by rw[in1_units];lia) C E
   have e:(List.range d.toArray.size).all (λ_=>true)=true:=by simp
   have r:=SeqAt.RcAt.lists (A:=A) l.isList o.isList u () c;have t:=SeqAt.RcNeAt.lists (A:=A) l.isList o.isList u () c;rw[e]at r t;calc⟨r,t⟩
def rB(K:W.Frag)(H:Hp)(a b:Addr):Prop:=∃xs c,xs.length≠c.length/\((aP K H a xs/\aP K H b c)\/(bz K H a xs/\bz K H b c/\(xs=[]\/c=[])))
theorem A8{H:Hp}{s:Shared}(I:Inv X pins σ H s){A:Around}{a b:Addr}(h:rB X.K H a b)(k:A.units<cLine):
  SeqAt.RcAt A s (.ref a) (.ref b) false/\SeqAt.RcNeAt A s (.ref a) (.ref b) true:=by
 obtain⟨j,n,r,⟨l,m⟩|⟨l,m,q⟩⟩:=h
 ·obtain⟨d,h,g,r⟩:=I.list l;obtain⟨f,n,i,t⟩:=I.list m;have o:=h.length;have p:=n.length;have j:(d.toArray.size != f.toArray.size)=true:=by simp;lia
  exact⟨SeqAt.RcAt.lists_lengths g.isList i.isList j k,SeqAt.RcNeAt.lists_lengths g.isList i.isList j k⟩
 ·obtain⟨d,h,g,r⟩:=I.tuple l;obtain⟨f,n,i,t⟩:=I.tuple m;have o:=h.length;have p:=n.length;have c:∀j (l:j<d.toArray.size) (m:j<f.toArray.size),SeqAt.EqAt A.in1 s d.toArray[j] f.toArray[j] ((λ_=>true) j):=λj h l=>by
   exfalso;have m:j<d.length:=by simpa using h
   have h:j<f.length:=by simpa using l
   rcases q with e|e
   ·subst e;simp at o;lia
   ·subst e;simp at p;lia
  have e:((List.range (min d.toArray.size f.toArray.size)).all (λ_=>true)&&d.toArray.size==f.toArray.size)=false:=by
   have:d.toArray.size≠f.toArray.size:=by simp;lia
   rw[Bool.and_eq_false_iff];exact .inr (beq_eq_false_iff_ne.mpr this)
  have h:=SeqAt.RcAt.tuples (A:=A) (show s.heap.IsTuple a d.toArray from g) (show s.heap.IsTuple b f.toArray from i) k c;have j:=SeqAt.RcNeAt.tuples (A:=A) (show s.heap.IsTuple a d.toArray from g) (show s.heap.IsTuple b f.toArray from i) k c;rw[e]at h j;calc⟨h,j⟩
def OP(K:W.Frag):R2:=λx y H Q=>match x,y with
 | .ref a,.ref b=>(nC K H 20 (.ref a) (.ref b)/\Q (.bl true) H)\/(rB K H a b/\Q (.bl false) H)
 |x,y=>JI x y=true/\Q (.bl (decide (x=y))) H
def Rw(K:W.Frag):R2:=λx y H Q=>match x,y with
 | .ref a,.ref b=>(nC K H 20 (.ref a) (.ref b)/\Q (.bl false) H)\/(rB K H a b/\Q (.bl true) H)
 |x,y=>JI x y=true/\Q (.bl (!decide (x=y))) H
theorem Fo(c:X.A.units+64<cLine):gq X (compareOp .Eq) (OP X.K):=by
  intro pins s σ H x y v u Q I a b h
  cases x<;>cases y<;>first
    |calc SY pins s σ H _ _ v u Q I a b h
    | (cases a;cases b
       rcases h with⟨a,q⟩|⟨a,q⟩
       · exact(Fn I (A:=X.A) a ()).1 X.prog X.w X.xe _ ⟨.bl true,H,I,rfl,q⟩
       · calc(A8 I (A:=X.A) a ()).1 X.prog X.w X.xe _ ⟨.bl false,H,I,rfl,q⟩)
theorem OQ(c:X.A.units+64<cLine):gq X (compareOp .NotEq) (Rw X.K):=by
  intro pins s σ H x y v u Q I a b h
  cases x<;>cases y<;>first
    |calc S8 pins s σ H _ _ v u Q I a b h
    | (cases a;cases b
       rcases h with⟨a,q⟩|⟨a,q⟩
       · exact(Fn I (A:=X.A) a ()).2 X.prog X.w X.xe _ ⟨.bl false,H,I,rfl,q⟩
       · calc(A8 I (A:=X.A) a ()).2 X.prog X.w X.xe _ ⟨.bl true,H,I,rfl,q⟩)
def TU(g:Bool->Bool):R2:=λx y H Q=>match x,y with
 | .bl c,.bl d=>Q (.bl (g (c==d))) H
 |x,.bC=>Q (.bl (g (decide (x=.bC)))) H
 |_,_=>False
theorem Fp:gq X (compareOp .Is) (TU id):=by
 intro pins s σ H x y v u Q I a b h
 cases x<;>cases y<;>first
  |calc(show False from h).elim
  |calc Oe pins s σ H _ _ v u Q I a b ⟨rfl,h⟩
  |(cases a;cases b;calc is_bool ⟨.bl _,H,I,rfl,h⟩)
theorem oV:gq X (compareOp .IsNot) (TU not):=by
 intro pins s σ H x y v u Q I a b h
 cases x<;>cases y<;>first
  |calc(show False from h).elim
  |calc JJ pins s σ H _ _ v u Q I a b ⟨rfl,h⟩
  |(cases a;cases b;calc isnot_bool ⟨.bl _,H,I,rfl,h⟩)
def uIn(K:W.Frag)(a:Bool):R2:=λx y H Q=>match y with
 | .ref p=>∃xs,(aP K H p xs\/bz K H p xs)/\fM x=true/\xs.all fM=true/\Q (.bl (if a then !AU x xs else AU x xs)) H
 |_=>False
theorem Fq:gq X (compareOp .In) (uIn X.K false):=by
 intro pins s σ H x y v u Q I a b h
 cases y<;>first
  |calc(show False from h).elim
  |(obtain⟨c,d,e,f,g⟩:=h;calc CM pins s σ H _ _ v u Q I a b ⟨_,c,rfl,d,e,f,g⟩)
def OS(K:W.Frag)(a:TE):TI:=λσ H R=>a σ H λx b=>match x with
 | .ref a=>((∃xs,aP K b a xs)/\R (wQ K a) b)\/((∃xs,bz K b a xs)/\R (Rp K a) b)
 |_=>False
theorem bS{n l:Expr}{i:TE}(r:PE X l i):PI X n l (OS X.K i):=by
  calc⟨?_⟩;intro pins s σ H R I h;calc cO (r pins s σ H _ I h) λv c t=>?_;obtain⟨x,j,d,u,k⟩:=t
  cases x<;>first
    |calc(show False from k).elim
    | (rename_i a;cases u
       rcases k with⟨⟨w,f⟩,q⟩|⟨⟨w,f⟩,q⟩
       · obtain⟨m,y,p,z⟩:=d.list f;calc wpAny_pyIter_list p.isList ?_;calc⟨c.heap.objs.size,[c.heap.objs.size],_,_,j,rfl,d.kept (t':=c.toks) λb o e=>K' _ e,CB a _,⟨_,X' _ rfl,rfl,rfl⟩,λb g=>?_,q⟩;have e:b=c.heap.objs.size:=by simpa using g
         subst e;exact d.Cz (P' _) (d.aO.fresh (P' _))
       · obtain⟨m,y,p,z⟩:=d.tuple f;calc aaz (show c.heap.IsTuple a m.toArray from p) ?_;calc⟨c.heap.objs.size,[c.heap.objs.size],_,_,j,rfl,d.kept (t':=c.toks) λb o e=>K' _ e,yW a _,⟨_,X' _ rfl,rfl,rfl⟩,λb g=>?_,q⟩;have e:b=c.heap.objs.size:=by simpa using g
         subst e;calc d.Cz (P' _) (d.aO.fresh (P' _)))
end
structure Def(P:Program)(w:World)(K:W.Frag)(mg:Str->Option Value)(base:Heap)(x:Str)(k:Nat)(ps:List Str)(sp:Sp):Prop where
 ex:∃f fd,lK P w K mg base CV k f fd ps sp/\mg x=some (.ref f)/\W.keepIn K (.ref f)=true/\Binds K fd ps []
structure cZ(K:W.Frag)(mg:Str->Option Value)(x qual:Str)(st:Stmt)(ps:List Str):Prop where
 ex:∃f fd,J9 K x qual st f fd/\mg x=some (.ref f)/\Binds K fd ps []
section
variable {P:Program}{w:World}{K:W.Frag}{mg:Str->Option Value}{base:Heap}
theorem cZ.ok{x a:Str}{b:Stmt}{N c:List Str}{k:Nat}{sp:Sp}(T:cZ K mg x a b c)(S:aB N c (ay b))(d:∀vs H Q E,sp vs H Q E->vs.length=c.length)
  (g:∀(f:Addr) (e:Value) (A:Around) (outer:List Env) (s:Shared) (H:Hp) (vs:List V) (Q:VK) (E:XK),eV k (A.deeper (envOfC a (ay b) s.heap.objs.size f e))->sp vs H Q E->
   ∃t,wA (qZ CV P w K mg base N a (ay b) f e A outer s H E).JC (cW b) t/\t {nx:=λ_ a=>Q .bC a,rt:=Q} (start N vs) H):Def P w K mg base x (k + 1) c sp:=by
 obtain⟨f,a,F,b,c⟩:=T.ex;calc⟨f,a,F.ok S d (g f),b,F.kp,c⟩
end
theorem TV{X:Cx}{k j:Nat}{b:List Str}{sp:Sp}{x:Str}{p a:Pos}{e:Expr}{es:List Expr}{t:TA}(D:Def X.prog X.w X.K X.mg X.base x k b sp)(c:eV j X.A)(d:PA X (e::es) t)(g:Gl X x:=by rfl)(b:k<=j:=by decide)
  (h:(x==("__debug__":Str))=false:=by decide) (i:starEach (e::es) X.env=(false,eval e X.env)::starEach es X.env:=by rfl) (j:(backTo a (starEach es X.env)).any (·.1)=false:=by rfl):
  PE X (.Call (.Name x p) (e::es) [] a) (wU sp [] E0 t):=by
 obtain⟨f,l,F,a,e,k⟩:=D.ex;calc JO F (c.mono b) g a e k .nil AZ d h i j
end
section
variable {H:Hp}
section
variable {X:Cx}
def OT(K:W.Frag):R2:=λx y H Q=>match x,y with
 | .str z,.int i=>∃c,z.length<=sizeLine/\ip z.cps.toList i=some c/\Q (.str ⟨#[c]⟩) H
 | .ref p,.int i=>∃xs v,(aP K H p xs\/bz K H p xs)/\ip xs i=some v/\Q v H
 | .ref p,.str k=>∃v,fK H p (.str k) (some v)/\Q v H
 |_,_=>False
theorem Zm(c:X.A.units+64<cLine):To X (OT X.K):=by
  intro a b d s σ H x y v u Q I i j h k
  cases x<;>cases y<;>first
    |calc(show False from h).elim
    |(obtain⟨c,f,l,e⟩:=h;calc Ov a b d s σ H _ _ v u Q I i j ⟨_,_,c,rfl,rfl,f,l,e⟩ k)
    | (obtain⟨c,m,f | f,l,e⟩:=h
       · exact JT a b d s σ H _ _ v u Q I i j ⟨_,c,_,m,rfl,rfl,f,l,e⟩ k
       · calc Ou a b d s σ H _ _ v u Q I i j ⟨_,c,_,m,rfl,rfl,f,l,e⟩ k)
    | (obtain⟨m,g,e⟩:=h
       cases i;calc tail_any (qh I g) PySem.F.slot_dict_getitem.lookup (uv () I g j λc d a b=>⟨m,H,a,b,e⟩) k)
end
inductive DV where
 |bC|bl (b:Bool)|int (i:Int)|str (x:Str)|tup (ds:List DV)|lst (ds:List DV)|dict
inductive HD(H:Hp):Nat->V->DV->Prop
 |bC {n}:HD H n .bC .bC
 |bl {n} (b:Bool):HD H n (.bl b) (.bl b)
 |int {n} (i:Int):HD H n (.int i) (.int i)
 |str {n} (x:Str):HD H n (.str x) (.str x)
 |tup {n a xs ds}:H a=some (.tup xs)->xs.length=ds.length->(∀(i:Nat) u e,xs[i]?=some u->ds[i]?=some e->HD H n u e)->HD H (n+1) (.ref a) (.tup ds)
 |lst {n a xs ds}:H a=some (.lst xs)->xs.length=ds.length->(∀(i:Nat) u e,xs[i]?=some u->ds[i]?=some e->HD H n u e)->HD H (n+1) (.ref a) (.lst ds)
 |dict {n a kvs}:H a=some (.dK kvs)->HD H n (.ref a) .dict
theorem HD.same{H a:Hp}(s:aq H a){n:Nat}{x:V}{d:DV}(h:HD H n x d):HD a n x d:=by
 induction h with
 |bC=>calc .bC
 |bl b=>calc .bl b
 |int i=>calc .int i
 |str x=>calc .str x
 |tup a b c d=>calc .tup (s _ _ a) b d
 |lst a b c d=>calc .lst (s _ _ a) b d
 |dict a=>calc .dict (s _ _ a)
theorem HD.mono{H:Hp}{n:Nat}{x:V}{d:DV}(h:HD H n x d):∀{m:Nat},n<=m->HD H m x d:=by
 induction h with
 |bC=>intro m _;calc .bC
 |bl b=>intro m _;calc .bl b
 |int i=>intro m _;calc .int i
 |str x=>intro m _;calc .str x
 |tup a b c f=>
  intro m g;obtain⟨k,rfl⟩:∃k,m=k+1:=⟨m-1,()⟩
  calc .tup a b λi u e p q=>f i u e p q ()
 |lst a b c f=>
  intro m g;obtain⟨k,rfl⟩:∃k,m=k+1:=⟨m-1,()⟩
  calc .lst a b λi u e p q=>f i u e p q ()
 |dict a=>intro m _;calc .dict a
inductive HT(H:Hp):Nat->V->DV->Prop
 |bC {n}:HT H n .bC .bC
 |bl {n} (b:Bool):HT H n (.bl b) (.bl b)
 |int {n} (i:Int):HT H n (.int i) (.int i)
 |str {n} (x:Str):HT H n (.str x) (.str x)
 |tup {n a xs ds}:H a=some (.tup xs)->xs.length=ds.length->(∀(i:Nat) u e,xs[i]?=some u->ds[i]?=some e->HT H n u e)->HT H (n+1) (.ref a) (.tup ds)
theorem HT.hd{H:Hp}{n:Nat}{x:V}{d:DV}(h:HT H n x d):HD H n x d:=by
 induction h with
 |bC=>calc .bC
 |bl b=>calc .bl b
 |int i=>calc .int i
 |str x=>calc .str x
 |tup a b c d=>calc .tup a b d
def cj(H a:Hp):Prop:=∀b xs,H b=some (.tup xs)->a b=some (.tup xs)
theorem aq.aM{a:Hp}(h:aq H a):cj H a:=λb a e=>h b _ e
theorem cj.refl(H:Hp):cj H H:=λ_ _ h=>h
theorem cj.trans{c d:Hp}(a:cj H c)(b:cj c d):cj H d:=λc o h=>b c o (a c o h)
theorem cj.upd{a:Hp}(h:cj H a){p:Addr}{o:HO}(d:∀xs,a p≠some (.tup xs)):cj H (upd a p o):=λb xs e=>by
 have c:=h b xs e;have:b≠p:=λz=>by subst z;exact d xs c
 rw[av this];calc c
theorem HT.aG{H a:Hp}(s:cj H a){n:Nat}{x:V}{d:DV}(h:HT H n x d):HT a n x d:=by
 induction h with
 |bC=>calc .bC
 |bl b=>calc .bl b
 |int i=>calc .int i
 |str x=>calc .str x
 |tup a b c d=>calc .tup (s _ _ a) b d
theorem aq.new{p:Addr}(o:HO)(a:H p=none):aq H (upd H p o):=λb u e=>by rw[av (ao e a)];calc e
end
section
section
variable {X:Cx}
def OU(K:W.Frag):List V->Hp->VK->Prop:=λxs H Q=>match xs with
 | [x]=>∃n,EO K x H n/\Q (.int (n:Nat)) H
 |_=>False
theorem aN:fm X (.builtin "len") (OU X.K):=by
 intro a s σ H b c Q I r h
 match b,r,h with
 | [x],r,h=>
  obtain⟨n,b,d⟩:=h;calc ER a s σ H _ c Q I r ⟨x,n,rfl,b,d⟩
def uII(g:Int->Int->Int):List V->Hp->VK->Prop:=λxs H Q=>match xs with
 | [.int i,.int j]=>Q (.int (g i j)) H
 |_=>False
theorem uz(b:X.calm=true):fm X (.builtin "max") (uII λi j=>if j > i then j else i):=by
 intro a s σ H c d Q I r h
 match c,r,h with
 | [.int i,.int j],r,h=>calc CF b a s σ H _ d Q I r ⟨i,j,rfl,h⟩
def vC(K:W.Frag):List V->Hp->VK->Prop:=λxs H Q=>match xs with
 | [.ref p]=>(∃a,aP K H p a/\∀l,H l=none->Q (.ref l) (upd H l (.tup a)))\/(∃a,bz K H p a/\Q (.ref p) H)
 |_=>False
theorem bO:fm X (.type "tuple") (vC X.K):=by
 intro a s σ H b e Q I r h
 match b,r,h with
 | [.ref p],r,h=>
  rcases h with⟨b,c,d⟩|⟨b,c,d⟩
  ·exact lR a s σ H _ e Q I r ⟨p,b,rfl,.inl ⟨c,d⟩⟩
  ·calc lR a s σ H _ e Q I r ⟨p,b,rfl,.inr ⟨c,d⟩⟩
def Ma(K:W.Frag):List V->Hp->VK->Prop:=λxs H Q=>match xs with
 | [.ref p]=>∃a,(aP K H p a\/bz K H p a)/\∀l,H l=none->Q (.ref l) (upd H l (.lst a))
 |_=>False
theorem cf:fm X (.type "list") (Ma X.K):=by
 intro a s σ H b c Q I r h
 match b,r,h with
 | [.ref p],r,h=>
  obtain⟨b,d,e⟩:=h;calc vz a s σ H _ c Q I r ⟨p,b,rfl,d,e⟩
def Mb:V->V->V->Hp->(Hp->Prop)->Prop:=λo i v H Q=>match o,i with
 | .ref p,.int k=>∃xs j,H p=some (.lst xs)/\zf xs.length k=some j/\Q (upd H p (.lst (xs.set j v)))
 |_,_=>False
theorem cL:NS X Mb:=by
 intro a s σ H o i v b c u Q I d e f h
 cases o<;>cases i<;>first
  |calc(show False from h).elim
  |(obtain⟨g,j,i,k,l⟩:=h;calc set_list a s σ H _ _ v b c u Q I d e f ⟨_,g,_,j,rfl,rfl,i,k,l⟩)
end
theorem TX{CX P w K mg base N qual scope f cd A outer s H E}:(qZ CX P w K mg base N qual scope f cd A outer s H E).JC.K=K:=rfl
theorem Mc{X:Cx}:X.JC.K=X.K:=rfl
theorem Fs{CX P w K mg base N qual scope f cd A outer s H E}:(qZ CX P w K mg base N qual scope f cd A outer s H E).K=K:=rfl
theorem Md{X:Cx}{scope C N' a b fp}:(TC X scope C N' a b fp).K=X.K:=rfl
theorem dH:2<=sizeLine:=by decide
end
section
variable {g:Int->Int->V}
section
variable {K:W.Frag}{H:Hp}{Q:VK}{i j:Int}{a b:Addr}{x y:V}{s t:Str}
theorem Me{C:Int->Int->Prop}:uI C g (.int i) (.int j) H Q=(C i j/\Q (g i j) H):=rfl
theorem Ft:OM g (.int i) (.int j) H Q=Q (g i j) H:=rfl
theorem Fu:decide (V.int i=V.int j)=decide (i=j):=by simp
theorem Fv:decide (V.str s=V.str t)=decide (s=t):=by simp
theorem vD:OP K (.int i) (.int j) H Q=Q (.bl (decide (i=j))) H:=by
 show(true=true/\Q (.bl (decide (V.int i=V.int j))) H)=_;rw[Fu];simp
theorem vE:OP K (.str s) (.str t) H Q=Q (.bl (decide (s=t))) H:=by
 show(true=true/\Q (.bl (decide (V.str s=V.str t))) H)=_;rw[Fv];simp
theorem vF:Rw K (.int i) (.int j) H Q=Q (.bl (!decide (i=j))) H:=by
 show(true=true/\Q (.bl (!decide (V.int i=V.int j))) H)=_;rw[Fu];simp
theorem vG:Rw K (.str s) (.str t) H Q=Q (.bl (!decide (s=t))) H:=by
 show(true=true/\Q (.bl (!decide (V.str s=V.str t))) H)=_;rw[Fv];simp
theorem Fw:OP K (.ref a) (.ref b) H Q=((nC K H 20 (.ref a) (.ref b)/\Q (.bl true) H)\/(rB K H a b/\Q (.bl false) H)):=rfl
theorem Fx:Rw K (.ref a) (.ref b) H Q=((nC K H 20 (.ref a) (.ref b)/\Q (.bl false) H)\/(rB K H a b/\Q (.bl true) H)):=rfl
theorem Fy{g:Bool->Bool}{c d:Bool}:TU g (.bl c) (.bl d) H Q=Q (.bl (g (c==d))) H:=rfl
theorem Mf{b:Bool}:uIn K b x (.ref a) H Q=∃xs,(aP K H a xs\/bz K H a xs)/\fM x=true/\xs.all fM=true/\Q (.bl (if b then !AU x xs else AU x xs)) H:=rfl
theorem Fz:OT K (.ref a) (.int i) H Q=∃xs v,(aP K H a xs\/bz K H a xs)/\ip xs i=some v/\Q v H:=rfl
theorem FA:OT K (.ref a) (.str s) H Q=∃v,fK H a (.str s) (some v)/\Q v H:=rfl
theorem FC:OT K (.str s) (.int i) H Q=∃c,s.length<=sizeLine/\ip s.cps.toList i=some c/\Q (.str ⟨#[c]⟩) H:=rfl
theorem FE:OU K [x] H Q=∃n,EO K x H n/\Q (.int (n:Nat)) H:=rfl
theorem Mg{g:Int->Int->Int}:uII g [.int i,.int j] H Q=Q (.int (g i j)) H:=rfl
theorem nH:vC K [.ref a] H Q=((∃b,aP K H a b/\∀l,H l=none->Q (.ref l) (upd H l (.tup b)))\/(∃b,bz K H a b/\Q (.ref a) H)):=rfl
theorem A9:Ma K [.ref a] H Q=∃b,(aP K H a b\/bz K H a b)/\∀l,H l=none->Q (.ref l) (upd H l (.lst b)):=rfl
theorem xj{R:Hp->Prop}:Mb (.ref a) (.int i) x H R=∃xs j,H a=some (.lst xs)/\zf xs.length i=some j/\R (upd H a (.lst (xs.set j x))):=rfl
theorem uA{α:Type}{o:Option α}:(some o).join=o:=rfl
end
end
section
variable {r:List V->Hp->VK->Prop}
def fP:Expr->Bool
 | .Starred ..=>false
 |_=>true
theorem fQ{e:Expr}{es:List Expr}{env:Env}(h:fP e=true):starEach (e::es) env=(false,eval e env)::starEach es env:=by
 cases e<;>first|rfl|calc absurd h T'
theorem jk{a:Pos}{env:Env}:∀{es:List Expr},es.all fP=true->(backTo a (starEach es env)).any (·.1)=false
 | [],_=>rfl
 |e::es,h=>by
  rw[List.all_cons,Bool.and_eq_true]at h;rw[fQ h.1];show(false||(backTo a (starEach es env)).any (·.1))=false;rw[jk h.2];rfl
def zu:Expr->Bool
 | .ListComp ..=>false
 | .SetComp ..=>false
 | .DictComp ..=>false
 |_=>true
theorem gh{e:Expr}{t:Option Expr}{l:Nat}{env:Env}(h:zu e=true):swapsWith e t l env=pure false:=by
 cases e<;>first|rfl|calc absurd h T'
section
variable {X:Cx}{e:Expr}{es:List Expr}{te:TE}{t:TA}{pos p:Pos}{x:Str}
theorem af(a:PE X e te)(b:PA X es t)(h:fP e=true:=by rfl):PA X (e::es) (AJ te t):=JN a b (fQ h)
theorem aJ{k j:Nat}{a:List Str}{sp:Sp}(D:Def X.prog X.w X.K X.mg X.base x k a sp)(b:eV j X.A)(c:PA X (e::es) t)(d:Gl X x:=by rfl)(a:k<=j:=by decide)
  (f:(x==("__debug__":Str))=false:=by decide) (g:fP e=true:=by rfl) (h:es.all fP=true:=by rfl):
  PE X (.Call (.Name x p) (e::es) [] pos) (wU sp [] E0 t):=TV D b c d a f (fQ g) (jk h)
theorem bg{a:String}(b:fm X (.builtin a) r)(c:Gl X x)(d:X.mg x=none)(f:bootBuiltins x=some (.builtin a))(g:PA X (e::es) t)(h:x≠"__name__":=by decide)(a:(x==("__debug__":Str))=false:=by decide)
  (i:fP e=true:=by rfl) (j:es.all fP=true:=by rfl):PE X (.Call (.Name x p) (e::es) [] pos) (Rr r t):=EX b c d f g h a (fQ i) (jk j)
theorem cQ{T:String}(a:fm X (.type T) r)(b:Gl X x)(c:X.mg x=none)(d:bootBuiltins x=some (.type T))(f:PA X (e::es) t)(g:x≠"__name__":=by decide)(h:(x==("__debug__":Str))=false:=by decide)
  (i:fP e=true:=by rfl) (j:es.all fP=true:=by rfl):PE X (.Call (.Name x p) (e::es) [] pos) (Rr r t):=CL a b c d f g h (fQ i) (jk j)
theorem aR{i:Nat}{a:Pos}(b:X.N.Nodup)(c:X.N[i]?=some x)(d:Loc X.env.scope x)(f:PE X e te)(h:zu e=true:=by rfl)(g:X.fn x=true\/X.env.scope.names.lookup x=some .local:=by grind):
  PS X (.Assign [.Name x a] e pos) (Cy te (fL i)):=EH b c d f (gh h) g
theorem bP(a:PE X e te)(h:zu e=true:=by rfl):PS X (.Expr e pos) (Ay te):=JD a (gh h)
end
end
section
def vH:Expr->Bool
 | .Slice ..=>false
 |_=>true
theorem kq{b:Expr}(h:vH b=true):AR b:=λo i=>by
 cases b<;>first|rfl|calc absurd h T'
theorem aj{X:Cx}{a b:Expr}{d e:TE}{c:Pos}(f:X.A.units+64<cLine)(g:PE X a d)(i:PE X b e)(h:vH b=true:=by rfl):PE X (.Subscript a b c) (EL (OT X.K) d e):=Tp (Zm f) g i (kq h)
end
end L2
set_option maxHeartbeats 400000
namespace L2
open PySem PySem.Spec PyProof.Rows
section
section
variable {prog:Program}{w:World}{A:Around}{E:Value->Shared->Prop}{s:Shared}{K:W.Frag}{x C B:Addr}{ox:Obj}{od:Option Obj}{name:Str}
open PySem.W in
open PySem.W in
end
end
section
end
end L2
namespace L2
open PySem PySem.Spec PyProof.Rows
end L2
set_option maxHeartbeats 4000000
namespace PySem
variable {a j:Addr}{Q:Value->Shared->Prop}
section
variable {prog:Program}{w:World}{A:Around}{E:Value->Shared->Prop}{s:Shared}
theorem qv{n:Nat}{c:Array Value}{v:Value}(b:s.heap.IsTupleIter j a n)(f:s.heap.IsTuple a c)(h:c[n]?=some v)
  (q:∀g,g.IsTupleIter j a (n+1)->Heap.SameBut j s.heap g->Q v {s with heap:=g}):wpAny (model prog w) A (Builtin.SmallTypes.nextOf (.ref j)) Q E s:=by
 obtain⟨g,e,c,d⟩:=id b;obtain⟨k,g,_,l,i⟩:=f;unfold Builtin.SmallTypes.nextOf;refine E' (aai (name:=Str.ofString "__next__") b.typeIs F.slot_tuple_iterator_next (aar F.slot_tuple_iterator_next b.typeIs F.entry_tuple_iterator_next ?_ (F.args_tuple_iterator_next_1 _)));refine E' (m:=field (.ref j) 0) (aan e d (x:=.ref a) rfl ?_);show wpAny _ _ (if (Value.ref a==Value.none)=true then _ else _) _ _ _;rw[if_neg (by exact Bool.false_ne_true)];refine E' (m:=field (.ref j) 1) (aan e d (x:=.int n 0) rfl ?_);refine E' (m:=seqItems? (.ref a)) (aaR g i ?_);simp only[Int.toNat_natCast,h];refine E' (wpAny_setField e d nofun (J' ⟨v,rfl,J' (q _ ⟨_,Heap.get?_update_self _ e (Obj.isFreed_of_fields (Obj.data_mapFields d _)),(Obj.cls_mapFields ..).trans c,?_⟩ (Heap.SameBut.update ..))⟩));rw[Obj.data_mapFields d];simp[rawInt]
theorem rC{n:Nat}{c:Array Value}(f:A.handled=none)(b:s.heap.IsTupleIter j a n)(h:s.heap.IsTuple a c)(i:c[n]?=none)
  (q:∀g e,Heap.ExtBut j s.heap g->(∃o,g.get? e=some o/\o.cls=.type "StopIteration")->E (.ref e) {s with heap:=g}):wpAny (model prog w) A (Builtin.SmallTypes.nextOf (.ref j)) Q E s:=by
 obtain⟨g,e,c,d⟩:=id b;obtain⟨k,c,_,l,g⟩:=h;unfold Builtin.SmallTypes.nextOf;refine E' (aai (name:=Str.ofString "__next__") b.typeIs F.slot_tuple_iterator_next (aar F.slot_tuple_iterator_next b.typeIs F.entry_tuple_iterator_next ?_ (F.args_tuple_iterator_next_1 _)));refine E' (m:=field (.ref j) 0) (aan e d (x:=.ref a) rfl ?_);show wpAny _ _ (if (Value.ref a==Value.none)=true then _ else _) _ _ _;rw[if_neg (by exact Bool.false_ne_true)];refine E' (m:=field (.ref j) 1) (aan e d (x:=.int n 0) rfl ?_);refine E' (m:=seqItems? (.ref a)) (aaR c g ?_);simp only[Int.toNat_natCast,i];refine E' (wpAny_rule (E' (wpAny_setField e d nofun (E' (m:=newExc (.type "StopIteration") []) ?_))));simp only[newExc,newTuple];refine E' (aal (E' (m:=firstArgMember _ _) (wpAny_of_eq (a:=Value.none) (by first|rfl|(simp only[firstArgMember];rfl)) (aal ?_ (by size_fits)))) (by size_fits));simp only[raiseNew];refine E' (wpAny_handled ?_)
 first|rw[show A.in1.handled=none from f]|rw[f]
 calc E' (J' (wpAny_throw (q _ _ (((Heap.SameBut.update ..).extBut.push _).push _) ⟨_,X' _ rfl,rfl⟩)))
end
theorem Draws.tup{prog:Program}{w:World}{A:Around}(f:A.handled=none)(j a:Addr)(l:a≠j)(c:Array Value):
  Draws prog w A j [j,a] c.size (λi v=>c[i]?=some v) (λi h=>h.IsTupleIter j a i/\h.IsTuple a c) where
 live:=λ_ _ b=>let ⟨o,d,_⟩:=b.1;⟨o,d⟩
 frame:=λ_ _ _ b k=>⟨b.1.at λo e=>k j nofun o e,b.2.at λo e=>k a nofun o e⟩
 item:=λi s Q E d b q=>qv b.1 b.2 (v:=c[i]) (by simp[d]) λg h e=>q _ g s.toks (by simp[d]) ⟨h,b.2.extBut e.extBut l⟩ e
 done:=λs Q E b q=>rC f b.1 b.2 nofun q
def zw(b:Bool)(h:Heap)(a:Addr)(c:Array Value):Prop:=if b=true then h.IsList a c else h.IsTuple a c
def oW(b:Bool)(h:Heap)(j a:Addr)(n:Nat):Prop:=if b=true then h.IsListIter j a n else h.IsTupleIter j a n
theorem oW.at{b:Bool}{h h':Heap}{n:Nat}(x:oW b h j a n)(k:∀o,h.get? j=some o->h'.get? j=some o):oW b h' j a n:=by
 cases b
 ·exact Heap.IsTupleIter.at x k
 ·calc Heap.IsListIter.at x k
theorem oW.obj{b:Bool}{h:Heap}{n:Nat}(x:oW b h j a n):∃o,h.get? j=some o/\∀v,o.data≠.cell v:=by
 cases b<;>(obtain⟨o,e,c,d⟩:=x;calc⟨o,e,λv z=>by rw[d]at z;cases z⟩)
theorem Draws.sq{prog:Program}{w:World}{A:Around}(d:A.handled=none)(b:Bool)(j a:Addr)(e:a≠j)(c:Array Value):
  Draws prog w A j [j,a] c.size (λi v=>c[i]?=some v) (λi h=>oW b h j a i/\zw b h a c):=by
 cases b
 ·exact Draws.tup d j a e c
 ·calc Draws.list d j a e c
end PySem
namespace PySem
variable {Q:Option Value->Shared->Prop}
structure ZA(z ti to i1 i2:Addr)(f1 f2:List Addr):Prop where
 a1:ti≠z
 a2:to≠z
 a3:i1≠z
 a4:i2≠z
 a5:ti≠to
 a6:ti≠i1
 a7:ti≠i2
 a8:to≠i1
 a9:to≠i2
 a10:i1≠i2
 b1:z∉f1
 b2:to∉f1
 b3:i2∉f1
 c1:z∉f2
 c2:to∉f2
 c3:i1∉f2
section
variable {prog:Program}{w:World}{A:Around}{E:Value->Shared->Prop}{s:Shared}{z ti to i1 i2:Addr}{f1 f2:List Addr}{n1 n2 k:Nat}{P1 P2:Nat->Value->Prop}{S1 S2:Nat->Heap->Prop}{a b:Value}
theorem C0{Q:Value->Shared->Prop}(Z:ZA z ti to i1 i2 f1 f2)(B:Draws prog w A i1 f1 n1 P1 S1)(C:Draws prog w A i2 f2 n2 P2 S2)(hz:IsZip s.heap z ti to .none)(e:IsPair s.heap ti (.ref i1) (.ref i2))(u:IsPair s.heap to a b)
  (i:S1 k s.heap) (F:S2 k s.heap) (l:k<n1) (G:k<n2)
  (q:∀x y g d,P1 k x->P2 k y->IsZip g z ti to (rawInt s.heap.objs.size)->IsPair g to x y->S1 (k + 1) g->S2 (k + 1) g->IsPair g s.heap.objs.size x y->g.objs.size=s.heap.objs.size + 1->
   (∀c o,c≠z->c≠to->c≠i1->c≠i2->s.heap.get? c=some o->g.get? c=some o)->Q (.ref s.heap.objs.size) {s with heap:=g,toks:=d}):
  wpAny (model prog w) A (Builtin.«zip.__next__» ⟨[.ref z],[]⟩) (λd s'=>∃v,d=.done (.ret v)/\Q v s') E s:=by
 calc E' (m:=field (.ref z) 2) (aan hz rfl (x:=.bool false) rfl (E' (m:=field (.ref z) 3) (aan hz rfl (x:=.ref ti) rfl ?_)));calc E' (aaR e rfl (E' (m:=Builtin.SmallTypes.ownedTupleIsFree (.ref z)) ?_));unfold Builtin.SmallTypes.ownedTupleIsFree;calc E' (aan hz rfl (x:=.none) rfl (J' ?_));simp only[if_true];refine E' (wpAny_rule (E' (aan hz rfl (x:=.ref to) rfl (E' (wpAny_setField_rec hz nofun λj p r=>?_)))))
 replace p:IsZip j z ti to .ellipsis:=p
 calc E' ?_;simp only[List.zipIdx_cons,List.zipIdx_nil,List.forIn_cons,List.forIn_nil];calc E' (E' (wpAny_onRaise (E' (m:=Builtin.SmallTypes.nextOf (.ref i1)) ?_)));refine B.item k _ _ _ l (B.frame _ _ _ i λc g o e=>r.extBut c o (λh=>Z.b1 (h▸g)) e) λx d l L J i=>J' ?_
 replace i:Heap.SameBut i1 j d:=i
 have l:IsPair d to a b:=i.extBut _ _ Z.a8 (r.extBut _ _ Z.a2 u);refine E' (aaR l rfl (E' (wpAny_updateSeq_pair l λn t j=>E' (wpAny_letGo (J' ?_)))))
 replace t:IsPair n to x b:=t
 replace j:Heap.SameBut to d n:=j
 calc E' (E' (wpAny_onRaise (E' (m:=Builtin.SmallTypes.nextOf (.ref i2)) ?_)));refine C.item k _ _ _ G (C.frame _ _ _ F λc g o e=>j.extBut c o (λh=>Z.c2 (h▸g)) (i.extBut c o (λh=>Z.c3 (h▸g)) (r.extBut c o (λh=>Z.c1 (h▸g)) e))) λy u d M K l=>J' ?_
 replace l:Heap.SameBut i2 n u:=l
 have F:IsPair u to x b:=l.extBut _ _ Z.a9 t;refine E' (aaR F rfl (E' (wpAny_updateSeq_pair F λd v n=>E' (wpAny_letGo (J' (J' ?_))))))
 replace v:IsPair d to x y:=v
 replace n:Heap.SameBut to u d:=n
 calc E' (aaR v rfl (E' (wpAny_newTuple ?_)));have t:d.objs.size=s.heap.objs.size:=by rw[n.1,l.1,j.1,i.1,r.1]
 have u:IsZip d z ti to .ellipsis:=n.extBut _ _ Z.a2.symm (l.extBut _ _ Z.a4.symm (j.extBut _ _ Z.a2.symm (i.extBut _ _ Z.a3.symm p)));have N:∀c o,c≠z->c≠to->c≠i1->c≠i2->s.heap.get? c=some o->d.get? c=some o:=λc o p F G I e=>n.extBut _ _ F (l.extBut _ _ I (j.extBut _ _ F (i.extBut _ _ G (r.extBut _ _ p e))));have O:S1 (k+1) d:=B.frame _ _ _ J λc g o e=>n.extBut c o (λh=>Z.b2 (h▸g)) (l.extBut c o (λh=>Z.b3 (h▸g)) (j.extBut c o (λh=>Z.b2 (h▸g)) e));have P:S2 (k+1) d:=C.frame _ _ _ K λc g o e=>n.extBut c o (λh=>Z.c2 (h▸g)) e;have i:z<d.objs.size:=U' u;refine E' (m:=Builtin.SmallTypes.ownedTupleHandOut (.ref z) (.ref d.objs.size)) ?_;unfold Builtin.SmallTypes.ownedTupleHandOut;have j:IsZip (d.push {cls:=.type "tuple",data:=.seq #[x,y]}) z ti to .ellipsis:=K' _ u;refine E' (wpAny_setField_rec j nofun λn l J=>?_)
 replace l:IsZip n z ti to (rawInt d.objs.size):=l
 refine wpAny_setField_rec l nofun λj n u=>?_
 replace n:IsZip j z ti to (rawInt d.objs.size):=n
 have r:∀c o,c≠z->d.get? c=some o->j.get? c=some o:=λc o p e=>u.extBut _ _ p (J.extBut _ _ p (K' _ e));have K:IsPair j d.objs.size x y:=u.extBut _ _ (Nat.ne_of_gt i) (J.extBut _ _ (Nat.ne_of_gt i) (X' _ rfl));have l:j.objs.size=d.objs.size+1:=by rw[u.1,J.1,Heap.size_push]
 rw[t]at n K l;calc J' ⟨_,rfl,?_⟩;show Q (.ref d.objs.size) _;rw[t];calc q x y j _ L M n (r _ _ Z.a2 v) (B.frame _ _ _ O λc g o e=>r c o (λh=>Z.b1 (h▸g)) e) (C.frame _ _ _ P λc g o e=>r c o (λh=>Z.c1 (h▸g)) e) K l λc o p F G I e=>r c o p (N c o p F G I e)
theorem FH{Q:Fin->Shared->Prop}(Z:ZA z ti to i1 i2 f1 f2)(I:Draws prog w A i1 f1 n1 P1 S1)(P:Draws prog w A i2 f2 n2 P2 S2)(hz:IsZip s.heap z ti to .none)(S:IsPair s.heap ti (.ref i1) (.ref i2))(T:IsPair s.heap to a b)
  (U:S1 k s.heap) (W:S2 k s.heap) (l:k=n1\/(k<n1/\k=n2))
  (q:∀g e X,(∀c o,c≠z->c≠to->c≠i1->c≠i2->s.heap.get? c=some o->g.get? c=some o)->(∃o,g.get? e=some o/\o.cls=.type "StopIteration")->E (.ref e) {s with heap:=g,toks:=X}):
  wpAny (model prog w) A (Builtin.«zip.__next__» ⟨[.ref z],[]⟩) Q E s:=by
 calc E' (m:=field (.ref z) 2) (aan hz rfl (x:=.bool false) rfl (E' (m:=field (.ref z) 3) (aan hz rfl (x:=.ref ti) rfl ?_)));calc E' (aaR S rfl (E' (m:=Builtin.SmallTypes.ownedTupleIsFree (.ref z)) ?_));unfold Builtin.SmallTypes.ownedTupleIsFree;calc E' (aan hz rfl (x:=.none) rfl (J' ?_));simp only[if_true];refine E' (wpAny_rule (E' (aan hz rfl (x:=.ref to) rfl (E' (wpAny_setField_rec hz nofun λJ C p=>?_)))))
 replace C:IsZip J z ti to .ellipsis:=C
 calc E' ?_;simp only[List.zipIdx_cons,List.zipIdx_nil,List.forIn_cons,List.forIn_nil];calc E' (E' (wpAny_onRaise (E' (m:=Builtin.SmallTypes.nextOf (.ref i1)) ?_)));have r:=I.frame _ _ _ U λc t o e=>p.extBut c o (λh=>Z.b1 (h▸t)) e;rcases l with l|⟨Y,l2⟩
 ·subst l;calc I.done _ _ _ r λn x d K=>?_;obtain⟨L,j,u⟩:=K
  replace d:Heap.ExtBut i1 J n:=d
  have R:IsZip n z ti to .ellipsis:=d _ _ Z.a3.symm C;have M:x≠z:=λy=>by subst y;rw[R]at j;cases j;simp at u
  exact wpAny_setField_rec R nofun λF _ i=>q F x s.toks (λc o v _ N _ y=>i.extBut _ _ v (d _ _ N (p.extBut _ _ v y))) ⟨L,i.extBut _ _ M j,u⟩
 ·subst l2;refine I.item k _ _ _ Y r λx n O g l d=>J' ?_
  replace d:Heap.SameBut i1 J n:=d
  have g:IsPair n to a b:=d.extBut _ _ Z.a8 (p.extBut _ _ Z.a2 T);refine E' (aaR g rfl (E' (wpAny_updateSeq_pair g λF l i=>E' (wpAny_letGo (J' ?_)))))
  replace i:Heap.SameBut to n F:=i
  calc E' (E' (wpAny_onRaise (E' (m:=Builtin.SmallTypes.nextOf (.ref i2)) ?_)));calc P.done _ _ _ (P.frame _ _ _ W λc t o e=>i.extBut c o (λh=>Z.c2 (h▸t)) (d.extBut c o (λh=>Z.c3 (h▸t)) (p.extBut c o (λh=>Z.c1 (h▸t)) e))) λg x G K=>?_;obtain⟨L,j,u⟩:=K
  replace G:Heap.ExtBut i2 F g:=G
  have B:IsZip g z ti to .ellipsis:=G _ _ Z.a4.symm (i.extBut _ _ Z.a2.symm (d.extBut _ _ Z.a3.symm C));have M:x≠z:=λy=>by subst y;rw[B]at j;cases j;simp at u
  calc wpAny_setField_rec B nofun λg _ e=>q g x O (λc o v l N n y=>e.extBut _ _ v (G _ _ n (i.extBut _ _ l (d.extBut _ _ N (p.extBut _ _ v y))))) ⟨L,e.extBut _ _ M j,u⟩
end
section
variable {prog:Program}{w:World}{A:Around}{E:Value->Shared->Prop}{s:Shared}{z ti to i1 i2:Addr}{f1 f2:List Addr}{n1 n2 k:Nat}{P1 P2:Nat->Value->Prop}{S1 S2:Nat->Heap->Prop}{a b:Value}
theorem tE(Z:ZA z ti to i1 i2 f1 f2)(e:Draws prog w A.in1 i1 f1 n1 P1 S1)(f:Draws prog w A.in1 i2 f2 n2 P2 S2)(hz:IsZip s.heap z ti to .none)(h:IsPair s.heap ti (.ref i1) (.ref i2))(i:IsPair s.heap to a b)
  (j:S1 k s.heap) (l:S2 k s.heap) (m:k<n1) (n:k<n2)
  (q:∀x y g d,P1 k x->P2 k y->IsZip g z ti to (rawInt s.heap.objs.size)->IsPair g to x y->S1 (k + 1) g->S2 (k + 1) g->IsPair g s.heap.objs.size x y->g.objs.size=s.heap.objs.size + 1->
   (∀c o,c≠z->c≠to->c≠i1->c≠i2->s.heap.get? c=some o->g.get? c=some o)->Q (some (.ref s.heap.objs.size)) {s with heap:=g,toks:=d}):
  wpAny (model prog w) A (pyNext (.ref z)) Q E s:=by
 have c:s.TypeIs (.ref z) "zip":=⟨_,hz,rfl⟩
 unfold pyNext;exact E' (wpAny_attempt (aai (name:=Str.ofString "__next__") c F.slot_zip_next (aar F.slot_zip_next c F.entry_zip_next
  (C0 Z e f hz h i j l m n λx y g d c o p r t u v B C=>J' (q x y g d c o p r t u v B C)) (F.args_zip_next_1 _))))
theorem vI(Z:ZA z ti to i1 i2 f1 f2)(f:Draws prog w A.in1 i1 f1 n1 P1 S1)(h:Draws prog w A.in1 i2 f2 n2 P2 S2)(hz:IsZip s.heap z ti to .none)(i:IsPair s.heap ti (.ref i1) (.ref i2))(j:IsPair s.heap to a b)
  (m:S1 k s.heap) (n:S2 k s.heap) (l:k=n1\/(k<n1/\k=n2))
  (q:∀g d,(∀c o,c≠z->c≠to->c≠i1->c≠i2->s.heap.get? c=some o->g.get? c=some o)->Q none {s with heap:=g,toks:=d}):wpAny (model prog w) A (pyNext (.ref z)) Q E s:=by
 have c:s.TypeIs (.ref z) "zip":=⟨_,hz,rfl⟩
 unfold pyNext;refine E' (wpAny_attempt (aai (name:=Str.ofString "__next__") c F.slot_zip_next (aar F.slot_zip_next c F.entry_zip_next
  (FH Z f h hz i j m n l λg e d c ⟨o,p,r⟩=>?_) (F.args_zip_next_1 _))))
 calc E' (wpAny_isInstance (T:="StopIteration") (b:=true) ⟨o,p,r⟩ isSubtype_stop (J' (q _ _ c)))
end
def IW(b:Bool)(a:Addr):Obj:=if b=true then {cls:=.type "list_iterator",data:=.fields #[.ref a,.int 0 0]} else {cls:=.type "tuple_iterator",data:=.fields #[.ref a,.int 0 0]}
abbrev XM(h:Heap)(b:Bool)(l:Addr):Heap:=h.push (IW b l)
abbrev XN(h:Heap)(b c:Bool)(l m:Addr):Heap:=(XM h b l).push (IW c m)
abbrev XO(h:Heap)(b c:Bool)(l m:Addr):Heap:=(XN h b c l m).push {cls:=.type "tuple",data:=.seq #[.ref h.objs.size,.ref (XM h b l).objs.size]}
abbrev XQ(h:Heap)(b c:Bool)(l m:Addr):Heap:=(XO h b c l m).push {cls:=.type "tuple",data:=.seq #[.none,.none]}
abbrev OX(h:Heap)(b c:Bool)(l m:Addr):Heap:=(XQ h b c l m).push {cls:=.type "zip",data:=.fields #[.none,.bool false,.bool false,.ref (XN h b c l m).objs.size,.ref (XO h b c l m).objs.size]}
theorem C8(b c:Bool)(l m:Addr)(xs i:Array Value):
  Meets (Builtin.«zip.__new__» ⟨[.type "zip",.ref l,.ref m],[]⟩) (λ_ R s=>zw b s.heap l xs/\zw c s.heap m i/\R (.ok (.ret (.ref (XQ s.heap b c l m).objs.size))) {s with heap:=OX s.heap b c l m}):=
 .of_wp λn w A R s h=>by
  obtain⟨a,g,d,e,f⟩:=s;obtain⟨j,k,h⟩:=h;have n:=sub_zip
  cases b<;>cases c
  ·have b:Heap.IsTuple (Shared.heap ⟨a,g,d,e,f⟩) l xs:=j;have L2:Heap.IsTuple (Shared.heap ⟨a.push {cls:=.type "tuple_iterator",data:=.fields #[.ref l,.int 0 0]},g,d,e,f⟩) m i:=Heap.IsTuple.push k _;wp_walk using aaz b,aaz L2;exact⟨_,rfl,h⟩
  ·have b:Heap.IsTuple (Shared.heap ⟨a,g,d,e,f⟩) l xs:=j;have L2:Heap.IsList (Shared.heap ⟨a.push {cls:=.type "tuple_iterator",data:=.fields #[.ref l,.int 0 0]},g,d,e,f⟩) m i:=Heap.IsList.push k _;wp_walk using aaz b,wpAny_pyIter_list L2;exact⟨_,rfl,h⟩
  ·have b:Heap.IsList (Shared.heap ⟨a,g,d,e,f⟩) l xs:=j;have L2:Heap.IsTuple (Shared.heap ⟨a.push {cls:=.type "list_iterator",data:=.fields #[.ref l,.int 0 0]},g,d,e,f⟩) m i:=Heap.IsTuple.push k _;wp_walk using wpAny_pyIter_list b,aaz L2;exact⟨_,rfl,h⟩
  ·have b:Heap.IsList (Shared.heap ⟨a,g,d,e,f⟩) l xs:=j;have L2:Heap.IsList (Shared.heap ⟨a.push {cls:=.type "list_iterator",data:=.fields #[.ref l,.int 0 0]},g,d,e,f⟩) m i:=Heap.IsList.push k _;wp_walk using wpAny_pyIter_list b,wpAny_pyIter_list L2;exact⟨_,rfl,h⟩
theorem rD(b:Bool)(a:Addr):(IW b a).isFreed=false:=by cases b<;>rfl
theorem zx{b:Bool}{h:Heap}{j a:Addr}(e:h.get? j=some (IW b a)):oW b h j a 0:=by
 cases b
 ·exact⟨_,e,rfl,rfl⟩
 ·calc⟨_,e,rfl,rfl⟩
theorem FI{prog:Program}{w:World}{A:Around}{E:Value->Shared->Prop}{s:Shared}{b c:Bool}{l m:Addr}{xs f:Array Value}{Q:Value->Shared->Prop}(h:zw b s.heap l xs)(i:zw c s.heap m f)
  (q:∀g,IsZip g (s.heap.objs.size + 4) (s.heap.objs.size + 2) (s.heap.objs.size + 3) .none->IsPair g (s.heap.objs.size + 2) (.ref s.heap.objs.size) (.ref (s.heap.objs.size + 1))->
   IsPair g (s.heap.objs.size+3) .none .none->oW b g s.heap.objs.size l 0->oW c g (s.heap.objs.size+1) m 0->g.objs.size=s.heap.objs.size+5->
   (∀d o,s.heap.get? d=some o->g.get? d=some o)->Q (.ref (s.heap.objs.size + 4)) {s with heap:=g}):
  wpAny (model prog w) A (call (.type "zip") [.ref l,.ref m]) Q E s:=by
 calc callType_new F.called_zip ∅ (F.typeCall_zip_2 _ _) (F.newCall_zip_2 _ _) (λa=>F.args_object_init_3 a _ _) F.entry_zip_new (C8 b c l m xs f) ⟨h,i,?_⟩;have e:(XM s.heap b l).objs.size=s.heap.objs.size+1:=Heap.size_push ..;have a:(XN s.heap b c l m).objs.size=s.heap.objs.size+2:=by rw[Heap.size_push,e]
 have f:(XO s.heap b c l m).objs.size=s.heap.objs.size+3:=by rw[Heap.size_push,a]
 have g:(XQ s.heap b c l m).objs.size=s.heap.objs.size+4:=by rw[Heap.size_push,f]
 have n:(OX s.heap b c l m).objs.size=s.heap.objs.size+5:=by rw[Heap.size_push,g]
 have h:(OX s.heap b c l m).get? (XQ s.heap b c l m).objs.size=some _:=X' _ rfl;have i:(OX s.heap b c l m).get? (XO s.heap b c l m).objs.size=some _:=K' _ (X' _ rfl);have j:(OX s.heap b c l m).get? (XN s.heap b c l m).objs.size=some _:=K' _ (K' _ (X' _ rfl));have k:(OX s.heap b c l m).get? (XM s.heap b l).objs.size=some (IW c m):=K' _ (K' _ (K' _ (X' _ (rD ..))));have p:(OX s.heap b c l m).get? s.heap.objs.size=some (IW b l):=K' _ (K' _ (K' _ (K' _ (X' _ (rD ..)))));show _/\_;rw[a,f,g]at h;rw[e,a]at j;rw[f]at i;rw[e]at k;rw[g];calc⟨⟨_,h,rfl⟩,q _ h j i (zx p) (zx k) n λd o x=>K' _ (K' _ (K' _ (K' _ (K' _ x))))⟩
theorem rE(l:Addr)(e:Array Value):
  Meets (Builtin.«enumerate.__new__» ⟨[.type "enumerate",.ref l],[]⟩) (λ_ R s=>s.heap.IsTuple l e/\
   R (.ok (.ret (.ref (s.heap.push (IW false l)).objs.size))) {s with heap:=(s.heap.push (IW false l)).push {cls:=.type "enumerate",data:=.fields #[.none,.bool false,.ref s.heap.objs.size,rawInt 0,.none,.none]}}):=
 .of_wp λf w A R s h=>by
  obtain⟨i,g,d,k,m⟩:=s;obtain⟨j,h⟩:=h;have p:=sub_enumerate;have b:Heap.IsTuple (Shared.heap ⟨i,g,d,k,m⟩) l e:=j;obtain⟨n,a,q,r,o⟩:=id j
  replace a:i.get? l=some n:=a
  wp_walk using AutoSeq1.wpAny_loadPart' a;calc wpAny_stack_any λt=>J' ?_;split
  ·rename_i c _ _ _ _ _
   cases(c==Value.type "enumerate")
   ·wp_walk using AutoSeq1.wpAny_loadPart' a,aaz b;exact⟨_,rfl,h⟩
   ·wp_walk using AutoSeq1.wpAny_loadPart' a,aaz b;exact⟨_,rfl,h⟩
  ·wp_walk using AutoSeq1.wpAny_loadPart' a,aaz b;calc⟨_,rfl,h⟩
end PySem
namespace L2
open PySem PySem.Spec PyProof.Rows
section
variable {a:Addr}{xs:List V}
section
variable {X:Cx}{pins:List (Addr×Obj)}{σ:St}{H:Hp}{s:Shared}
theorem Inv.Ba{t':Nat}{ch:List Addr}{h':Heap}(I:Inv X pins σ H s)(d:∀b∈ch,oN X pins H b)(k:∀b o,b∉ch->s.heap.get? b=some o->h'.get? b=some o):Inv X pins σ H {s with heap:=h',toks:=t'}:=by
 have f:∀b u,H b=some u->b∉ch:=λb u e z=>by rw[(d b z).1]at e;cases e
 refine I.step (g':=s.gens) (d':=s.drawn) (ch:=ch) (λb g=>?_) (λb o _ _ a e _=>k b o a e) (λb o _ _ a e _=>⟨o.slots,k b o a e⟩) (λ_ _ _ _ n=>n) (λb o a e=>⟨o,k b o a e⟩) (λ_ _ e=>e) (λ_ _ _ e=>e) (λb h e=>⟨#[],by rw[e];simp⟩) (λm h=>?_) (λb u e=>?_) I.bare
 ·obtain⟨n,i,p,j,l,m⟩:=d b g;exact⟨j,i,l,m⟩
 ·obtain⟨o,g,i,j,r⟩:=h;exact⟨o,g,i,k _ o (λz=>(d _ z).2.1 rfl) j,r⟩
 ·calc(I.aO b u e).aG (λc v a q=>k c v ?_ q) (λ_ q=>q) λ_ _ q=>q;rcases a with z | z
  ·rw[z];exact f b u e
  ·calc f c _ z
theorem Inv.Bb{t':Nat}{ch:List Addr}{h':Heap}{T:Addr}{g:List Value}(I:Inv X pins σ H s)(h:∀b∈ch,oN X pins H b)(k:∀b o,b∉ch->s.heap.get? b=some o->h'.get? b=some o)
  (i:s.heap.objs.size<=T) (l:Vals xs g) (hz:xs.length<=sizeLine) (p:IsTup h' T g.toArray):Inv X pins σ (upd H T (.tup xs)) {s with heap:=h',toks:=t'}:=by
 have j:∀b u,H b=some u->b∉ch:=λb u e z=>by rw[(h b z).1]at e;cases e
 have d:H T=none:=I.aO.fresh i;have m:∀b o,s.heap.get? b=some o->b≠T:=λb o e=>aaa (V' (U' e) i);refine I.step (g':=s.gens) (d':=s.drawn) (ch:=ch) (λb f=>?_) (λb o _ _ a e _=>k b o a e) (λb o _ _ a e _=>⟨o.slots,k b o a e⟩) (λb o _ e n=>by rw[av (m b o e)];calc n) (λb o a e=>⟨o,k b o a e⟩)
  (λb t e=>by rw[av (ao e d)];calc e) (λb o u e=>by rw[av (ao e d)];calc e) (λb i e=>⟨#[],by rw[av (ao e d),e];simp⟩) (λm i=>?_) (λb u e=>?_) I.bare
 ·obtain⟨v,m,w,n,q,r⟩:=h b f;exact⟨n,m,q,r⟩
 ·obtain⟨o,m,n,q,r⟩:=i;exact⟨o,m,n,k _ o (λz=>(h _ z).2.1 rfl) q,r⟩
 ·by_cases f:b=T
  ·subst f;rw[ab] at e
   cases e;exact⟨hz,g,l,p⟩
  ·rw[av f] at e;refine(I.aO b u e).aG (λc v a q=>k c v ?_ q) (λc q=>by rw[av (ao q d)];calc q) λc t q=>by rw[av (ao q d)];exact q
   rcases a with z|z
   ·rw[z];exact j b u e
   ·calc j c _ z
def Sq(b:Bool)(K:W.Frag)(H:Hp)(a:Addr)(xs:List V):Prop:=if b=true then aP K H a xs else bz K H a xs
theorem Sq.l{K:W.Frag}(h:H a=some (.lst xs)):Sq true K H a xs:=aP.of h
theorem Sq.t{K:W.Frag}(h:H a=some (.tup xs)):Sq false K H a xs:=bz.of h
theorem Inv.sq(I:Inv X pins σ H s){b:Bool}{a:Addr}{xs:List V}(h:Sq b X.K H a xs):∃c:List Value,Vals xs c/\zw b s.heap a c.toArray/\xs.length<=sizeLine:=by
 cases b
 ·exact I.tuple h
 ·obtain⟨c,r,p,z⟩:=I.list h;calc⟨c,r,p.isList,z⟩
theorem Inv.zy(I:Inv X pins σ H s){b:Bool}{a:Addr}{xs c:List V}(h:Sq b X.K H a xs)(h':Sq b X.K H a c):xs=c:=by
 cases b
 ·exact I.uf h h'
 ·calc I.wO h h'
theorem Mh{u:HO}{b:Addr}(h:Rd H a u)(c:H b=none):a≠b:=λz=>by
 subst z;rcases h with h|⟨o,h⟩<;>(rw[c]at h;cases h)
theorem Inv.rF(I:Inv X pins σ H s){b:Bool}{a c:Addr}{xs:List V}(h:Sq b X.K H a xs)(f:oN X pins H c):a≠c:=by
 have d:∀o,X.K.lookup a=some o->a≠c:=λo e z=>by
  subst z;have i:=I.ok.mod.Rl a o e;rcases f.2.2.2.1 with y|y
  ·exact I.ok.yQ a o i y
  ·exact absurd (V' (V' (U' i) I.ok.Ex) y) (aaE _)
 cases b
 ·rcases h with h | ⟨o,j,n,g,_⟩
  ·exact Mh h f.1
  ·exact d o g
 ·rcases h with h | ⟨o,j,n,g,_⟩
  ·exact Mh h f.1
  ·calc d o g
end
end
section
def OZ(b:Bool)(K:W.Frag)(a:Addr):It:=
 ⟨λi H=>∃xs x,Sq b K H a xs/\xs[i]?=some x,λi H y c=>∃T,H T=none/\y=.ref T/\∀xs,Sq b K H a xs->∃x,xs[i]?=some x/\c=upd H T (.tup [.int i,x]),λi H=>∃xs,Sq b K H a xs/\xs.length=i⟩
def TZ(b c:Bool)(K:W.Frag)(a d:Addr):It:=
  ⟨λi H=>∃xs e x y,Sq b K H a xs/\Sq c K H d e/\xs[i]?=some x/\e[i]?=some y,λi H v f=>∃T,H T=none/\v=.ref T/\∀xs e,Sq b K H a xs->Sq c K H d e->∃x y,xs[i]?=some x/\e[i]?=some y/\f=upd H T (.tup [x,y]),
   λi H=>∃xs e,Sq b K H a xs/\Sq c K H d e/\(i=xs.length\/(i < xs.length/\i=e.length))⟩
theorem xk{a b:V}:([a,b]:List V).length<=sizeLine:=by show 2<=sizeLine;decide
theorem vJ{a:List Value}{i:Nat}{u:Value}(h:a[i]?=some u):i<a.toArray.size:=by
 have:=(List.getElem?_eq_some_iff.mp h).1;simpa using this
theorem C9{P:Program}{w:World}{K:W.Frag}{es:List Expr}{k:Nat}{u:Pos}(b:Bool)(e j a:Addr)(J:e≠j):
  Turn P w K (.Tuple es k u) (OZ b K a) [e,j] e (λi h=>(∃d,IsEnum h e j i d)/\oW b h j a i) where
 mem:=by simp
 obj:=λi h l c t=>by
  obtain⟨⟨d,g⟩,m⟩:=l;simp only[List.mem_cons,List.not_mem_nil,or_false]at t;rcases t with rfl|rfl
  ·exact⟨_,g,λv z=>by
    have z':Data.fields _=Data.cell v:=z
    cases z'⟩
  ·exact m.obj
 keep:=λi h h' l k=>by
  obtain⟨⟨d,g⟩,m⟩:=l;exact⟨⟨d,k e nofun _ g⟩,m.at λo q=>k j nofun o q⟩
 item:=by
  intro X L M N t i B s σ H E I n l O;subst L M N;obtain⟨⟨d,g⟩,m⟩:=l;obtain⟨xs,x,r,R⟩:=O;obtain⟨C,S,p,hz⟩:=I.sq r;obtain⟨u,k,ru⟩:=S.get R;have v:a≠e:=I.rF r (n e nofun);have T:a≠j:=I.rF r (n j nofun);have D:=Draws.sq (prog:=X.prog) (w:=X.w) (A:=X.A.in1) (show X.A.in1.handled=none from I.ok.hd t) b j a T C.toArray;calc wpAny_pyNext_enum_itemD D g ⟨m,p⟩ (vJ k) J (by simp[J,Ne.symm v]) λy P Z K ho s1 hT sz U=>?_;have ey:y=u:=by
   have:C.toArray[i]?=some u:=by simpa using k
   exact Option.some.inj (K.symm.trans this)
  subst ey;calc⟨_,rfl,wpAny_letOwnedTupleGo_enum ho λv k u=>?_⟩;have K:∀c o,c ∉ [e,j]->s.heap.get? c=some o->v.get? c=some o:=λc o F q=>(u.2 c λz=>F (by simp[z])).trans (U c o (λz=>F (by simp[z])) (λz=>F (by simp[z])) q);have G:s.heap.objs.size≠e:=Nat.ne_of_gt (U' g);have e:IsTup v s.heap.objs.size ([.int i Z,y]:List Value).toArray:=⟨_,(u.2 _ G).trans hT,rfl,_,rfl⟩
  have v:H s.heap.objs.size=none:=I.aO.fresh (P' _);refine⟨.ref s.heap.objs.size,upd H s.heap.objs.size (.tup [.int i,x]),I.Bb n K (P' _) (.cons ⟨Z,rfl⟩ (.cons ru .nil)) xk e,rfl,⟨_,v,rfl,λys P=>⟨x,by rw[I.zy P r];calc R,rfl⟩⟩,⟨⟨y,?_⟩,?_⟩,λc Y=>?_⟩
  ·simpa using k
  ·exact s1.1.at λo q=>(u.2 j (Ne.symm J)).trans q
  ·have oU:c≠s.heap.objs.size:=by
    simp only[List.mem_cons,List.not_mem_nil,or_false]at Y;rcases Y with rfl|rfl
    ·exact Ne.symm G
    ·obtain⟨o,e,_⟩:=m.obj;exact aaa (U' e)
   rw[av oU];exact(n c Y).1
 done:=by
  intro X L M N t i B s σ H E I n l O;subst L M N;obtain⟨⟨d,g⟩,m⟩:=l;obtain⟨xs,r,R⟩:=O;obtain⟨C,S,p,hz⟩:=I.sq r;have T:a≠j:=I.rF r (n j nofun);have D:=Draws.sq (prog:=X.prog) (w:=X.w) (A:=X.A.in1) (show X.A.in1.handled=none from I.ok.hd t) b j a T C.toArray;have e:C.toArray.size=i:=by have:=S.length;simp;lia
  refine wpAny_pyNext_enum_endD D g (by rw[e];calc⟨m,p⟩) λh' U=>⟨rfl,I.Ba (t':=s.toks) n λc o F q=>U c o (λz=>F (by simp[z])) q⟩
 self:=λ_ _ _ _ _ l h=>by
  obtain⟨⟨d,g⟩,m⟩:=l;calc wpAny_pyIter_enum g h
theorem Dc{prog:Program}{w:World}{A:Around}{E:Value->Shared->Prop}{s:Shared}{b:Bool}{l:Addr}{d:Array Value}{Q:Value->Shared->Prop}(e:zw b s.heap l d)
  (q:∀g,IsEnum g (s.heap.objs.size+1) s.heap.objs.size 0 .none->oW b g s.heap.objs.size l 0->g.objs.size=s.heap.objs.size+2->(∀c o,s.heap.get? c=some o->g.get? c=some o)->Q (.ref (s.heap.objs.size+1)) {s with heap:=g}):
  wpAny (model prog w) A (call (.type "enumerate") [.ref l]) Q E s:=by
 cases b
 ·refine callType_new F.called_enumerate ∅ (F.typeCall_enumerate_1 _) (F.newCall_enumerate_1 _) (λa=>F.args_object_init_2 a _) F.entry_enumerate_new (rE l d) ⟨e,?_⟩;have b:(s.heap.push (IW false l)).objs.size=s.heap.objs.size+1:=Heap.size_push ..;show _/\_;rw[b];have a:=X' (s.heap.push (IW false l)) (o:={cls:=.type "enumerate",data:=.fields #[.none,.bool false,.ref s.heap.objs.size,rawInt 0,.none,.none]}) rfl;rw[b]at a;refine⟨⟨_,a,rfl⟩,q _ a (zx (K' _ (X' _ (rD ..)))) (by rw[Heap.size_push,b]) λc o x=>K' _ (K' _ x)⟩
 ·calc call_enumerate_list e q
theorem m5{z a b c d:Addr}:z ∈ [z,a,b,c,d]/\a ∈ [z,a,b,c,d]/\b ∈ [z,a,b,c,d]/\c ∈ [z,a,b,c,d]/\d ∈ [z,a,b,c,d]:=⟨.head _,.tail _ (.head _),.tail _ (.tail _ (.head _)),.tail _ (.tail _ (.tail _ (.head _))),.tail _ (.tail _ (.tail _ (.tail _ (.head _))))⟩
theorem in5{z a b c d e:Addr}{P:Addr->Prop}(f:e ∈ [z,a,b,c,d])(g:P z)(h:P a)(i:P b)(j:P c)(k:P d):P e:=by
 simp only[List.mem_cons,List.not_mem_nil,or_false]at f;rcases f with rfl|rfl|rfl|rfl|rfl<;>assumption
theorem no5{z a b c d e:Addr}(f:e ∉ [z,a,b,c,d]):e≠z/\e≠a/\e≠b/\e≠c/\e≠d:=by
 simpa only[List.mem_cons,List.not_mem_nil,or_false,not_or] using f
theorem nd5{z a b c d:Addr}(N:[z,a,b,c,d].Nodup):(z≠a/\z≠b/\z≠c/\z≠d)/\(a≠b/\a≠c/\a≠d)/\(b≠c/\b≠d)/\c≠d:=by
 simpa only[List.nodup_cons,List.mem_cons,List.not_mem_nil,or_false,not_or,List.nodup_nil,not_false_eq_true,and_true] using N
theorem El{x i a:Addr}(b:x≠i)(c:x≠a):x ∉ [i,a]:=by simp[b,c]
theorem FJ{l:List Value}{i:Nat}{u x:Value}(h:l[i]?=some u)(g:l.toArray[i]?=some x):x=u:=by
 have:l.toArray[i]?=some u:=by simpa using h
 calc Option.some.inj (g.symm.trans this)
theorem FK{P:Program}{w:World}{K:W.Frag}{es:List Expr}{kt:Nat}{tp:Pos}(b c:Bool)(z r m g j a d:Addr)(N:[z,r,m,g,j].Nodup):
  Turn P w K (.Tuple es kt tp) (TZ b c K a d) [z,r,m,g,j] z (λi h=>IsZip h z r m .none/\IsPair h r (.ref g) (.ref j)/\(∃u v,IsPair h m u v)/\oW b h g a i/\oW c h j d i) where
 mem:=m5.1
 obj:=λi h t e l=>by
  obtain⟨G,B,⟨u,v,J⟩,L,M⟩:=t;refine in5 (P:=λe=>∃o,h.get? e=some o/\∀v,o.data≠.cell v) l ⟨_,G,λv z=>?_⟩ ⟨_,B,λv z=>?_⟩ ⟨_,J,λv z=>?_⟩ L.obj M.obj
  ·have k:Data.fields _=Data.cell v:=z
   cases k
  ·have k:Data.seq _ _=Data.cell v:=z
   cases k
  ·have k:Data.seq _ _=Data.cell v:=z
   cases k
 keep:=λi h h' t k=>by
  obtain⟨G,B,⟨u,v,J⟩,L,M⟩:=t;exact⟨k z m5.1 _ G,k r m5.2.1 _ B,⟨u,v,k m m5.2.2.1 _ J⟩,L.at λo q=>k g m5.2.2.2.1 o q,M.at λo q=>k j m5.2.2.2.2 o q⟩
 item:=by
  intro X hP hw hK hc i Y s σ H E I O t hg;subst hP hw hK;obtain⟨G,B,⟨u0,v0,J⟩,L,M⟩:=t;obtain⟨xs,ys,x,y,S,hr,hx,hy⟩:=hg;obtain⟨aL,rv,p,hz⟩:=I.sq S;obtain⟨XS,rt,pt,hzt⟩:=I.sq hr;obtain⟨u,k,ru⟩:=rv.get hx;obtain⟨v,n,rv'⟩:=rt.get hy;have C:∀e ∈ [z,r,m,g,j],e≠a:=λe l=>Ne.symm (I.rF S (O e l));have F:∀e ∈ [z,r,m,g,j],e≠d:=λe l=>Ne.symm (I.rF hr (O e l));obtain⟨⟨n1,n2,T,U⟩,⟨n5,n6,n7⟩,⟨n8,n9⟩,R⟩:=nd5 N;have hh:X.A.in1.handled=none:=I.ok.hd hc;have D1:=Draws.sq (prog:=X.prog) (w:=X.w) (A:=X.A.in1) hh b g a (Ne.symm (C g m5.2.2.2.1)) aL.toArray;have D2:=Draws.sq (prog:=X.prog) (w:=X.w) (A:=X.A.in1) hh c j d (Ne.symm (F j m5.2.2.2.2)) XS.toArray;have Z:ZA z r m g j [g,a] [j,d]:=⟨Ne.symm n1,Ne.symm n2,Ne.symm T,Ne.symm U,n5,n6,n7,n8,n9,R,El T (C z m5.1),El n8 (C m m5.2.2.1),El (Ne.symm R) (C j m5.2.2.2.2),El U (F z m5.1),El n9 (F m m5.2.2.1),El R (F g m5.2.2.2.1)⟩
  calc tE Z D1 D2 G B J ⟨L,p⟩ ⟨M,pt⟩ (vJ k) (vJ n) λx' y' h1 tk K py Ej Zr s1 s2 hT sz kk=>?_;have ex:x'=u:=FJ k K;have ey:y'=v:=FJ n py;subst ex ey;calc⟨_,rfl,wpAny_letOwnedTupleGo_zip Ej λu v k=>?_⟩;have K:∀e o,e ∉ [z,r,m,g,j]->s.heap.get? e=some o->u.get? e=some o:=λe o l q=>
   have n:=no5 l;(k.2 e n.1).trans (kk e o n.1 n.2.2.1 n.2.2.2.1 n.2.2.2.2 q)
  have n:s.heap.objs.size≠z:=Nat.ne_of_gt (U' G);have O0:IsTup u s.heap.objs.size ([x',y']:List Value).toArray:=⟨_,(k.2 _ n).trans hT,rfl,_,rfl⟩
  have u:H s.heap.objs.size=none:=I.aO.fresh (P' _);refine⟨.ref s.heap.objs.size,upd H s.heap.objs.size (.tup [x,y]),I.Bb O K (P' _) (.cons ru (.cons rv' .nil)) xk O0,rfl,
   ⟨_,u,rfl,λK Mi zz Tu=>⟨x,y,by rw[I.zy zz S];calc hx,by rw[I.zy Tu hr];calc hy,rfl⟩⟩,⟨v,?_,⟨_,_,(k.2 m (Ne.symm n2)).trans Zr⟩,s1.1.at λo q=>(k.2 g (Ne.symm T)).trans q,s2.1.at λo q=>(k.2 j (Ne.symm U)).trans q⟩,λe l=>?_⟩
  ·exact(k.2 r (Ne.symm n1)).trans (kk r _ (Ne.symm n1) n5 n6 n7 B)
  ·have u:e≠s.heap.objs.size:=in5 (P:=λe=>e≠s.heap.objs.size) l (Ne.symm n) (aaa (U' B)) (aaa (U' J)) (let ⟨_,k,_⟩:=L.obj;aaa (U' k)) (let ⟨_,k,_⟩:=M.obj;aaa (U' k));rw[av u];exact(O e l).1
 done:=by
  intro X hP hw hK hc i Y s σ H E I O t hg;subst hP hw hK;obtain⟨G,B,⟨u0,v0,J⟩,L,M⟩:=t;obtain⟨xs,ys,S,hr,hx⟩:=hg;obtain⟨aL,rv,p,hz⟩:=I.sq S;obtain⟨XS,rt,pt,hzt⟩:=I.sq hr;have C:∀e ∈ [z,r,m,g,j],e≠a:=λe l=>Ne.symm (I.rF S (O e l));have F:∀e ∈ [z,r,m,g,j],e≠d:=λe l=>Ne.symm (I.rF hr (O e l));obtain⟨⟨n1,n2,T,U⟩,⟨n5,n6,n7⟩,⟨n8,n9⟩,R⟩:=nd5 N;have hh:X.A.in1.handled=none:=I.ok.hd hc;have D1:=Draws.sq (prog:=X.prog) (w:=X.w) (A:=X.A.in1) hh b g a (Ne.symm (C g m5.2.2.2.1)) aL.toArray;have D2:=Draws.sq (prog:=X.prog) (w:=X.w) (A:=X.A.in1) hh c j d (Ne.symm (F j m5.2.2.2.2)) XS.toArray;have Z:ZA z r m g j [g,a] [j,d]:=⟨Ne.symm n1,Ne.symm n2,Ne.symm T,Ne.symm U,n5,n6,n7,n8,n9,R,El T (C z m5.1),El n8 (C m m5.2.2.1),El (Ne.symm R) (C j m5.2.2.2.2),El U (F z m5.1),El n9 (F m m5.2.2.1),El R (F g m5.2.2.2.1)⟩
  have a:=rv.length;have a:=rt.length;exact vI Z D1 D2 G B J ⟨L,p⟩ ⟨M,pt⟩ (by simp only[List.size_toArray];lia) λh' tk kk=>⟨rfl,I.Ba O λe o l q=>kk e o (λw=>l (by simp[w])) (λw=>l (by simp[w])) (λw=>l (by simp[w])) (λw=>l (by simp[w])) q⟩
 self:=λ_ _ _ _ _ t h=>wpAny_pyIter_zip t.1 h
section
variable {X:Cx}
def FL(K:W.Frag)(a:TA):TI:=λσ H R=>a σ H λvs c=>match vs with
 | [.ref a]=>∃b xs,Sq b K c a xs/\R (OZ b K a) c
 |_=>False
def O2(K:W.Frag)(a:TA):TI:=λσ H R=>a σ H λvs e=>match vs with
 | [.ref a,.ref d]=>∃b c xs f,Sq b K e a xs/\Sq c K e d f/\R (TZ b c K a d) e
 |_=>False
theorem jB{es:List Expr}{l:Nat}{m:Pos}{a:Expr}{h:TA}{p d:Pos}(n:Gl X "enumerate")(o:X.mg "enumerate"=none)(t:PA X [a] h)(u:starEach [a] X.env=[(false,eval a X.env)]:=by rfl):
  PI X (.Tuple es l m) (.Call (.Name "enumerate" p) [a] [] d) (FL X.K h):=by
 calc⟨?_⟩;intro c s σ H R I h;calc Call_ (oM I n o boot_enumerate (PyProof.Rows.callWith_type1 (cO (t d c s σ H _ I h) λm e l=>?_) (by rw[u];rfl) rfl));obtain⟨h,i,f,g,d⟩:=l
 match h,g,d with
 | [.ref a],g,d=>
  obtain⟨b,h,v,q⟩:=d
  cases g with
  |cons r w=>
   cases w
   cases r;obtain⟨d,g,p,h⟩:=f.sq v;calc Dc p λg d h m l=>wpAny_pyIter_enum d ?_;have m:Inv X c σ i {e with heap:=g}:=f.kept (t':=e.toks) l;calc⟨_,[e.heap.objs.size+1,e.heap.objs.size],_,_,i,rfl,m,C9 b _ _ a (Nat.succ_ne_self _),⟨⟨_,d⟩,h⟩,λc j=>?_,q⟩;have k:e.heap.objs.size<=c:=by
    simp only[List.mem_cons,List.not_mem_nil,or_false]at j;rcases j with rfl|rfl
    ·exact Nat.le_succ _
    ·exact P' _
   calc f.Cz k (f.aO.fresh k)
theorem zA{es:List Expr}{s:Nat}{t:Pos}{a b:Expr}{h:TA}{p g:Pos}(u:Gl X "zip")(v:X.mg "zip"=none)(w:PA X [a,b] h)(x:starEach [a,b] X.env=[(false,eval a X.env),(false,eval b X.env)]:=by rfl)(l:starEach [b] X.env=[(false,eval b X.env)]:=by rfl):
  PI X (.Tuple es s t) (.Call (.Name "zip" p) [a,b] [] g) (O2 X.K h):=by
 calc⟨?_⟩;intro e s σ H R I h;calc Call_ (oM I u v boot_zip (PyProof.Rows.callWith_type1 (cO (w g e s σ H _ I h) λt f p=>?_) (by rw[x,l]) (by rw[l];rfl)));obtain⟨h,m,i,j,g⟩:=p
 match h,j,g with
 | [.ref a,.ref d],j,g=>
  obtain⟨b,c,h,l,y,z,q⟩:=g
  cases j with
  |cons r k=>
   cases k with
   |cons A k=>
    cases k
    cases r
    cases A;obtain⟨g,h,j,k⟩:=i.sq y;obtain⟨h,l,k,g⟩:=i.sq z;calc FI j k λg h l p r s u t=>wpAny_pyIter_zip h ?_;have j:Inv X e σ m {f with heap:=g}:=i.kept (t':=f.toks) t;refine⟨_,[f.heap.objs.size+4,f.heap.objs.size+2,f.heap.objs.size+3,f.heap.objs.size,f.heap.objs.size+1],_,_,m,rfl,j,FK b c _ _ _ _ _ a d ?_,⟨h,l,⟨_,_,p⟩,r,s⟩,λe n=>?_,q⟩
    ·simp
    ·have o:f.heap.objs.size<=e:=by
      simp only[List.mem_cons,List.not_mem_nil,or_false]at n;rcases n with rfl|rfl|rfl|rfl|rfl
      ·exact Nat.le_add_right _ _
      ·exact Nat.le_add_right _ _
      ·exact Nat.le_add_right _ _
      ·exact P' _
      ·exact Nat.le_add_right _ _
     calc i.Cz o (i.aO.fresh o)
end
end
end L2
namespace HT
open PySem PyProof.Rows
section
variable {prog:Program}{w:World}{A:Around}{E:Value->Shared->Prop}{s:Shared}
theorem nI{t e:Addr}{a:Array Value}{f g:Value}{b d:Option Int}{Q:Value->Shared->Prop}(c:IsTup s.heap t a)(i:s.heap.IsSliceOf e f g .none)(pl:IsPart f b)(j:IsPart g d)
  (f:d9 a.size 0 b=0/\d9 a.size a.size d=a.size) (h:Q (.ref t) s):wpAny (model prog w) A (getItem (.ref t) (.ref e)) Q E s:=by
 obtain⟨g,k,l,n⟩:=id i;have n:s.TypeIs (.ref e) "slice":=⟨g,k,l⟩
 unfold getItem
 try with_reducible refine aaF ?_
 first|calc E' (J' ?_)|skip
 refine E' (wpAny_sequenceKey c.typeIs ∅ (E' (aai (name:=Str.ofString "__getitem__") c.typeIs aaJ
  (aar aaJ c.typeIs entry_tuple_getitem ?_ (args_tuple_getitem _ _)))))
 calc E' (m:=Builtin.Tuple.tupleItemsOf (.ref t)) (tupleItemsOf_ c (E' (wpAny_typeOf n ?_)));rw[if_pos ∅];calc E' (jh i pl j ?_);have e:(((d9 a.size 0 b:Nat):Int)==0&&(1:Int)==1&&(d9 a.size a.size d-d9 a.size 0 b)==a.size)=true:=by
  rw[f.1,f.2];simp
 show wpAny _ _ (if (((d9 a.size 0 b:Nat):Int)==0&&(1:Int)==1&&(d9 a.size a.size d-d9 a.size 0 b)==a.size)=true then _ else _) _ _ s;rw[if_pos e];calc E' (m:=Builtin.Tuple.tupleIsExact (.ref t)) ?_;unfold Builtin.Tuple.tupleIsExact;calc E' (wpAny_typeOf c.typeIs (J' ?_));rw[if_pos ∅];calc E' (wpAny_rule (J' ⟨_,rfl,J' h⟩))
end
end HT
namespace L2
open PySem PySem.Spec PyProof.Rows
section
variable {H:Hp}{Q:VK}{K:W.Frag}
section
variable {X:Cx}
def Zt:V->Option Int->Option Int->Hp->VK->Prop:=λx c d H Q=>match x with
 | .ref a=>(∃xs,H a=some (.lst xs)/\∀p,H p=none->Q (.ref p) (upd H p (.lst (dG xs c d))))\/(∃xs,H a=some (.tup xs)/\∀p b,aq H b->b p=some (.tup (dG xs c d))->Q (.ref p) b)
 |_=>False
theorem Mj{a:Addr}{b c:Option Int}:Zt (.ref a) b c H Q=((∃xs,H a=some (.lst xs)/\∀p,H p=none->Q (.ref p) (upd H p (.lst (dG xs b c))))\/(∃xs,H a=some (.tup xs)/\∀p d,aq H d->d p=some (.tup (dG xs b c))->Q (.ref p) d)):=rfl
theorem Zu:Ti X Zt:=by
 intro c s σ H x v t u i j w Q I l m n o h
 cases x<;>first
  |calc(show False from h).elim
  |skip
 rename_i a;rcases h with⟨b,d,q⟩|⟨b,d,q⟩
 ·exact AS c s σ H _ v t u i j w Q I l m n o ⟨a,b,rfl,aP.of d,q⟩
 ·by_cases k:HT.d9 b.length 0 i=0/\HT.d9 b.length b.length j=b.length
  ·cases l;obtain⟨z,r,y,C⟩:=I.tuple (bz.of d);have g:z.toArray.size=b.length:=by rw[List.size_toArray];exact r.length.symm
   refine⟨"tuple",_,PyProof.Rows.slot_tuple_getitem.lookup,y.typeIs,HT.nI y m n o (by rw[g];exact k) ⟨.ref a,H,I,rfl,q a H (aq.refl H) ?_⟩⟩;have e:dG b i j=b:=by
    unfold dG;rw[k.1,k.2];simp
   rw[e];exact d
  ·calc Oq c s σ H _ v t u i j w Q I l m n o ⟨a,b,rfl,bz.of d,k,λp B=>q p _ (aq.new _ B) ab⟩
theorem rG{e:Expr}{b:TE}{c d:Option Expr}{f g:TO}{a h:Pos}(i:PE X e b)(j:PO X c f)(k:PO X d g):PE X (.Subscript e (.Slice c d none h) a) (Tj Zt b f g):=wW Zu i j k
def XT:R2:=λx y H Q=>match x,y with
 | .int i,.int j=>Q (.int (i+j)) H
 | .str i,.str j=>i.length+j.length<=sizeLine/\Q (.str (i++j)) H
 | .ref a,.ref b=>(∃xs c,H a=some (.lst xs)/\H b=some (.lst c)/\xs.length + c.length<=sizeLine/\∀p,H p=none->Q (.ref p) (upd H p (.lst (xs++c))))\/
   (∃xs c,H a=some (.tup xs)/\H b=some (.tup c)/\xs.length+c.length<=sizeLine/\∀p d,aq H d->d p=some (.tup (xs++c))->Q (.ref p) d)
 |_,_=>False
theorem FN{i j:Int}:XT (.int i) (.int j) H Q=Q (.int (i+j)) H:=rfl
theorem FO{i j:Str}:XT (.str i) (.str j) H Q=(i.length+j.length<=sizeLine/\Q (.str (i++j)) H):=rfl
theorem FQ {a b:Addr}:XT (.ref a) (.ref b) H Q=((∃xs c,H a=some (.lst xs)/\H b=some (.lst c)/\xs.length + c.length<=sizeLine/\∀p,H p=none->Q (.ref p) (upd H p (.lst (xs++c))))\/
      (∃xs c,H a=some (.tup xs)/\H b=some (.tup c)/\xs.length + c.length<=sizeLine/\∀p d,aq H d->d p=some (.tup (xs++c))->Q (.ref p) d)):=rfl
theorem cR:gq X (binaryOp .Add) XT:=by
 intro c s σ H x y v u Q I d e h
 cases x<;>cases y<;>first
  |calc(show False from h).elim
  |calc N0 c s σ H _ _ v u Q I d e ⟨_,_,rfl,rfl,h⟩
  |calc y0 c s σ H _ _ v u Q I d e ⟨_,_,rfl,rfl,h.1,h.2⟩
  |skip
 rename_i a b;rcases h with⟨k,l,f,g,m,i⟩|⟨k,l,f,g,m,i⟩
 ·exact OB c s σ H _ _ v u Q I d e ⟨_,_,k,l,rfl,rfl,f,g,m,i⟩
 ·by_cases q:k=[]
  ·subst q
   cases d
   cases e;obtain⟨R,D,E,_⟩:=I.tuple (bz.of f);obtain⟨S,T,G,_⟩:=I.tuple (bz.of g)
   cases D;obtain⟨⟨J,K,r,L⟩,t,w,n,A⟩:=id E;obtain⟨⟨U,M,o,N⟩,B,C,O,j⟩:=id G;simp only at w A C j;subst w A C j;exact concat_meets ⟨_,t,rfl⟩ ⟨_,B,rfl⟩ noFill_tuple_add seq_tuple_add PySem.F.slot_tuple_add PySem.F.entry_tuple_add (PySem.F.args_tuple_add_2 _ _)
    (tuple_addW0 a b _ _ n O K M L N nofun) ⟨t,B,⟨.ref b,H,I,rfl,i b H (aq.refl H) (by simpa using g)⟩⟩
  ·calc JS c s σ H _ _ v u Q I d e ⟨_,_,k,l,rfl,rfl,bz.of f,bz.of g,q,m,λz=>?_,λ_ p P=>i p _ (aq.new _ P) ab⟩;subst z;calc i a H (aq.refl H) (by simpa using f)
def T4(K:W.Frag):List V->Hp->VK->Prop:=λxs H Q=>match xs with
 | [.ref p]=>∃bs:List Bool,aP K H p (bs.map V.bl)/\Q (.bl (bs.all id)) H
 |_=>False
theorem FU{p:Addr}:T4 K [.ref p] H Q=∃bs:List Bool,aP K H p (bs.map V.bl)/\Q (.bl (bs.all id)) H:=rfl
theorem Bc:∀{bs:List Bool}{us:List Value},Vals (bs.map V.bl) us->us=bs.map Value.bool
 | [],_,.nil=>rfl
 |b::bs,_,.cons r t=>by
  cases r;rw[Bc t];rfl
theorem all_range:∀(bs:List Bool),((List.range bs.length).all λi=>bs.getD i false)=bs.all id:=by
 intro bs;induction bs with
 |nil=>rfl
 |cons b r a=>
  rw[List.length_cons,List.range_succ_eq_map,List.all_cons,List.all_map,List.all_cons];have:((λi=>(b::r).getD i false) ∘ Nat.succ)=λi=>r.getD i false:=by funext i;simp
  rw[this,a];rfl
theorem FV{prog:Program}{w:World}{A:Around}{bs:List Bool}:TruthOf prog w A (λi v=>(bs.map Value.bool).toArray[i]?=some v) (λi=>bs.getD i false):=by
 intro i v s Q E e c;have a:(bs.map Value.bool)[i]?=some v:=by simpa using e
 rw[List.getElem?_map]at a
 cases d:bs[i]? with
 |none=>rw[d]at a;cases a
 |some b=>
  rw[d]at a
  cases a;have:bs.getD i false=b:=by rw[List.getD_eq_getElem?_getD,d];rfl
  replace c:Q (bs.getD i false) s:=c
  rw[this]at c;calc aaG c
theorem jl(d:X.calm=true):fm X (.builtin "all") (T4 X.K):=by
 intro c s σ H f k Q I r h
 match f,r,h with
 | [.ref p],r,h=>
  obtain⟨a,g,q⟩:=h;obtain⟨u,rfl,i⟩:=Vals.one r
  cases i;obtain⟨c,j,b,f⟩:=I.list g;have e:=Bc j;subst e;refine call_all_walk (wpAny_pyIter_list b.isList ⟨s.heap.objs.size,_,_,_,_,_,λi=>a.getD i false,rfl,Walks.list (show X.A.in1.handled=none from I.ok.hd d) _ p ?_ (a.map Value.bool).toArray,⟨⟨_,X' _ rfl,rfl,rfl⟩,b.isList.push _⟩,FV,λf g c=>?_⟩)
  ·obtain⟨o,e,_⟩:=b.isList;exact aaa (U' e)
  ·have:(a.map Value.bool).toArray.size=a.length:=by simp
   rw[this,all_range];calc⟨.bl _,H,I.kept λb o e=>c b o (by simp[Nat.ne_of_lt (Heap.lt_size e)]) (K' _ e),rfl,q⟩
def xl:List V->Option (List Value)
 | []=>some []
 | .ty n::r=>(xl r).map (.type n::·)
 |_=>none
theorem xn:∀{xs:List V}{us a:List Value},Vals xs us->xl xs=some a->us=a
  | [],_,_,.nil,h=>by cases h;rfl
  |x::xs,_,a,.cons r t,h=>by
    cases x<;>first
      |cases h
      | (rename_i n
         unfold xl at h;obtain⟨b,c,d⟩:=Option.map_eq_some_iff.mp h
         cases r;rw[<-d,xn t c])
def Ki(K:W.Frag):List V->Hp->VK->Prop:=λxs H Q=>match xs with
 | [x,.ty n]=>∃t b,gs K H x t/\W.kitOne K t (.type n)=some b/\Q (.bl b) H
 | [x,.ref p]=>∃t b a c,gs K H x t/\H p=some (.tup a)/\xl a=some c/\W.kitAny K t c=some b/\Q (.bl b) H
 |_=>False
theorem FW{x:V}{n:String}:Ki K [x,.ty n] H Q=∃t b,gs K H x t/\W.kitOne K t (.type n)=some b/\Q (.bl b) H:=rfl
theorem FX{x:V}{p:Addr}:Ki K [x,.ref p] H Q=∃t b a c,gs K H x t/\H p=some (.tup a)/\xl a=some c/\W.kitAny K t c=some b/\Q (.bl b) H:=rfl
theorem zB{x:V}{u t:Value}{pins:List (Addr×Obj)}{σ:St}{H:Hp}{s:Shared}{A:Around}{E:Value->Shared->Prop}{Q:Value->Shared->Prop}{b:Bool}{m:Addr}{r:List Value}(I:Inv X pins σ H s)(c:RelV x u)(C:gs X.K H x t)
  (D:IsTup s.heap m r.toArray) (e:W.kitAny X.K t r=some b) (h:∀x,Q (.bool b) {s with toks:=x}):wpAny (model X.prog X.w) A (call (.builtin "isinstance") [u,.ref m]) Q E s:=by
 obtain⟨⟨m,r,b,x⟩,d,v,n,hd⟩:=id D;simp only at v hd;subst v hd
 cases C with
 |bC=>cases(show u=Value.none from c);calc W.kia_tup W.kitx_none I.j2 aah d e (λz=>nomatch z) h
 |bl y=>cases(show u=Value.bool y from c);calc W.kia_tup W.kitx_bool I.j2 aah d e (λz=>nomatch z) h
 |int i=>obtain⟨t,q⟩:=(show ∃t,u=Value.int i t from c);cases q;calc W.kia_tup W.kitx_int I.j2 aah d e (λz=>nomatch z) h
 |str y=>obtain⟨t,q⟩:=(show ∃t,u=Value.str y t from c);cases q;calc W.kia_tup W.kitx_str I.j2 aah d e (λz=>nomatch z) h
 |LV y=>obtain⟨t,q⟩:=(show ∃t,u=Value.float y t from c);cases q;calc W.kia_tup W.kitx_float I.j2 aah d e (λz=>nomatch z) h
 | @lst a k f=>
  cases(show u=Value.ref a from c);obtain⟨_,_,n,_,g⟩:=(show cg X.prog X.w H s.heap a (.lst k) from I.aO a _ f)
  calc W.kia_tup W.kitx_list I.j2 ⟨_,g,rfl⟩ d e (λz=>nomatch z) h
 | @lD a F k f=>
  cases(show u=Value.ref a from c);obtain⟨_,_,_,n,_,g⟩:=(show cg X.prog X.w H s.heap a (.lD F (.lst k)) from I.aO a _ f)
  calc W.kia_tup W.kitx_list I.j2 ⟨_,g,rfl⟩ d e (λz=>nomatch z) h
 | @tup a k f=>
  cases(show u=Value.ref a from c);obtain⟨_,_,_,p⟩:=(show cg X.prog X.w H s.heap a (.tup k) from I.aO a _ f)
  obtain⟨o,g,l,_⟩:=p;calc W.kia_tup W.kitx_tuple I.j2 ⟨o,g,l⟩ d e (λz=>nomatch z) h
 | @dK a j f=>
  cases(show u=Value.ref a from c);obtain⟨_,_,b,_,p⟩:=(show cg X.prog X.w H s.heap a (.dK j) from I.aO a _ f)
  obtain⟨o,G,J,g,l,_⟩:=p;calc W.kia_tup W.kitx_dict I.j2 ⟨o,g,l.1⟩ d e (λz=>nomatch z) h
 | @dT a j f=>
  cases(show u=Value.ref a from c);obtain⟨_,_,k,_,o,G,J,g,l,_⟩:=(show cg X.prog X.w H s.heap a (.dT j) from I.aO a _ f)
  calc W.kia_tup W.kitx_dict I.j2 ⟨o,g,l.1⟩ d e (λz=>nomatch z) h
 | @ins a C b g f B L M N P=>
  cases(show u=Value.ref a from c);obtain⟨b,O,_⟩:=nk I.aO f;obtain⟨a,J,_⟩:=O.look;calc W.kia_tup (W.kitx_own (B.get _) B.hd L M N P) I.j2 J d e (λz=>nomatch z) h
theorem cS:fm X (.builtin "isinstance") (Ki X.K):=by
 intro f s σ H g n Q I r h
 match g,r,h with
 | [x,.ty n],r,h=>
  obtain⟨t,b,ty,e,q⟩:=h;obtain⟨u,i,rfl,a,c⟩:=vals2 r
  cases c;calc ug I a ty e λj=>⟨.bl b,H,I.tok _,rfl,q⟩
 | [x,.ref p],r,h=>
  obtain⟨t,b,f,g,ty,k,d,e,q⟩:=h;obtain⟨u,i,rfl,a,c⟩:=vals2 r
  cases c;obtain⟨f,l,m,g⟩:=I.tuple (bz.of k);have o:=xn l d;subst o;calc zB I a ty m e λj=>⟨.bl b,H,I.tok _,rfl,q⟩
end
end
section
variable {a:Addr}{D:List (Str×V)}
section
variable {X:Cx}
def T5:V->List V->Hp->VK->Prop:=λx vs H Q=>match x,vs with
 | .ref l,[y]=>∃xs,H l=some (.lst xs)/\xs.length<sizeLine/\Q .bC (upd H l (.lst (xs++[y])))
 |_,_=>False
theorem FY{l:Addr}{y:V}{H:Hp}{Q:VK}:T5 (.ref l) [y] H Q=∃xs,H l=some (.lst xs)/\xs.length<sizeLine/\Q .bC (upd H l (.lst (xs++[y]))):=rfl
theorem bZ:Ot X "list.append" T5:=by
 intro a s σ H x c v d Q I e b h
 match x,c,b,h with
 | .ref l,[y],b,⟨c,f,g,h⟩=>calc uq a s σ H _ _ v d Q I e b ⟨l,c,y,rfl,rfl,f,g,h⟩
def T6:V->List V->Hp->VK->Prop:=λx vs H Q=>match x,vs with
 | .ref l,[.ref b]=>∃xs a,H l=some (.lst xs)/\H b=some (.lst a)/\xs.length+a.length<=sizeLine/\Q .bC (upd H l (.lst (xs++a)))
 |_,_=>False
theorem FZ{l b:Addr}{H:Hp}{Q:VK}:T6 (.ref l) [.ref b] H Q=∃xs a,H l=some (.lst xs)/\H b=some (.lst a)/\xs.length+a.length<=sizeLine/\Q .bC (upd H l (.lst (xs++a))):=rfl
theorem Kj:Ot X "list.extend" T6:=by
 intro a s σ H x b v d Q I e c h
 match x,b,c,h with
 | .ref l,[.ref b],c,⟨f,g,h,i,j,k⟩=>calc CP a s σ H _ _ v d Q I e c ⟨l,b,f,g,rfl,rfl,h,i,j,k⟩
def F0(a b:TE):TS:=λD σ H=>a σ H λx c=>b σ c λy a=>∃l i xs k,x=.ref l/\y=.int i/\a l=some (.lst xs)/\-(2^63)<=i/\i<2^63/\seqIndex? i xs.length=some k/\D.nx σ (upd a l (.lst (xs.eraseIdx k)))
theorem Kk{o i:Expr}{b c:TE}{d a:Pos}(e:PE X o b)(f:PE X i c):PS X (.Delete [.Subscript o i d] a) (F0 b c):=by
 walk_at "xd";refine wpAny_Delete (wpAny_deleteEach_cons (wpAny_delete_Subscript (cO (e pins s σ H _ I h) λu a ⟨x,b,c,g,d⟩=>cO (f pins a σ b _ c d) λe k j=>?_)));obtain⟨y,a,m,n,l,i,b,k,p,q,r,v,w,z,A⟩:=j;subst p q;obtain rfl:u=Value.ref l:=g;obtain⟨t,rfl⟩:=n;exact E6 m r v w z λb a=>wpAny_deleteEach_nil ⟨σ,_,a,A⟩
structure CD(K:W.Frag)(a:Addr)(D:List (Str×V)):Prop where
 ex:∃o es ep,K.lookup a=some o/\o.ExactDict/\o.data=.dict es ep/\KTD.Rows RelV es.toList D
 ne:(a==sysModules)=false
theorem O3{prog:Program}{w:World}{A:Around}{E:Value->Shared->Prop}{s:Shared}{o:Obj}{es:Array DictEntry}{ep:Nat}{k:Str}{c:Tok}{Q:Option Value->Shared->Prop}(h:s.heap.get? a=some o)(j:o.data=.dict es ep)(f:KTD.Rows RelV es.toList D)
  (i:∀d v,KTD.datumAt k D=some d->RelV d v->Q (some v) {s with toks:=s.toks+1}) (m:KTD.datumAt k D=none->Q none {s with toks:=s.toks+1}):wpAny (model prog w) A (dictGet a (.str k c)) Q E s:=by
 unfold dictGet
 try with_reducible refine aaF ?_
 calc E' (wpAny_pyHash_str (E' (KTD.kt_dictFind_strs (s:={s with toks:=s.toks+1}) h j (by obtain⟨l⟩:=es;simpa using f.exact) ?_)));have b:Q (findBy (λk v=>v.isStr k) es k) {s with toks:=s.toks+1}:=by
  have c:findBy (λk v=>v.isStr k) es k=(es.toList.find? λe=>e.key.isStr k).map (·.val):=by
   obtain⟨l⟩:=es;simp[findBy]
  rw[c]
  cases c:KTD.datumAt k D with
  |some d=>
   obtain⟨v,l,g⟩:=f.find_some c;rw[l];calc i d v c g
  |none=>rw[f.find_none c];exact m c
 rw[findBy_of_findIdx?]at b
 cases c:es.findIdx? λe=>e.key.isStr k with
 |none=>rw[c]at b;calc J' b
 |some i=>rw[c]at b;calc E' (aam (s:={s with toks:=s.toks+1}) h j (J' b))
theorem zC{prog:Program}{w:World}{o:Obj}{es:Array DictEntry}{ep:Nat}{k:Str}{b:Tok}(c:o.data=.dict es ep)(e:KTD.Rows RelV es.toList D)(f:(a==sysModules)=false):
  MeetsIn prog w (Builtin.«dict.get» ⟨[.ref a,.str k b],[]⟩) (λ_ R s=>s.heap.get? a=some o/\(∀d v,KTD.datumAt k D=some d->RelV d v->R (.ok (.ret v)) {s with toks:=s.toks+1})/\(KTD.datumAt k D=none->R (.ok (.ret .none)) {s with toks:=s.toks+1})):=
 .of_wp λA R s ⟨T,g,h⟩=>by
  show wpAny _ _ (dictGet a (.str k b) >>= _) _ _ s;calc E' (O3 T c e (λd v i j=>J' ⟨v,rfl,g d v i j⟩) λc=>?_);show wpAny _ _ (Builtin.Dict.missed a (.str k b) >>= _) _ _ _;calc E' (wpAny_missed_other f (J' ⟨.none,rfl,h c⟩))
def F1(D:List (Str×V))(t:TA):TE:=λσ H Q=>t σ H λxs a=>match xs with
 | [.str k]=>Q ((KTD.datumAt k D).getD .bC) a
 |_=>False
theorem Kl{n:Str}{e:Expr}{t:TA}{p b d:Pos}(C:CD X.K a D)(r:Gl X n)(v:X.mg n=some (.ref a))(w:PA X [e] t)
  (x:(n==("__debug__":Str))=false:=by decide) (y:attributeBase (.Name n p) "get" X.env (eval (.Name n p) X.env)=eval (.Name n p) X.env:=by rfl)
  (z:(b.endLine==d.line)=true:=by rfl) (l:starEach [e] X.env=[(false,eval e X.env)]:=by rfl):PE X (.Call (.Attribute (.Name n p) "get" b) [e] [] d) (F1 D t):=by
 walk_at "xc";obtain⟨o,b,n,m,f,A,B⟩:=C.ex;refine wpAny_Call_method_late y (by rw[l];rfl) z rfl (qK I r v ?_ x);have q:s.heap.get? a=some o:=I.j2 a o m;refine⟨"dict","dict.get",SK,IL,Xs,⟨o,q,f.1⟩,λb e=>?_,?_⟩
 ·cases e;exact⟨o,q,f.2.1⟩
 have b:=w d pins s σ H _ I h;rw[l]at b ⊢;calc Calls.callWith_builtin rfl (Calls.evalArgs_plain (cO b λn E e=>?_));obtain⟨b,g,i,j,c⟩:=e
 match b,j,c with
 | [.str k],j,c=>
  obtain⟨u,rfl,G⟩:=Vals.one j;obtain⟨J,rfl⟩:=G;have e:E.heap.get? a=some o:=i.j2 a o m
  replace c:Q ((KTD.datumAt k D).getD .bC) g:=c
  refine call_meetsIn IL ⟨o,e,f.1⟩ Rk (PySem.F.args_dict_get_2 _ _) (zC A B C.ne) ⟨e,λd v b j=>?_,λe=>?_⟩
  ·exact⟨d,g,i.tok _,j,by have:=c;rw[b]at this;calc this⟩
  ·calc⟨.bC,g,i.tok _,rfl,by have:=c;rw[e]at this;calc this⟩
end
end
section
variable {x:Str}
section
variable {X:Cx}
theorem fz{n:Int}{a:Pos}(b:∃t,X.mg x=some (.int n t))(c:Gl X x)(d:(x==("__debug__":Str))=false:=by decide):PE X (.Name x a) (tC (.int n)):=by
 obtain⟨t,b⟩:=b;calc Ax c b ⟨t,rfl⟩ d
end
structure ck(P:Program)(w:World)(K:W.Frag)(mg:Str->Option Value)(base:Heap)(C:Addr)(m:Str)(k:Nat)(ps:List Str)(sp:Sp):Prop where
 ex:∃f fd,Meth K C m f/\lK P w K mg base CV k f fd ps sp/\Binds K fd ps []
structure gG(K:W.Frag)(C:Addr)(m qual:Str)(st:Stmt)(ps:List Str):Prop where
 ex:∃f fd,Meth K C m f/\J9 K m qual st f fd/\Binds K fd ps []
structure vK(P:Program)(w:World)(K:W.Frag)(mg:Str->Option Value)(base:Heap)(x:Str)(C:Addr)(k:Nat)(ps:List Str)(sp:Sp):Prop where
 ex:∃f fd,Mk K C f/\lK P w K mg base CV k f fd ps sp/\Binds K fd ps []
 mg:mg x=some (.ref C)
structure Dd(K:W.Frag)(mg:Str->Option Value)(x:Str)(C:Addr)(qual:Str)(st:Stmt)(ps:List Str):Prop where
 ex:∃f fd,Mk K C f/\J9 K "__init__" qual st f fd/\Binds K fd ps []
 mg:mg x=some (.ref C)
section
variable {P:Program}{w:World}{K:W.Frag}{mg:Str->Option Value}{base:Heap}
theorem gG.ok{C:Addr}{m a:Str}{b:Stmt}{N c:List Str}{k:Nat}{sp:Sp}(T:gG K C m a b c)(S:aB N c (ay b))(d:∀vs H Q E,sp vs H Q E->vs.length=c.length)
  (g:∀(f:Addr) (e:Value) (A:Around) (outer:List Env) (s:Shared) (H:Hp) (vs:List V) (Q:VK) (E:XK),eV k (A.deeper (envOfC a (ay b) s.heap.objs.size f e))->sp vs H Q E->
   ∃t,wA (qZ CV P w K mg base N a (ay b) f e A outer s H E).JC (cW b) t/\t {nx:=λ_ a=>Q .bC a,rt:=Q} (start N vs) H):ck P w K mg base C m (k + 1) c sp:=by
 obtain⟨f,a,M,F,b⟩:=T.ex;calc⟨f,a,M,F.ok S d (g f),b⟩
theorem Dd.ok{C:Addr}{a:Str}{b:Stmt}{N c:List Str}{k:Nat}{sp:Sp}(T:Dd K mg x C a b c)(S:aB N c (ay b))(d:∀vs H Q E,sp vs H Q E->vs.length=c.length)
  (g:∀(f:Addr) (e:Value) (A:Around) (outer:List Env) (s:Shared) (H:Hp) (vs:List V) (Q:VK) (E:XK),eV k (A.deeper (envOfC a (ay b) s.heap.objs.size f e))->sp vs H Q E->
   ∃t,wA (qZ CV P w K mg base N a (ay b) f e A outer s H E).JC (cW b) t/\t {nx:=λ_ a=>Q .bC a,rt:=Q} (start N vs) H):vK P w K mg base x C (k + 1) c sp:=by
 obtain⟨f,a,M,F,b⟩:=T.ex;calc⟨⟨f,a,M,F.ok S d (g f),b⟩,T.mg⟩
end
section
variable {X:Cx}{o e:Expr}{es:List Expr}{to:TE}{t:TA}{apos p pos:Pos}{C:Addr}{m x:Str}{k j:Nat}{ps:List Str}{sp:Sp}
theorem eW{pl:Sem Bool}(D:ck X.prog X.w X.K X.mg X.base C m k ps sp)(c:vk X.K C)(b:eV j X.A)(d:PE X o to)(g:PA X (e::es) t)(h:k<=j:=by decide)(i:fP e=true:=by rfl)(l:es.all fP=true:=by rfl)
  (n:eval (.Call (.Attribute o m apos) (e::es) [] pos) X.env=(do
   let a <-eval o X.env
   standAt apos.atName
   let (f,first) <-holding [a] (getMethod a m pl)
   callWith pos f first (backTo pos (starEach (e::es) X.env)) (backToKw pos (keywordEach [] X.env))):=by rfl):
  PE X (.Call (.Attribute o m apos) (e::es) [] pos) (uh C m sp [] E0 to t):=by
 obtain⟨f,p,M,F,a⟩:=D.ex;calc JP d c M F (b.mono h) a .nil AZ g (fQ i) (jk l) n
theorem eS{pl:Sem Bool}(D:ck X.prog X.w X.K X.mg X.base C m k ps sp)(c:vk X.K C)(b:eV j X.A)(d:PE X o to)(e:k<=j:=by decide)
  (g:eval (.Call (.Attribute o m apos) [] [] pos) X.env=(do
   let a <-eval o X.env
   standAt apos.atName
   let (f,first) <-holding [a] (getMethod a m pl)
   callWith pos f first (backTo pos (starEach [] X.env)) (backToKw pos (keywordEach [] X.env))):=by rfl):
  PE X (.Call (.Attribute o m apos) [] [] pos) (uh C m sp [] E0 to EU):=by
 obtain⟨f,h,M,F,a⟩:=D.ex;calc EV d c M F (b.mono e) a .nil AZ g
theorem xo(D:vK X.prog X.w X.K X.mg X.base x C k ps sp)(a:eV j X.A)(b:PA X (e::es) t)(c:Gl X x:=by rfl)(d:k+1<=j:=by decide)(g:(x==("__debug__":Str))=false:=by decide)
  (h:fP e=true:=by rfl) (i:es.all fP=true:=by rfl):PE X (.Call (.Name x p) (e::es) [] pos) (AK C sp [] E0 t):=by
 obtain⟨f,m,M,F,l⟩:=D.ex;calc JQ M F (a.mono d) c D.mg l .nil AZ b g (fQ h) (jk i)
end
theorem kr{K:W.Frag}{b:Bool}{a:Addr}{xs:List V}{g:TG}{l:TS}{D:Ends}{σ:St}{H:Hp}(c:Nat->St->Hp->Prop)(o:c 0 σ H)(j:∀i σ H,c i σ H->Sq b K H a xs)
  (q:∀i x σ H T,xs[i]?=some x->c i σ H->H T=none->g (.ref T) σ (upd H T (.tup [.int i,x])) λd k=>l {D with nx:=c (i+1),ct:=c (i+1),bk:=D.nx} d k) (r:∀σ H,c xs.length σ H->D.nx σ H):
  ∃W:Nat->Nat->St->Hp->Prop,(∃m,W 0 m σ H)/\∀i m σ H,W i m σ H->
   ((OZ b K a).stop i H/\D.nx σ H)\/((OZ b K a).go i H/\∃N:St->Hp->Prop,(∀f h,N f h->∃n,n<m/\W (i+1) n f h)/\∀x h,(OZ b K a).JE i H x h->g x σ h λd k=>l {D with nx:=N,ct:=N,bk:=D.nx} d k):=by
 calc⟨λi m σ H=>m=xs.length-i/\i<=xs.length/\c i σ H,⟨xs.length,nofun,Y' _,o⟩,?_⟩;rintro i m σ H ⟨rfl,b,p⟩;by_cases a:i<xs.length
 ·calc .inr ⟨⟨xs,xs[i],j i σ H p,cy a⟩,c (i+1),λf h b=>⟨xs.length-(i+1),(),rfl,a,b⟩,λx h y=>?_⟩;obtain⟨T,s,rfl,y⟩:=y;obtain⟨x,t,rfl⟩:=y xs (j i σ H p);exact q i x σ H T t p s
 ·have e:i=xs.length:=by lia
  subst e;calc .inl ⟨⟨xs,j _ σ H p,rfl⟩,r σ H p⟩
theorem eZ{X:Cx}{i j:Nat}{y:Str}{c d a:Pos}{k:Nat}(e:X.calm=true)(b:X.N.Nodup)(f:X.N[i]?=some x)(g:X.N[j]?=some y)(h:Loc X.env.scope x)(l:Loc X.env.scope y)
  (m:X.fn x=true\/X.env.scope.names.lookup x=some .local:=by grind) (n:X.fn y=true\/X.env.scope.names.lookup y=some .local:=by grind):
  PG X (.Tuple [.Name x c,.Name y d] k a) (EG X.K 2 (lO (fL i) (lO (fL j) EF))):=yV e (gM (aQ b f h m) (gM (aQ b g l n) vi))
end
end L2
set_option maxHeartbeats 400000
namespace L2
open PySem PySem.Spec PyProof.Rows
end L2
set_option maxHeartbeats 4000000
namespace L2
open PySem PySem.Spec PyProof.Rows
variable {a:Addr}{g:Bool->Bool}{H:Hp}{ix:List (Option Nat)}{yK:List (TE×TE)}{σ:St}{te:TE}{wi:TI}{tt:TT}{Q:VK}{K:W.Frag}
section
variable {X:Cx}{K:W.Frag}
theorem uB(a:X.K=K):fm X (.builtin "isinstance") (Ki K):=a▸cS
theorem rH(a:X.K=K):fm X (.builtin "len") (OU K):=a▸aN
theorem nJ(a:X.K=K):fm X (.type "tuple") (vC K):=a▸bO
theorem Km(a:X.K=K)(b:X.A.units+64<cLine):gq X (compareOp .Eq) (OP K):=a▸Fo b
theorem fA{a b:Expr}{d e:TE}{c:Pos}(f:X.K=K)(g:X.A.units+64<cLine)(i:PE X a d)(j:PE X b e)(h:vH b=true:=by rfl):PE X (.Subscript a b c) (EL (OT K) d e):=f▸aj g i j h
theorem Kn{e:Expr}{b:TE}{f:Str}{a:Pos}(c:X.K=K)(d:PE X e b)(g:attributeBase e f X.env (eval e X.env)=eval e X.env):PE X (.Attribute e f a) (JM K b f):=c▸bF d g
theorem lH{i j:Nat}{x y:Str}{b c a:Pos}{k:Nat}(d:X.K=K)(e:X.calm=true)(f:X.N.Nodup)(g:X.N[i]?=some x)(h:X.N[j]?=some y)(l:Loc X.env.scope x)(m:Loc X.env.scope y)
  (n:X.fn x=true\/X.env.scope.names.lookup x=some .local:=by grind) (o:X.fn y=true\/X.env.scope.names.lookup y=some .local:=by grind):
  PG X (.Tuple [.Name x b,.Name y c] k a) (EG K 2 (lO (fL i) (lO (fL j) EF))):=d▸eZ e f g h l m n o
end
inductive Ua{α:Sort _}(x:α):Type
 |mk
def Zv(ix:List (Option Nat))(wi:TI)(g:TG)(tt:TT)(te:TE)(_:Ua (ix,wi,g,tt,te)):TE:=TJ ix wi g tt te
theorem Bd{g:TG}:TJ ix wi g tt te=Zv ix wi g tt te .mk:=rfl
def Ub(wi:TI)(g:TG)(a:TS)(_:Ua (wi,g,a)):TS:=NY wi g a
theorem xq{g:TG}{a:TS}:NY wi g a=Ub wi g a .mk:=rfl
def Ko(a:TT)(b:TS)(_:Ua (a,b)):TS:=vj a b
theorem rJ{a:TT}{b:TS}:vj a b=Ko a b .mk:=rfl
theorem bL{g:TG}(h:wi σ H λJ a=>∀D,a D=none->ko ix J g tt te σ a Q D):TJ ix wi g tt te σ H Q:=h
def Kp(ix:List (Option Nat))(J:It)(g:TG)(tt:TT)(te:TE)(σ:St)(H:Hp)(Q:VK)(D:Addr)(_:Ua (ix,J,g,tt,te,σ,H,Q,D)):Prop:=ko ix J g tt te σ H Q D
theorem rK{J:It}{g:TG}{D:Addr}:ko ix J g tt te σ H Q D=Kp ix J g tt te σ H Q D .mk:=rfl
theorem zD:TU g (.ref a) .bC H Q=Q (.bl (g false)) H:=by
 show Q (.bl (g (decide (V.ref a=.bC)))) H=_;simp
theorem zE:TU g .bC .bC H Q=Q (.bl (g true)) H:=by
 show Q (.bl (g (decide (V.bC=.bC)))) H=_;simp
theorem aq.Rx{b:Hp}(s:aq H b){a:Addr}{xs:List V}(h:bz K H a xs):bz K b a xs:=by
 rcases h with(h|⟨o,h⟩)|h
 ·exact .inl (.inl (s _ _ h))
 ·exact .inl (.inr ⟨o,s _ _ h⟩)
 ·calc .inr h
theorem jm{α:Type}(x:α)(n:Nat):List.replicate n x++[x]=List.replicate (n+1) x:=by
 rw[List.replicate_succ',]
theorem oX(n:Nat):List.replicate n (V.bl true)=(List.replicate n true).map V.bl:=by simp
theorem cX{xs:List V}{i:Int}{v:V}{P:V->Prop}(h:H a=some (.tup xs))(e:ip xs i=some v)(k:P v):∃xs v,(aP K H a xs\/bz K H a xs)/\ip xs i=some v/\P v:=⟨xs,v,.inr (bz.of h),e,k⟩
theorem bt{xs:List V}{i:Int}{v:V}{P:V->Prop}(h:H a=some (.lst xs))(e:ip xs i=some v)(k:P v):∃xs v,(aP K H a xs\/bz K H a xs)/\ip xs i=some v/\P v:=⟨xs,v,.inl (aP.of h),e,k⟩
def O5(yK:List (TE×TE))(_:Ua yK):TE:=AX yK
theorem uC:AX yK=O5 yK .mk:=rfl
theorem Kq(h:∀p,H p=none->oS yK σ (upd H p (.dK [])) λc a=>a p=some (.dK [])/\∃kvs:List (Key×V),c=kvs.map (λb=>(kV b.1,b.2))/\kvs.length<=15/\Q (.ref p) (upd a p (.dK (l7 [] kvs)))):AX yK σ H Q:=h
end L2
set_option maxHeartbeats 400000
namespace L2
open PySem PySem.Spec PyProof.Rows
section
section
variable {X:Cx}{K:W.Frag}
end
end
section
section
variable {X:Cx}{pins:List (Addr×Obj)}{σ:St}{H:Hp}{s:Shared}{e C:Addr}{d:Option Addr}{fl:Bool}{T:Option Addr}{h':Heap}
end
section
variable {X:Cx}{pins:List (Addr×Obj)}{σ:St}{H:Hp}{s:Shared}{a C:Addr}{d:Option Addr}{fl:Bool}{T:Option Addr}{h':Heap}{E:XK}{E1:Value->Shared->Prop}
end
end
section
section
variable {X:Cx}{o e:Expr}{es:List Expr}{to:TE}{t:TA}{apos p pos:Pos}{C:Addr}{m x:Str}{k j:Nat}{ps:List Str}{sp:Sp}{E:XK}
end
end
section
end
end L2
namespace L2
open PySem PySem.Spec PyProof.Rows
end L2
set_option maxHeartbeats 4000000
namespace DD
open PySem L2
variable {H:Hp}{x:V}
inductive Kd(H:Hp):V->Value->Prop
 |bC:Kd H .bC (.type "NoneType")
 |bl (b:Bool):Kd H (.bl b) (.type "bool")
 |int (i:Int):Kd H (.int i) (.type "int")
 |str (x:Str):Kd H (.str x) (.type "str")
 |lst {a xs}:H a=some (.lst xs)->Kd H (.ref a) (.type "list")
 |tup {a xs}:H a=some (.tup xs)->Kd H (.ref a) (.type "tuple")
 |dK {a kvs}:H a=some (.dK kvs)->Kd H (.ref a) (.type "dict")
theorem Kd.ty{K:W.Frag}{H:Hp}{x:V}{t:Value}(h:Kd H x t):gs K H x t:=by
 cases h with
 |bC=>calc .bC
 |bl b=>calc .bl b
 |int i=>calc .int i
 |str x=>calc .str x
 |lst e=>calc .lst e
 |tup e=>calc .tup e
 |dK e=>calc .dK e
def Zw:V->Bool
 | .int _=>true
 |_=>false
theorem O6{K:W.Frag}{H:Hp}{x:V}{t:Value}(h:Kd H x t):∃b c,W.kitOne K t (.type "int")=some b/\W.kitOne K t (.type "bool")=some c/\Zw x=(b && !c):=by
 cases h with
 |bC=>calc⟨false,false,rfl,rfl,rfl⟩
 |bl b=>calc⟨true,true,rfl,rfl,rfl⟩
 |int i=>calc⟨true,false,rfl,rfl,rfl⟩
 |str x=>calc⟨false,false,rfl,rfl,rfl⟩
 |lst e=>calc⟨false,false,rfl,rfl,rfl⟩
 |tup e=>calc⟨false,false,rfl,rfl,rfl⟩
 |dK e=>calc⟨false,false,rfl,rfl,rfl⟩
def inR(a b:Int):V->Bool
 | .int i=>decide (a<=i)&&decide (i<b)
 |_=>false
theorem Uc{H:Hp}{n:Nat}{x:V}{d:DV}(h:HD H n x d):∃t,Kd H x t:=by
 cases h with
 |bC=>calc⟨_,.bC⟩
 |bl b=>calc⟨_,.bl b⟩
 |int i=>calc⟨_,.int i⟩
 |str x=>calc⟨_,.str x⟩
 |tup e=>calc⟨_,.tup e⟩
 |lst e=>calc⟨_,.lst e⟩
 |dict e=>calc⟨_,.dK e⟩
def O7:DV->Bool
 | .int _=>true
 |_=>false
def Ud(a b:Int):DV->Bool
 | .int i=>decide (a<=i)&&decide (i<b)
 |_=>false
theorem O8{n:Nat}{d:DV}(h:HD H n x d):Zw x=O7 d:=by cases h<;>rfl
theorem O9{n:Nat}{d:DV}(h:HD H n x d)(a b:Int):inR a b x=Ud a b d:=by cases h<;>rfl
def rL:List V:=[.str "letter",.str "way",.str "first"]
def Kr(w:Str)(m:Int):List DV->Bool
 | [z]=>if w="is" then O7 z else(decide (w="number")&&Ud 0 m z)
 |_=>false
def De(m:Int):DV->Bool
 | .tup (.str w::r)=>if AU (.str w) rL=true then decide (r.length=0) else Kr w m r
 |_=>false
inductive Val where
 |is (c:Int)|number (i:Int)|ma|way|first
def Val.dv:Val->DV
 | .is c=>.tup [.str "is",.int c]
 | .number i=>.tup [.str "number",.int i]
 | .ma=>.tup [.str "letter"]
 | .way=>.tup [.str "way"]
 | .first=>.tup [.str "first"]
def Val.ok(m:Int):Val->Prop
 | .number i=>0<=i/\i<m
 |_=>True
theorem Pa{m:Int}{v:Val}(h:v.ok m):De m v.dv=true:=by
 cases v with
 |is c=>calc rfl
 |number i=>
  obtain⟨a,b⟩:=h;show(if AU (.str "number") rL=true then decide (([DV.int i]:List DV).length=0) else if ("number":Str)="is" then O7 (.int i) else(decide (("number":Str)="number")&&(decide (0<=i)&&decide (i<m))))=true;rw[if_neg ⋯,if_neg ⋯];simp[a,b]
 |ma=>calc rfl
 |way=>calc rfl
 |first=>calc rfl
def rM(b a:List Int)(way said:Int):Val->Int
 | .is c=>c
 | .number i=>b.getD i.toNat 0
 | .ma=>said
 | .way=>way
 | .first=>a.headD 0
abbrev xt(b a:List Int):DV:=.tup [.tup (b.map .int),.tup (a.map .int)]
theorem ln1{l:List V}(h:l.length=1):∃a,l=[a]:=List.length_eq_one_iff.mp h
theorem ln2{l:List V}(h:l.length=2):∃a b,l=[a,b]:=by
 cases l with
 |nil=>cases h
 |cons a r=>
  obtain⟨b,rfl⟩:=ln1 (Nat.succ.inj h);calc⟨a,b,rfl⟩
theorem ln3{l:List V}(h:l.length=3):∃a b c,l=[a,b,c]:=by
 cases l with
 |nil=>cases h
 |cons a r=>
  obtain⟨b,c,rfl⟩:=ln2 (Nat.succ.inj h);calc⟨a,b,c,rfl⟩
theorem ln4{l:List V}(h:l.length=4):∃a b c d,l=[a,b,c,d]:=by
 cases l with
 |nil=>cases h
 |cons a r=>
  obtain⟨b,c,d,rfl⟩:=ln3 (Nat.succ.inj h);calc⟨a,b,c,d,rfl⟩
theorem iL{H:Hp}{n:Nat}{x:V}{d:DV}(h:HT H n x (.tup [d])):∃a u k,x=.ref a/\H a=some (.tup [u])/\HT H k u d:=by
 cases h with
 | @tup k a b _ e l i=>
  obtain⟨u,rfl⟩:=ln1 l;calc⟨a,u,k,rfl,e,i 0 u d rfl rfl⟩
theorem dI{H:Hp}{n:Nat}{x:V}{d d':DV}(h:HT H n x (.tup [d,d'])):∃a u v k,x=.ref a/\H a=some (.tup [u,v])/\HT H k u d/\HT H k v d':=by
 cases h with
 | @tup k a b _ e l i=>
  obtain⟨u,v,rfl⟩:=ln2 l;calc⟨a,u,v,k,rfl,e,i 0 u d rfl rfl,i 1 v d' rfl rfl⟩
theorem Be{H:Hp}{n:Nat}{x:V}{b:List Int}(h:HT H n x (.tup (b.map .int))):∃a,x=.ref a/\H a=some (.tup (b.map V.int)):=by
 cases h with
 | @tup k a c _ e l i=>
  calc⟨a,rfl,?_⟩;have:c=b.map V.int:=by
   apply List.ext_getElem?;intro j;rw[List.getElem?_map]
   cases d:b[j]? with
   |none=>
    have a:b.length<=j:=List.getElem?_eq_none_iff.mp d;rw[List.getElem?_eq_none_iff.mpr (by rw[l,List.length_map];calc a)];rfl
   |some z=>
    have a:j<b.length:=(List.getElem?_eq_some_iff.mp d).1;have f:j<c.length:=by rw[l,List.length_map];exact a
    have g:=i j c[j] (.int z) (cy f) (by rw[List.getElem?_map,d];rfl);rw[cy f];generalize c[j]=y at g
    cases g;rfl
  rw[<-this];calc e
theorem nK{H:Hp}{n:Nat}{a:Addr}{c:List Int}(e:H a=some (.tup (c.map V.int))):HT H (n+1) (.ref a) (.tup (c.map .int)):=by
 calc .tup e nofun λi u d b f=>?_;rw[List.getElem?_map]at b f
 cases g:c[i]? with
 |none=>rw[g]at b;cases b
 |some z=>rw[g]at b f;cases b;cases f;calc .int z
theorem rN{H:Hp}{n:Nat}{a:Addr}{u:V}{d:DV}(e:H a=some (.tup [u]))(h:HT H n u d):HT H (n+1) (.ref a) (.tup [d]):=by
 refine .tup e rfl λi x y b c=>?_
 cases i with
 |zero=>simp at b c;subst b c;calc h
 |succ i=>simp at b
theorem dg{H:Hp}{n:Nat}{a:Addr}{u v:V}{d d':DV}(e:H a=some (.tup [u,v]))(h:HT H n u d)(h':HT H n v d'):HT H (n+1) (.ref a) (.tup [d,d']):=by
 refine .tup e rfl λi x y b c=>?_
 match i,b,c with
 |0,b,c=>simp at b c;subst b c;calc h
 |1,b,c=>simp at b c;subst b c;calc h'
theorem _root_.L2.HT.mono{H:Hp}{n:Nat}{x:V}{d:DV}(h:HT H n x d):∀{m:Nat},n<=m->HT H m x d:=by
 induction h with
 |bC=>intro m _;calc .bC
 |bl b=>intro m _;calc .bl b
 |int i=>intro m _;calc .int i
 |str x=>intro m _;calc .str x
 |tup a b c f=>
  intro m e;obtain⟨k,rfl⟩:∃k,m=k+1:=⟨m-1,()⟩
  calc .tup a b λi u e p q=>f i u e p q ()
inductive bf where
 |set (i:Int) (v:Val)|add (i:Int) (v:Val)|times (i:Int) (v:Val)|put (v:Val)|drop|send (j:Int) (v:Val)|say (v:Val)|skip (v w:Val) (k:Int)
def bf.dv:bf->DV
 | .set i v=>.tup [.str "set",.int i,v.dv]
 | .add i v=>.tup [.str "add",.int i,v.dv]
 | .times i v=>.tup [.str "times",.int i,v.dv]
 | .put v=>.tup [.str "put",v.dv]
 | .drop=>.tup [.str "drop"]
 | .send j v=>.tup [.str "send",.int j,v.dv]
 | .say v=>.tup [.str "say",v.dv]
 | .skip v w k=>.tup [.str "skip",v.dv,w.dv,.int k]
def bf.ok(m:Int):bf->Prop
 | .set i v=>0<=i/\i<m/\v.ok m
 | .add i v=>0<=i/\i<m/\v.ok m
 | .times i v=>0<=i/\i<m/\v.ok m
 | .put v=>v.ok m
 | .drop=>True
 | .send j v=>0<=j/\v.ok m
 | .say v=>v.ok m
 | .skip v w k=>v.ok m/\w.ok m/\1<=k/\k<25
def bf.vals:bf->List Val
 | .set _ v=>[v]
 | .add _ v=>[v]
 | .times _ v=>[v]
 | .put v=>[v]
 | .drop=>[]
 | .send _ v=>[v]
 | .say v=>[v]
 | .skip v w _=>[v,w]
def bf.word:bf->Str
 | .set _ _=>"set"
 | .add _ _=>"add"
 | .times _ _=>"times"
 | .put _=>"put"
 | .drop=>"drop"
 | .send _ _=>"send"
 | .say _=>"say"
 | .skip _ _ _=>"skip"
def bf.tF:bf->List Str
 | .set _ _=>["number","value"]
 | .add _ _=>["number","value"]
 | .times _ _=>["number","value"]
 | .put _=>["value"]
 | .drop=>[]
 | .send _ _=>["way","value"]
 | .say _=>["value"]
 | .skip _ _ _=>["value","value","many"]
structure WS where
 ns:List Int
 row:List Int
 cA:List (Int×Int)
 words:List Int
def fB(M way said:Int)(b a:List Int)(v:Val):Int:=rM b a way said v%M
def jo(M:Int)(a:List Int)(x:Int):bf->List Int
 | .set i _=>a.set i.toNat x
 | .add i _=>a.set i.toNat ((a.getD i.toNat 0+x)%M)
 | .times i _=>a.set i.toNat ((a.getD i.toNat 0*x)%M)
 |_=>a
def nL(a:List Int)(x:Int):bf->List Int
 | .put _=>if a.length<12 then a++[x] else a
 | .drop=>a.tail
 |_=>a
def gN(x:Int):bf->List (Int×Int)
 | .send j _=>[(j,x)]
 |_=>[]
def fR(x:Int):bf->List Int
 | .say _=>[x]
 |_=>[]
def nM(x y:Int):bf->Int
 | .skip _ _ k=>if x<y then k else 0
 |_=>0
def fC(M way said:Int)(d:bf)(s:WS):WS:=
 let ws:=d.vals.map (fB M way said s.ns s.row)
 ⟨jo M s.ns (ws.getD 0 0) d,nL s.row (ws.getD 0 0) d,s.cA++gN (ws.getD 0 0) d,s.words++fR (ws.getD 0 0) d⟩
def lU(M way said:Int)(d:bf)(s:WS):Int:=
 let ws:=d.vals.map (fB M way said s.ns s.row)
 nM (ws.getD 0 0) (ws.getD 1 0) d
def xu(M way said:Int):Nat->List bf->WS->WS
 |0,_,s=>s
 |_,[],s=>s
 |f+1,d::r,s=>xu M way said f (r.drop (lU M way said d s).toNat) (fC M way said d s)
theorem Bf{M way said:Int}{f:Nat}{s:WS}:xu M way said f [] s=s:=by cases f<;>rfl
def nN(M way said:Int)(b:List bf)(c a:List Int):WS:=xu M way said b.length b ⟨c,a,[],[]⟩
theorem oY{M x:Int}{a:List Int}{d:bf}:(jo M a x d).length=a.length:=by cases d<;>simp[jo]
def xy(K:W.Frag)(H:Hp)(f:V)(e d:List Int):Prop:=∃a b c,f=.ref a/\H a=some (.tup [.ref b,.ref c])/\(aP K H b (e.map V.int)\/bz K H b (e.map V.int))/\(aP K H c (d.map V.int)\/bz K H c (d.map V.int))
theorem xy.of{K:W.Frag}{n:Nat}{f:V}{g d:List Int}(h:HT H n f (xt g d)):xy K H f g d:=by
 obtain⟨a,u,v,k,rfl,e,i,j⟩:=dI h;obtain⟨b,rfl,l⟩:=Be i;obtain⟨c,rfl,d⟩:=Be j;calc⟨a,b,c,rfl,e,.inr (bz.of l),.inr (bz.of d)⟩
def b8:Stmt->List Stmt
 | .ClassDef _ _ _ a _ _ _ _ _ _ _=>a
 |_=>[]
theorem bT{H:Hp}{n:Nat}{x:V}{d d' b:DV}(h:HT H n x (.tup [d,d',b])):∃a u v w k,x=.ref a/\H a=some (.tup [u,v,w])/\HT H k u d/\HT H k v d'/\HT H k w b:=by
 cases h with
 | @tup k a c _ e l i=>
  obtain⟨u,v,w,rfl⟩:=ln3 l;calc⟨a,u,v,w,k,rfl,e,i 0 u d rfl rfl,i 1 v d' rfl rfl,i 2 w b rfl rfl⟩
theorem nO{H:Hp}{n:Nat}{x:V}{d d' b c:DV}(h:HT H n x (.tup [d,d',b,c])):∃a u v w z k,x=.ref a/\H a=some (.tup [u,v,w,z])/\HT H k u d/\HT H k v d'/\HT H k w b/\HT H k z c:=by
 cases h with
 | @tup k a f _ e l i=>
  obtain⟨u,v,w,z,rfl⟩:=ln4 l;calc⟨a,u,v,w,z,k,rfl,e,i 0 u d rfl rfl,i 1 v d' rfl rfl,i 2 w b rfl rfl,i 3 z c rfl rfl⟩
theorem me{H:Hp}{n:Nat}{a:Addr}{u v w:V}{d d' f:DV}(e:H a=some (.tup [u,v,w]))(h:HT H n u d)(h':HT H n v d')(g:HT H n w f):HT H (n+1) (.ref a) (.tup [d,d',f]):=by
 refine .tup e rfl λi x y b c=>?_
 match i,b,c with
 |0,b,c=>simp at b c;subst b c;calc h
 |1,b,c=>simp at b c;subst b c;calc h'
 |2,b,c=>simp at b c;subst b c;calc g
theorem Bg{n:Nat}{v:Val}(h:HT H n x v.dv):∃a xs,x=.ref a/\H a=some (.tup xs):=by
 cases v<;>(cases h;rename_i a xs e l i;calc⟨_,_,rfl,by assumption⟩)
end DD
set_option maxHeartbeats 400000
namespace L2
open PySem PySem.Spec PyProof.Rows
def Ue:R2:=λx y H Q=>match x,y with
 | .ref a,.int n=>∃v,H a=some (.lst [v])/\-1000<=n/\n<=1000/\∀p,H p=none->Q (.ref p) (upd H p (.lst (List.replicate n.toNat v)))
 |_,_=>False
theorem F2{α:Type}(n:Nat)(v:α):(List.replicate n [v]).flatten=List.replicate n v:=by
 induction n with
 |zero=>rfl
 |succ n a=>rw[List.replicate_succ,List.flatten_cons,a];rfl
theorem xA{v:V}{u:Value}(r:RelV v u):∀n:Nat,Vals (List.replicate n v) (List.replicate n u)
 |0=>.nil
 |n+1=>.cons r (xA r n)
section
variable {X:Cx}
theorem xB:gq X (binaryOp .Mult) Ue:=by
 intro g s σ H x y v u Q I i j h
 cases x<;>cases y<;>first
  |calc(show False from h).elim
  |skip
 rename_i a n;obtain⟨w,l,A,B,q⟩:=h;obtain rfl:v=Value.ref a:=i;obtain⟨c,rfl⟩:∃c,u=Value.int n c:=j;obtain⟨_,C,k,m,d⟩:=I.aO a _ l;obtain⟨f,rfl,p⟩:=m.one;have r:([f]:List Value).toArray.size*n.toNat<=1000:=by simp;lia
 refine wpAny_binaryOp_repeat_ref (T:="list") (U:="int") ∅ ⟨_,d,rfl⟩ (λt=>typeIs_int t n c) noFill_list_mul F.fills_int_mul F.slot_int_rmul repeat_list F.slot_int_index.lookup
  (call_meets F.slot_int_rmul (typeIs_int s n c) F.entry_int_rmul (F.args_int_rmul_2 _ _) (lm_int_rmul_list_any n c a ([f]:List Value).toArray k none #[])
   ⟨d,rfl,⟨_,d,rfl⟩,call_meets F.slot_list_mul ⟨_,d,rfl⟩ F.entry_list_mul (F.args_list_mul_2 _ _)
    (lm_list_mul_any a ([f]:List Value).toArray k none #[] n c (by simp[Builtin.List.listFitsIndex];lia) () (by simp[Builtin.List.listTooLong,sizeLine];lia))
    ⟨d,?_⟩⟩)
 rw[listMul_foldl_if,F2];have z:H s.heap.objs.size=none:=I.aO.fresh (P' _);calc⟨V.ref s.heap.objs.size,_,I.laid (o:=.lst (List.replicate n.toNat w)) (a:=s.heap.objs.size) (λb o e=>K' _ e) (P' _) (show _/\_ from⟨?_,_,0,xA p _,X' _ rfl⟩),rfl,q _ z⟩;rw[List.length_replicate,sizeLine_eq];lia
end
end L2
namespace L2
open PySem PySem.Spec PyProof.Rows Builtin.Str
end L2
namespace L2
open PySem PySem.Spec PyProof.Rows Builtin.Str
end L2
set_option maxHeartbeats 4000000
namespace L2
open PySem
section
variable {X:Cx}
def Zx(K:W.Frag):List V->Hp->VK->Prop:=λxs H Q=>∃(x:V) (C:Addr) (t:Value) (b:Bool),xs=[x,.ref C]/\gs K H x t/\W.kitOne K t (.ref C)=some b/\Q (.bl b) H
theorem F3{K:W.Frag}(c:X.K=K):fm X (.builtin "isinstance") (Zx K):=by
 subst c;intro a s σ H i j Q I r h;obtain⟨x,C,t,b,rfl,d,e,q⟩:=h;obtain⟨u,k,rfl,f,g⟩:=vals2 r
 cases g;calc ug I f d e λa=>⟨.bl b,H,I.tok _,rfl,q⟩
end
end L2
namespace L2
open PySem PySem.Spec PyProof.Rows
variable {e:Nat->Bool}
def Em(K:W.Frag)(H:Hp):Nat->V->V->Bool->Prop
 |0,_,_,_=>False
 | n + 1,x,y,b=>(∃a,x=.ref a/\y=.ref a/\b=true)\/(fM x=true/\fM y=true/\b=Eh x y)
  \/(∃a xs,fM x=true/\y=.ref a/\(bz K H a xs\/aP K H a xs)/\b=false)\/(∃a xs,fM y=true/\x=.ref a/\(bz K H a xs\/aP K H a xs)/\b=false)
  \/(∃a c xs d,x=.ref a/\y=.ref c/\((bz K H a xs/\aP K H c d)\/(aP K H a xs/\bz K H c d))/\b=false)
  \/∃a c xs d,∃e:Nat->Bool,x=.ref a/\y=.ref c/\a≠c/\((bz K H a xs/\bz K H c d)\/(aP K H a xs/\aP K H c d))
   /\(∀(i:Nat) u v,xs[i]?=some u->d[i]?=some v->Em K H n u v (e i))/\b=((List.range (min xs.length d.length)).all e&&(xs.length==d.length))
def Zy(K:W.Frag)(H:Hp)(n:Nat)(a c:Addr)(b:Bool):Prop:=∃xs d,∃e:Nat->Bool,((bz K H a xs/\bz K H c d)\/(aP K H a xs/\aP K H c d))
      /\(∀(i:Nat) u v,xs[i]?=some u->d[i]?=some v->Em K H n u v (e i))/\b=((List.range (min xs.length d.length)).all e&&(xs.length==d.length))
section
variable {X:Cx}
theorem F4{pins:List (Addr×Obj)}{σ:St}{H:Hp}{s:Shared}(I:Inv X pins σ H s){n:Nat}(L:∀(A:Around) {x y:V}{u v:Value}{b:Bool},Em X.K H n x y b->A.units+n<cLine->RelV x u->RelV y v->SeqAt.EqAt A s u v b)
  {A:Around} {a c:Addr} {b:Bool} (h:Zy X.K H n a c b) (f:A.units+n+1<cLine):SeqAt.RcAt A s (.ref a) (.ref c) b/\SeqAt.RcNeAt A s (.ref a) (.ref c) (!b):=by
 obtain⟨g,k,e,d,M,rfl⟩:=h;rcases d with⟨m,n⟩|⟨m,n⟩
 ·obtain⟨d,o,h,p⟩:=I.tuple m;obtain⟨f,q,l,w⟩:=I.tuple n;have N:=o.length;have O:=q.length;have b:∀j (m:j<d.toArray.size) (n:j<f.toArray.size),SeqAt.EqAt A.in1 s d.toArray[j] f.toArray[j] (e j):=λj y z=>by
   have B:j<d.length:=by simpa using y
   have C:j<f.length:=by simpa using z
   obtain⟨D,r,E⟩:=o.get (i:=j) (x:=g[j]'()) nofun;obtain⟨F,t,G⟩:=q.get (i:=j) (x:=k[j]'()) nofun;have H:d.toArray[j]=D:=by
    have:=cy B;rw[this]at r;simpa using Option.some.inj r
   have J:f.toArray[j]=F:=by
    have:=cy C;rw[this]at t;simpa using Option.some.inj t
   rw[H,J];exact L A.in1 (M j _ _ nofun nofun) (by rw[in1_units];lia) E G
  have u:=SeqAt.RcAt.tuples (A:=A) (show s.heap.IsTuple a d.toArray from h) (show s.heap.IsTuple c f.toArray from l) () b;have v:=SeqAt.RcNeAt.tuples (A:=A) (show s.heap.IsTuple a d.toArray from h) (show s.heap.IsTuple c f.toArray from l) () b;have p:d.toArray.size=g.length:=by simp;lia
  have w:f.toArray.size=k.length:=by simp;lia
  rw[p,w]at u v;exact⟨u,v⟩
 ·obtain⟨d,o,h,p⟩:=I.list m;obtain⟨f,q,l,w⟩:=I.list n;have N:=o.length;have O:=q.length;by_cases a:g.length=k.length
  ·have c:d.toArray.size=f.toArray.size:=by simp;lia
   have b:∀j (m:j<d.toArray.size) (n:j<f.toArray.size),SeqAt.EqAt A.in1 s d.toArray[j] f.toArray[j] (e j):=λj y z=>by
    have B:j<d.length:=by simpa using y
    have C:j<f.length:=by simpa using z
    obtain⟨D,r,E⟩:=o.get (i:=j) (x:=g[j]'()) nofun;obtain⟨F,t,G⟩:=q.get (i:=j) (x:=k[j]'()) nofun;have H:d.toArray[j]=D:=by
     have:=cy B;rw[this]at r;simpa using Option.some.inj r
    have J:f.toArray[j]=F:=by
     have:=cy C;rw[this]at t;simpa using Option.some.inj t
    rw[H,J];exact L A.in1 (M j _ _ nofun nofun) (by rw[in1_units];lia) E G
   have u:=SeqAt.RcAt.lists (A:=A) h.isList l.isList c () b;have v:=SeqAt.RcNeAt.lists (A:=A) h.isList l.isList c () b;have p:d.toArray.size=g.length:=by simp;lia
   have b:((List.range (min g.length k.length)).all e&&(g.length==k.length))=(List.range g.length).all e:=by rw[a];simp
   rw[p]at u v;rw[b];exact⟨u,v⟩
  ·have c:(d.toArray.size != f.toArray.size)=true:=by simp;lia
   have b:((List.range (min g.length k.length)).all e&&(g.length==k.length))=false:=by simp[a]
   rw[b];calc⟨SeqAt.RcAt.lists_lengths h.isList l.isList c (),SeqAt.RcNeAt.lists_lengths h.isList l.isList c ()⟩
theorem F5{pins:List (Addr×Obj)}{σ:St}{H:Hp}{s:Shared}(I:Inv X pins σ H s):∀(n:Nat) (A:Around) {x y:V}{u v:Value}{b:Bool},Em X.K H n x y b->A.units+n<cLine->RelV x u->RelV y v->SeqAt.EqAt A s u v b
 |0,_,_,_,_,_,_,h,_,_,_=>h.elim
 |n+1,A,x,y,u,v,b,h,r,k,l=>by
  rcases h with⟨a,rfl,rfl,rfl⟩|⟨f,g,rfl⟩|⟨a,p,f,rfl,i,rfl⟩|⟨a,p,f,rfl,i,rfl⟩|⟨a,c,p,q,rfl,rfl,i,rfl⟩|⟨a,c,p,q,e,rfl,rfl,w,i,z,B⟩
  ·cases k;cases l;exact SeqAt.EqAt.same _
  ·exact zi k l f g
  ·cases l;rcases i with i | i
   ·obtain⟨j,m,d,o⟩:=I.tuple i
    cases x<;>first|calc absurd (show false=true from f) T'|skip
    ·cases k;exact SeqAt.EqAt.none_tuple (show s.heap.IsTuple a j.toArray from d) ()
    ·cases k;exact SeqAt.EqAt.bool_tuple _ (show s.heap.IsTuple a j.toArray from d) ()
    ·obtain⟨t,rfl⟩:=k;exact SeqAt.EqAt.int_tuple _ _ (show s.heap.IsTuple a j.toArray from d) ()
    ·obtain⟨t,rfl⟩:=k;exact SeqAt.EqAt.str_tuple _ _ (show s.heap.IsTuple a j.toArray from d) ()
   ·obtain⟨j,m,d,o⟩:=I.list i
    cases x<;>first|calc absurd (show false=true from f) T'|skip
    ·cases k;exact SeqAt.EqAt.none_list d.isList ()
    ·cases k;exact SeqAt.EqAt.bool_list _ d.isList ()
    ·obtain⟨t,rfl⟩:=k;exact SeqAt.EqAt.int_list _ _ d.isList ()
    ·obtain⟨t,rfl⟩:=k;exact SeqAt.EqAt.str_list _ _ d.isList ()
  ·cases k;rcases i with i | i
   ·obtain⟨j,m,d,o⟩:=I.tuple i
    cases y<;>first|calc absurd (show false=true from f) T'|skip
    ·cases l;exact SeqAt.EqAt.tuple_none (show s.heap.IsTuple a j.toArray from d) ()
    ·cases l;exact SeqAt.EqAt.tuple_bool _ (show s.heap.IsTuple a j.toArray from d) ()
    ·obtain⟨t,rfl⟩:=l;exact SeqAt.EqAt.tuple_int _ _ (show s.heap.IsTuple a j.toArray from d) ()
    ·obtain⟨t,rfl⟩:=l;exact SeqAt.EqAt.tuple_str _ _ (show s.heap.IsTuple a j.toArray from d) ()
   ·obtain⟨j,m,d,o⟩:=I.list i
    cases y<;>first|calc absurd (show false=true from f) T'|skip
    ·cases l;exact SeqAt.EqAt.list_none d.isList ()
    ·cases l;exact SeqAt.EqAt.list_bool _ d.isList ()
    ·obtain⟨t,rfl⟩:=l;exact SeqAt.EqAt.list_int _ _ d.isList ()
    ·obtain⟨t,rfl⟩:=l;exact SeqAt.EqAt.list_str _ _ d.isList ()
  ·cases k
   cases l;rcases i with⟨f,g⟩|⟨f,g⟩
   ·obtain⟨j,m,d,o⟩:=I.tuple f;obtain⟨r,t,h,C⟩:=I.list g;exact SeqAt.EqAt.tuple_list (show s.heap.IsTuple a j.toArray from d) h.isList ()
   ·obtain⟨j,m,d,o⟩:=I.list f;obtain⟨r,t,h,C⟩:=I.tuple g;exact SeqAt.EqAt.list_tuple d.isList (show s.heap.IsTuple c r.toArray from h) ()
  ·cases k
   cases l;calc SeqAt.EqAt.of_refs w (F4 I (λA {x y u v b}=>F5 I n A) ⟨p,q,e,i,z,B⟩ ()).1
def Pb(K:W.Frag):R2:=λx y H Q=>∃a c b,x=.ref a/\y=.ref c/\Zy K H 19 a c b/\Q (.bl b) H
theorem Ks(i:X.A.units+64<cLine):gq X (compareOp .Eq) (Pb X.K):=by
 intro d s σ H x y v u Q I e f h;obtain⟨a,c,b,rfl,rfl,g,q⟩:=h
 cases e
 cases f;calc(F4 I (λA {x y u v b}=>F5 I 19 A) (A:=X.A) g ()).1 X.prog X.w X.xe _ ⟨.bl b,H,I,rfl,q⟩
end
inductive vL:DV->Prop
 |bC:vL .bC
 |int (i:Int):vL (.int i)
 |str (x:Str):vL (.str x)
 |tup {ds:List DV}:(∀e∈ds,vL e)->vL (.tup ds)
 |lst {ds:List DV}:(∀e∈ds,vL e)->vL (.lst ds)
theorem Em.mono{K:W.Frag}{H:Hp}:∀{n:Nat}{x y:V}{b:Bool},Em K H n x y b->∀{m:Nat},n<=m->Em K H m x y b
 |0,_,_,_,h,_,_=>h.elim
 |n+1,x,y,b,h,m,a=>by
  obtain⟨k,rfl⟩:∃k,m=k+1:=⟨m-1,()⟩
  rcases h with h|h|h|h|h|⟨a,c,b,d,e,f,g,j,k,l,m⟩
  ·exact .inl h
  ·exact .inr (.inl h)
  ·exact .inr (.inr (.inl h))
  ·exact .inr (.inr (.inr (.inl h)))
  ·exact .inr (.inr (.inr (.inr (.inl h))))
  ·calc .inr (.inr (.inr (.inr (.inr ⟨a,c,b,d,e,f,g,j,k,λi u v p q=>(l i u v p q).mono (),m⟩))))
theorem Kt{H:Hp}{n:Nat}{x:V}{d:DV}(h:HD H n x d):∀{m:Nat}{d':DV},HD H m x d'->d=d':=by
 induction h with
 |bC=>intro m d' h;cases h;rfl
 |bl b=>intro m d' h;cases h;rfl
 |int i=>intro m d' h;cases h;rfl
 |str x=>intro m d' h;cases h;rfl
 | @tup n a f g e l i k=>
  intro m d' h
  cases h with
  | @tup m _ q o c r p=>
   rw[e]at c
   cases c;congr 1;apply List.ext_getElem ();intro j s t;have u:j<f.length:=by lia
   calc k j f[j] g[j] nofun nofun (p j f[j] o[j] nofun nofun)
  |lst c=>rw[e]at c;cases c
  |dict c=>rw[e]at c;cases c
 | @lst n a f g e l i k=>
  intro m d' h
  cases h with
  | @lst m _ q o c r p=>
   rw[e]at c
   cases c;congr 1;apply List.ext_getElem ();intro j s t;have u:j<f.length:=by lia
   calc k j f[j] g[j] nofun nofun (p j f[j] o[j] nofun nofun)
  |tup c=>rw[e]at c;cases c
  |dict c=>rw[e]at c;cases c
 |dict e=>
  intro m d' h
  cases h with
  |tup c=>rw[e]at c;cases c
  |lst c=>rw[e]at c;cases c
  |dict _=>rfl
theorem all_eq{a b:List DV}(f:∀(i:Nat) u v,a[i]?=some u->b[i]?=some v->e i=true->u=v)(h:((List.range (min a.length b.length)).all e&&(a.length==b.length))=true):a=b:=by
 rw[Bool.and_eq_true]at h;obtain⟨d,c⟩:=h;have c:a.length=b.length:=by simpa using c
 apply List.ext_getElem c;intro j a b;calc f j _ _ nofun nofun ?_;rw[List.all_eq_true]at d;calc d j (by simp;lia)
theorem Dg{a:List DV}(b:∀i,i<a.length->e i=true):((List.range (min a.length a.length)).all e&&(a.length==a.length))=true:=by
 simp;calc b
theorem lI{K:W.Frag}{H:Hp}{n m:Nat}{x y:V}{d d':DV}(h:HD H 0 x d)(h':HD H m y d')(a:vL d)(c:vL d')(f:fM x=true):∃b,Em K H (n+1) x y b/\(b=true↔d=d'):=by
 cases h<;>cases h'<;>first
  |(calc⟨_,.inr (.inl ⟨rfl,rfl,rfl⟩),?_⟩;simp[Eh];done)
  |(rename_i e _ _;calc⟨false,.inr (.inr (.inl ⟨_,_,rfl,rfl,.inl (bz.of e),rfl⟩)),nofun⟩)
  |(rename_i e _ _;calc⟨false,.inr (.inr (.inl ⟨_,_,rfl,rfl,.inr (aP.of e),rfl⟩)),nofun⟩)
  |(exfalso;cases a;done)
  |(exfalso;cases c;done)
theorem vM{K:W.Frag}{H:Hp}:∀(n:Nat) {x y:V}{d d':DV}{m:Nat},HD H n x d->HD H m y d'->vL d->vL d'->∃b,Em K H (n+1) x y b/\(b=true↔d=d'):=by
 have A:∀{k m:Nat} {g s:List V} {t w:List DV},(∀{x y:V} {d d':DV} {m:Nat},HD H k x d->HD H m y d'->vL d->vL d'->∃b,Em K H (k + 1) x y b/\(b=true↔d=d'))->g.length=t.length->s.length=w.length->
   (∀(i:Nat) u e,g[i]?=some u->t[i]?=some e->HD H k u e)->(∀(i:Nat) u e,s[i]?=some u->w[i]?=some e->HD H m u e)->(∀e∈t,vL e)->(∀e∈w,vL e)->
   ∃e:Nat->Bool,(∀(i:Nat) u v,g[i]?=some u->s[i]?=some v->Em K H (k+1) u v (e i))/\(((List.range (min g.length s.length)).all e&&(g.length==s.length))=true↔t=w):=by
  intro k m g s t w G l C i D o r;have F:∀j:Nat,∃b:Bool,(∀u v,g[j]?=some u->s[j]?=some v->Em K H (k+1) u v b)/\(∀u v,t[j]?=some u->w[j]?=some v->(b=true↔u=v)):=by
   intro j;by_cases I:j<g.length/\j<s.length
   ·obtain⟨Q,R⟩:=I;have O:j < t.length:=by lia
    have P:j<w.length:=by lia
    obtain⟨b,S,T⟩:=G (i j g[j] t[j] nofun nofun) (D j s[j] w[j] nofun nofun) (o _ (aae O)) (r _ (aae P));refine⟨b,λu v p q=>?_,λu v p q=>?_⟩
    ·rw[cy Q]at p;rw[cy R]at q;cases p;cases q;exact S
    ·rw[cy O]at p;rw[cy P]at q;cases p;cases q;exact T
   ·refine⟨true,λu v p q=>?_,λu v p q=>?_⟩
    ·exact absurd ⟨(List.getElem?_eq_some_iff.mp p).1,(List.getElem?_eq_some_iff.mp q).1⟩ I
    ·exact absurd ⟨by rw[l];calc(List.getElem?_eq_some_iff.mp p).1,by rw[C];calc(List.getElem?_eq_some_iff.mp q).1⟩ I
  obtain⟨e,J⟩:=Classical.axiomOfChoice F;refine⟨e,λi u v p q=>(J i).1 u v p q,λh=>?_,λh=>?_⟩
  ·rw[l,C]at h;exact all_eq (λi u v p q=>((J i).2 u v p q).mp) h
  ·subst h;rw[l,C];calc Dg λi b=>?_;exact((J i).2 t[i] t[i] nofun nofun).mpr rfl
 intro n;induction n with
 |zero=>
  intro x y d d' m h B o r
  cases h with
  |bC=>calc lI .bC B o r rfl
  |int j=>calc lI (.int j) B o r rfl
  |str j=>calc lI (.str j) B o r rfl
  |bl _=>cases o
  |dict _=>cases o
 |succ n G=>
  intro x y d d' m h B o r;by_cases L:∃a,x=.ref a/\y=.ref a
  ·obtain⟨a,rfl,rfl⟩:=L;exact⟨true,.inl ⟨a,rfl,rfl,rfl⟩,by simp[Kt h B]⟩
  cases h with
  | @tup _ a g t e l i=>
   cases o with
   |tup o=>
   cases B with
   | @tup m c s w E C D=>
    cases r with
    |tup r=>
    obtain⟨f,M,N⟩:=A G l C i D o r;calc⟨_,.inr (.inr (.inr (.inr (.inr ⟨a,c,g,s,f,rfl,rfl,λz=>L ⟨a,rfl,by rw[z]⟩,.inl ⟨bz.of e,bz.of E⟩,M,rfl⟩)))),N.trans nofun⟩
   | @lst m c s w E C D=>calc⟨false,.inr (.inr (.inr (.inr (.inl ⟨a,c,g,s,rfl,rfl,.inl ⟨bz.of e,aP.of E⟩,rfl⟩)))),nofun⟩
   |dict _=>cases r
   |bl _=>cases r
   |bC=>calc⟨false,.inr (.inr (.inr (.inl ⟨a,g,rfl,rfl,.inl (bz.of e),rfl⟩))),nofun⟩
   |int j=>calc⟨false,.inr (.inr (.inr (.inl ⟨a,g,rfl,rfl,.inl (bz.of e),rfl⟩))),nofun⟩
   |str j=>calc⟨false,.inr (.inr (.inr (.inl ⟨a,g,rfl,rfl,.inl (bz.of e),rfl⟩))),nofun⟩
  | @lst _ a g t e l i=>
   cases o with
   |lst o=>
   cases B with
   | @lst m c s w E C D=>
    cases r with
    |lst r=>
    obtain⟨f,M,N⟩:=A G l C i D o r;calc⟨_,.inr (.inr (.inr (.inr (.inr ⟨a,c,g,s,f,rfl,rfl,λz=>L ⟨a,rfl,by rw[z]⟩,.inr ⟨aP.of e,aP.of E⟩,M,rfl⟩)))),N.trans nofun⟩
   | @tup m c s w E C D=>calc⟨false,.inr (.inr (.inr (.inr (.inl ⟨a,c,g,s,rfl,rfl,.inr ⟨aP.of e,bz.of E⟩,rfl⟩)))),nofun⟩
   |dict _=>cases r
   |bl _=>cases r
   |bC=>calc⟨false,.inr (.inr (.inr (.inl ⟨a,g,rfl,rfl,.inr (aP.of e),rfl⟩))),nofun⟩
   |int j=>calc⟨false,.inr (.inr (.inr (.inl ⟨a,g,rfl,rfl,.inr (aP.of e),rfl⟩))),nofun⟩
   |str j=>calc⟨false,.inr (.inr (.inr (.inl ⟨a,g,rfl,rfl,.inr (aP.of e),rfl⟩))),nofun⟩
  |dict _=>cases o
  |bl _=>cases o
  |bC=>calc(lI (n:=n+1) .bC B o r rfl)
  |int j=>calc(lI (n:=n+1) (.int j) B o r rfl)
  |str j=>calc(lI (n:=n+1) (.str j) B o r rfl)
end L2
namespace L2
open PySem
variable {H:Hp}{σ:St}
theorem cG{t u:TS}{D:Ends}(h:∀N:St->Hp->Prop,N=u D->t {D with nx:=N} σ H):yT t u D σ H:=h _ rfl
theorem qN{c:TT}{t u:TS}{D:Ends}(h:∀T U:St->Hp->Prop,T=t D->U=u D->c σ H λb a=>if b=true then T σ a else U σ a):vh c t u D σ H:=h _ _ rfl rfl
theorem Pc{i:Nat}{v:V}{Q:St->Hp->Prop}(h:Q (σ.set i (some v)) H):fL i v σ H Q:=h
theorem cH{N M:St->Hp->Prop}(e:N=M)(h:M σ H):N σ H:=e▸h
end L2
namespace DD
open PySem L2
variable {x:Addr}{Z:Addr->Prop}{H H':Hp}{vs:List V}
structure MD where
 M:Int
 ns:List Int
 row:List Int
 ds:List bf
structure Good(M:Int)(ns row:List Int)(ds:List bf):Prop where
 m2:2<=M
 ZC:M<=1000000000000
 l1:1<=ns.length
 l4:ns.length<=4
 r12:row.length<=12
 bn:∀z∈ns,0<=z/\z<M
 br:∀z∈row,0<=z/\z<M
 XU:ds.length<=24
 ok:∀d∈ds,d.ok ns.length
abbrev MD.good(d:MD):Prop:=Good d.M d.ns d.row d.ds
instance:Inhabited MD:=⟨⟨0,[],[],[]⟩⟩
noncomputable def iq (Z:Addr->Prop) (H:Hp):Hp:=λx=> @ite _ (Z x) (Classical.propDecidable _) (some (.own 0)) (H x)
theorem fE(h:¬Z x):iq Z H x=H x:=by unfold iq;rw[if_neg h]
theorem zF(h:Z x):iq Z H x=some (.own 0):=by unfold iq;rw[if_pos h]
theorem de{o:HO}(h:iq Z H x=some o)(b:∀k,o≠.own k):¬Z x/\H x=some o:=by
 by_cases a:Z x
 ·rw[zF a]at h;cases h;exact absurd rfl (b 0)
 ·rw[fE a]at h;calc⟨a,h⟩
theorem Ku{o:HO}(h:Z x):iq Z (upd H x o)=iq Z H:=by
 funext b;by_cases a:Z b
 ·rw[zF a,zF a]
 ·rw[fE a,fE a,av (λe:b=x=>a (e▸h))]
def Cv(H H':Hp):Prop:=∀b o,H b=some o->(∀k,o≠.own k)->H' b=some o
theorem _root_.L2.aq.cv(s:aq H H'):Cv H H':=λb o e _=>s b o e
def soft:HO->Prop
 | .lst _=>True
 | .dK _=>True
 |_=>False
def Fr(Z:Addr->Prop)(H H':Hp):Prop:=∀b o,H b=some o->(Z b->¬soft o)->H' b=some o
theorem Fr.refl:Fr Z H H:=λ_ _ e _=>e
theorem Fr.trans{c d:Hp}(a:Fr Z H c)(b:Fr Z c d):Fr Z H d:=λc o e n=>b c o (a c o e n) n
theorem _root_.L2.aq.fr(s:aq H H'):Fr Z H H':=λb o e _=>s b o e
theorem Fr.at(a:Fr Z H H'){b:Addr}{o:HO}(e:H b=some o)(h:¬Z b):H' b=some o:=a b o e λz=>absurd z h
theorem Fr.lM(a:Fr Z H H'){b:Addr}{o:HO}(e:H b=some o)(h:¬soft o):H' b=some o:=a b o e λ_=>h
theorem Fr.upd{b:Hp}(a:Fr Z H b){x:Addr}{o u:HO}(h:Z x)(f:b x=some u)(g:soft u):Fr Z H (upd b x o):=λc v e n=>by
 by_cases z:c=x
 ·subst z;have d:=a c v e n;rw[f] at d
  cases d;exact absurd g (n h)
 ·rw[av z];calc a c v e n
theorem Fr.mono{c:Addr->Prop}{d:Hp}(a:Fr Z H d)(h:∀b,Z b->c b):Fr c H d:=λc o e n=>a c o e λz=>n (h c z)
theorem Fr.aM(h:Fr Z H H'):cj H H':=λb a e=>h b _ e λ_=>id
theorem Fr.iq(h:Fr Z H H'):Cv (iq Z H) (iq Z H'):=λb o e n=>by
 obtain⟨a,b⟩:=de e n;rw[fE a];calc h.at b a
theorem dJ:Cv (iq Z H) H:=λb o e n=>(de e n).2
theorem Cv.aM(h:Cv H H'):cj H H':=λb a e=>h b _ e (λk z=>by cases z)
theorem _root_.L2.HD.cv{H H':Hp}(s:Cv H H'){n:Nat}{x:V}{d:DV}(h:HD H n x d):HD H' n x d:=by
 induction h with
 |bC=>calc .bC
 |bl b=>calc .bl b
 |int i=>calc .int i
 |str x=>calc .str x
 |tup e l i a=>calc .tup (s _ _ e (λk z=>by cases z)) l a
 |lst e l i a=>calc .lst (s _ _ e (λk z=>by cases z)) l a
 |dict e=>calc .dict (s _ _ e (λk z=>by cases z))
def eJ(H:Hp)(n:Nat)(vs:List V)(a:List DV):Prop:=vs.length=a.length/\∀(i:Nat) v d,vs[i]?=some v->a[i]?=some d->HD H n v d
theorem eJ.cv(s:Cv H H'){n:Nat}{vs:List V}{a:List DV}(h:eJ H n vs a):eJ H' n vs a:=⟨h.1,λi v d a b=>(h.2 i v d a b).cv s⟩
theorem eJ.nil{n:Nat}:eJ H n [] []:=⟨rfl,λi v d a=>by simp at a⟩
theorem eJ.mono{n m:Nat}{a:List DV}(h:eJ H n vs a)(c:n<=m):eJ H m vs a:=⟨h.1,λi v d a b=>(h.2 i v d a b).mono c⟩
theorem eJ.app{n:Nat}{us:List V}{a es:List DV}(h:eJ H n vs a)(g:eJ H n us es):eJ H n (vs++us) (a++es):=by
 calc⟨by simp[h.1,g.1],λi v d a b=>?_⟩;by_cases c:i<vs.length
 ·rw[List.getElem?_append_left c]at a;rw[List.getElem?_append_left (by rw[<-h.1];calc c)]at b;exact h.2 i _ _ a b
 ·rw[List.getElem?_append_right ()]at a;rw[List.getElem?_append_right (by rw[<-h.1];lia),<-h.1]at b;calc g.2 _ _ _ a b
theorem eJ.one{H:Hp}{n:Nat}{v:V}{d:DV}(h:HD H n v d):eJ H n [v] [d]:=by
 refine⟨rfl,λi u e a b=>?_⟩
 cases i with
 |zero=>simp at a b;subst a b;calc h
 |succ i=>simp at a
theorem eJ.set{n:Nat}{c:List DV}{v:V}{d:DV}(h:eJ H n vs c)(g:HD H n v d)(k:Nat):eJ H n (vs.set k v) (c.set k d):=by
 calc⟨by simp[h.1],λi u e a b=>?_⟩;rw[List.getElem?_set]at a b;by_cases f:k=i
 ·rw[if_pos f] at a b;split at a
  ·rw[if_pos (by rw[<-h.1];assumption)]at b;cases a;cases b;exact g
  ·cases a
 ·rw[if_neg f]at a b;calc h.2 i u e a b
theorem eJ.ints{H:Hp}{n:Nat}(c:List Int):eJ H n (c.map V.int) (c.map DV.int):=by
 calc⟨nofun,λi v d a b=>?_⟩;rw[List.getElem?_map]at a b
 cases e:c[i]? with
 |none=>rw[e]at a;cases a
 |some z=>rw[e]at a b;cases a;cases b;calc .int z
theorem eJ.rO{n:Nat}{a:List Int}(h:eJ H n vs (a.map DV.int)):vs=a.map V.int:=by
 apply List.ext_getElem (by simpa using h.1);intro j d b;have c:j<a.length:=by simpa using b
 have:=h.2 j vs[j] (.int a[j]) nofun (by simp[c]);simp only[List.getElem_map];generalize vs[j]=y at this
 cases this;rfl
theorem eJ.get{n:Nat}{a:List DV}(h:eJ H n vs a){i:Nat}{d:DV}(e:a[i]?=some d):∃v,vs[i]?=some v/\HD H n v d:=by
 have b:i<a.length:=(List.getElem?_eq_some_iff.mp e).1;have a:i<vs.length:=by rw[h.1];exact b
 calc⟨vs[i],nofun,h.2 i _ _ nofun e⟩
inductive CO where
 |l (ds:List DV)|d (g:Int->Option DV) (n:Nat)
def OR(H:Hp):CO->HO->Prop
 | .l a,.lst vs=>eJ H 4 vs a
 | .d g n,.dK kvs=>kvs.length<=n/\∀k:Int,match g k with
  |none=>dW kvs (Sum.inl k)=none
  |some d=>∃v,dW kvs (Sum.inl k)=some v/\HD H 4 v d
 |_,_=>False
theorem OR.cv{H H':Hp}(s:Cv H H'){c:CO}{o:HO}(h:OR H c o):OR H' c o:=by
 cases c with
 |l a=>
  cases o with
  |lst vs=>calc eJ.cv s h
  |_=>calc aaq h
 |d g n=>
  cases o with
  |dK a=>
   calc⟨h.1,λk=>?_⟩;have:=h.2 k;revert this
   cases g k with
   |none=>calc id
   |some d=>calc λ⟨v,e,a⟩=>⟨v,e,a.cv s⟩
  |_=>calc aaq h
def FP(n:Nat->Nat)(ad:Nat->Nat->Addr)(b:Addr):Prop:=∃t i,i<n t/\b=ad t i
structure dz(F:Addr->Prop)(H:Hp)(n:Nat->Nat)(ad:Nat->Nat->Addr)(ct:Nat->Nat->CO):Prop where
 inj:∀t i t' i',i<n t->i'<n t'->ad t i=ad t' i'->t=t'/\i=i'
 out:∀t i,i<n t->¬F (ad t i)
 IX:∀t i,i<n t->∃o,H (ad t i)=some o/\OR (iq (λb=>F b\/FP n ad b) H) (ct t i) o
def setC(ct:Nat->Nat->CO)(t i:Nat)(c:CO):Nat->Nat->CO:=λt' a=>if t'=t/\a=i then c else ct t' a
section
variable {F:Addr->Prop}{H H':Hp}{n:Nat->Nat}{ad:Nat->Nat->Addr}{ct ct':Nat->Nat->CO}
theorem dz.keep(h:dz F H n ad ct)(a:Fr F H H'):dz F H' n ad ct:=
 ⟨h.inj,h.out,λt i c=>by
  obtain⟨o,e,r⟩:=h.IX t i c;calc⟨o,a.at e (h.out t i c),r.cv (a.mono λb z=>.inl z).iq⟩⟩
theorem dz.same(h:dz F H n ad ct)(s:aq H H'):dz F H' n ad ct:=h.keep s.fr
theorem dz.congr(h:dz F H n ad ct)(e:∀t i,i<n t->ct t i=ct' t i):dz F H n ad ct':=
 ⟨h.inj,h.out,λt i a=>by rw[<-e t i a];calc h.IX t i a⟩
theorem dz.upd(h:dz F H n ad ct){t i:Nat}(a:i<n t){c:CO}{o:HO}(r:OR (iq (λb=>F b\/FP n ad b) H) c o):dz F (upd H (ad t i) o) n ad (setC ct t i c):=by
 have c:(λb=>F b\/FP n ad b) (ad t i):=.inr ⟨t,i,a,rfl⟩;calc⟨h.inj,h.out,λd f g=>?_⟩;rw[Ku c];by_cases e:d=t/\f=i
 ·obtain⟨rfl,rfl⟩:=e;exact⟨o,ab,by unfold setC;rw[if_pos ⟨rfl,rfl⟩];calc r⟩
 ·obtain⟨b,c,i⟩:=h.IX d f g;calc⟨b,?_,by unfold setC;rw[if_neg e];calc i⟩;rw[av (λz=>e (h.inj _ _ _ _ g a z))];calc c
theorem dz.lst(h:dz F H n ad ct){t i:Nat}(c:i<n t){a:List DV}(e:ct t i=.l a):∃vs,H (ad t i)=some (.lst vs)/\eJ (iq (λb=>F b\/FP n ad b) H) 4 vs a:=by
 obtain⟨o,d,r⟩:=h.IX t i c;rw[e]at r
 cases o with
 |lst vs=>calc⟨vs,d,r⟩
 |_=>calc r.elim
theorem dz.ZD(h:dz F H n ad ct){t i:Nat}(a:i<n t){g:Int->Option DV}{N:Nat}(e:ct t i=.d g N):∃kvs,H (ad t i)=some (.dK kvs)/\OR (iq (λb=>F b\/FP n ad b) H) (.d g N) (.dK kvs):=by
 obtain⟨o,c,r⟩:=h.IX t i a;rw[e]at r
 cases o with
 |dK vs=>calc⟨vs,c,r⟩
 |_=>calc r.elim
theorem dz.app(h:dz F H n ad ct){t i:Nat}(a:i<n t){c:List DV}(e:ct t i=.l c){vs:List V}(f:H (ad t i)=some (.lst vs)){us:List V}{es:List DV}(g:eJ (iq (λb=>F b\/FP n ad b) H) 4 us es):
  dz F (L2.upd H (ad t i) (.lst (vs++us))) n ad (setC ct t i (.l (c++es))):=by
 obtain⟨b,d,r⟩:=h.lst a e;rw[f]at d
 cases d;calc h.upd a (show eJ _ 4 _ _ from r.app g)
theorem dz.set(h:dz F H n ad ct){t i:Nat}(a:i<n t){c:List DV}(e:ct t i=.l c){vs:List V}(j:H (ad t i)=some (.lst vs)){k:Nat}{v:V}{d:DV}(g:HD (iq (λb=>F b\/FP n ad b) H) 4 v d):
  dz F (L2.upd H (ad t i) (.lst (vs.set k v))) n ad (setC ct t i (.l (c.set k d))):=by
 obtain⟨b,f,r⟩:=h.lst a e;rw[j]at f
 cases f;calc h.upd a (show eJ _ 4 _ _ from r.set g k)
theorem OR.soft{c:CO}{o:HO}(h:OR H c o):soft o:=by
 cases c<;>cases o<;>first|trivial|calc aaq h
theorem dz.soft(h:dz F H n ad ct){t i:Nat}(a:i<n t):∃o,H (ad t i)=some o/\DD.soft o:=by
 obtain⟨o,e,r⟩:=h.IX t i a;calc⟨o,e,r.soft⟩
theorem dz.fp(h:dz F H n ad ct){b:Addr}(a:FP n ad b):∃o,H b=some o/\DD.soft o:=by
 obtain⟨t,i,c,rfl⟩:=a;calc h.soft c
theorem dz.ne(h:dz F H n ad ct){b:Addr}{o:HO}(e:H b=some o)(c:¬DD.soft o):¬FP n ad b:=λz=>by
 obtain⟨u,a,d⟩:=h.fp z;rw[e]at a;cases a;calc c d
theorem dz.ht(h:dz F H n ad ct)(c:∀b,F b->∃o,H b=some o/\DD.soft o){m:Nat}{x:V}{d:DV}(g:HT H m x d):HD (DD.iq (λb=>F b\/FP n ad b) H) m x d:=by
 calc HT.hd (g.aG λb d e=>?_);rw[fE]
 ·exact e
 ·rintro(z | z)
  ·obtain⟨o,a,f⟩:=c b z;rw[e]at a;cases a;exact f
  ·calc h.ne e id z
end
end DD
namespace DD
open PySem L2
variable {B i:Nat}
def _root_.List.bE{α:Type}(l:List α)(d:α):α:=l.getD (l.length-1) d
theorem getD_at{α:Type}{l:List α}{x d:α}(h:l[i]?=some x):l.getD i d=x:=by rw[List.getD_eq_getElem?_getD,h];rfl
theorem aY{α:Type}{l:List α}{d:α}(h:i<l.length):l[i]?=some (l.getD i d):=by rw[List.getD_eq_getElem?_getD,cy h];rfl
theorem getD_mem{α:Type}{l:List α}{d:α}(h:i<l.length):l.getD i d∈l:=aad (aY h)
theorem rP{α:Type}{l:List α}{x d:α}:(l++[x]).bE d=x:=by
 unfold List.bE;calc getD_at nofun
theorem gK{α:Type}{l:List α}{d:α}(h:1<=l.length):l.bE d∈l:=getD_mem ()
theorem nQ{α:Type}{l:List α}{d:α}(h:1<=l.length):l[l.length-1]?=some (l.bE d):=aY ()
structure MS where
 fN:List (List Int×List Int)
 wp:List (List Int)
 hr:List (List Int)
structure WY where
 say:List Int
 snd:List (Option (Int×Int))
 eC:List (Option (Int×Int))
structure RS where
 picks:List (Int×Int)
 mm:Nat->MS
 ww:Nat->WY
structure NT where
 ms:List MD
 ws:List (Int×Int×Str)
def pairD(p:Int×Int):DV:=.tup [.int p.1,.int p.2]
def ni:Option (Int×Int)->DV
 |none=>.bC
 |some p=>pairD p
def rQ(s:List Int×List Int):DV:=xt s.1 s.2
def NT.M(n:NT)(m:Nat):Int:=(n.ms.getD m default).M
def NT.nn(n:NT)(m:Nat):Nat:=(n.ms.getD m default).ns.length
def NT.ds(n:NT)(m:Nat):List bf:=(n.ms.getD m default).ds
def NT.w(n:NT)(w:Nat):Int×Int×Str:=n.ws.getD w (0,0,"")
def NT.outs(n:NT)(m:Int):List Nat:=(List.range n.ws.length).filter λi=>decide ((n.w i).1=m)
def NT.ins(n:NT)(m:Int):List Nat:=(List.range n.ws.length).filter λi=>decide ((n.w i).2.1=m)
def NT.goal(n:NT)(w:Nat):Nat:=(n.w w).2.1.toNat
def NT.place(n:NT)(w:Nat):Nat:=(n.ins (n.w w).2.1).idxOf w
def RS.put(r:RS)(w:Nat)(x:Int)(s:Option (Int×Int)):RS:=
 {r with ww:=λk=>if k=w then⟨(r.ww w).say++[x],(r.ww w).snd++[s],(r.ww w).eC++[none]⟩ else r.ww k}
def RS.send(r:RS)(outs:List Nat)(ev:Int×Int):List (Int×Int)->RS
 | []=>r
 |p::a=>(if p.1.toNat<outs.length then r.put (outs.getD p.1.toNat 0) p.2 (some ev) else r).send outs ev a
def NT.work(n:NT)(r:RS)(w k:Nat):WS:=
 nN (n.M (n.goal w)) (n.place w) ((r.ww w).say.getD k 0) (n.ds (n.goal w)) ((r.mm (n.goal w)).fN.bE ([],[])).1 ((r.mm (n.goal w)).fN.bE ([],[])).2
def NT.ev(n:NT)(r:RS)(w:Nat):Int×Int:=((n.goal w:Nat),((r.mm (n.goal w)).fN.length:Nat))
def NT.gH(n:NT)(r:RS)(w k:Nat):List Int:=
 let m:=n.goal w
 let a:=(r.mm m).hr.bE (List.replicate n.ms.length 0)
 let b:=match (r.ww w).snd.getD k none with
  |none=>a
  |some (s,c)=>List.zipWith max a ((r.mm s.toNat).hr.getD (c-1).toNat [])
 b.set m (n.ev r w).2
def RS.step(n:NT)(r:RS)(w k:Nat):RS:=
 let m:=n.goal w
 let res:=n.work r w k
 {picks:=r.picks++[((w:Int),(k:Int))]
  mm:=λi=>if i=m then⟨(r.mm m).fN++[(res.ns,res.row)],(r.mm m).wp++[(r.mm m).wp.bE []++res.words],(r.mm m).hr++[n.gH r w k]⟩ else r.mm i
  ww:=λi=>if i=w then {(r.ww w) with eC:=(r.ww w).eC.set k (some (n.ev r w))} else r.ww i}
def RS.pick(n:NT)(r:RS)(w k:Nat):RS:=(r.step n w k).send (n.outs (n.goal w)) (n.ev r w) (n.work r w k).cA
def RS.nR(r:RS):List (Int×Int)->RS
 | []=>r
 |p::a=>(r.put p.1.toNat p.2 none).nR a
def RS.new(n:NT):RS:=⟨[],λm=>⟨[((n.ms.getD m default).ns,(n.ms.getD m default).row)],[[]],[]⟩,λ_=>⟨[],[],[]⟩⟩
def RS.begin(n:NT)(a:List (Int×Int)):RS:=(RS.new n).nR a
def jC(l:List (Option (Int×Int)))(k:Int):Option DV:=if 0<=k then(l.getD k.toNat none).map pairD else none
def RS.ct(r:RS):Nat->Nat->CO
 |0,_=>.l (r.picks.map pairD)
 |1,m=>.l ((r.mm m).fN.map rQ)
 |2,m=>.l ((r.mm m).wp.map λw=>.int (w.length:Nat))
 |3,m=>.l (((r.mm m).wp.bE []).map .int)
 |4,w=>.l ((r.ww w).say.map .int)
 |5,w=>.l ((r.ww w).snd.map ni)
 |_,w=>.l ((r.ww w).eC.map ni)
def NT.n(n:NT):Nat->Nat
 |0=>1
 |1=>n.ms.length
 |2=>n.ms.length
 |3=>n.ms.length
 |4=>n.ws.length
 |5=>n.ws.length
 |6=>n.ws.length
 |_=>0
structure NT.Ok(n:NT):Prop where
 Kv:n.ms.length<=5
 ms1:1<=n.ms.length
 F6:n.ws.length<=10
 good:∀d∈n.ms,d.good
 Ug:∀w∈n.ws,0<=w.1/\w.1<n.ms.length/\0<=w.2.1/\w.2.1<n.ms.length/\(w.2.2="row"\/w.2.2="heap")
structure Kw(M:Int)(nn:Nat)(s:List Int×List Int):Prop where
 ln:s.1.length=nn
 bn:∀z∈s.1,0<=z/\z<M
 lr:s.2.length<=12
structure RS.Ok(n:NT)(r:RS):Prop where
 lw:∀m,m<n.ms.length->(r.mm m).fN.length=(r.mm m).wp.length
 lh:∀m,m<n.ms.length->(r.mm m).fN.length=(r.mm m).hr.length+1
 so:∀m,m<n.ms.length->∀s∈(r.mm m).fN,Kw (n.M m) (n.nn m) s
 hl:∀m,m<n.ms.length->∀h∈(r.mm m).hr,h.length=n.ms.length
 ls:∀w,w<n.ws.length->(r.ww w).say.length=(r.ww w).snd.length
 lk:∀w,w<n.ws.length->(r.ww w).say.length=(r.ww w).eC.length
 sd:∀w,w<n.ws.length->∀s c,some (s,c)∈(r.ww w).snd->0<=s/\s<n.ms.length/\1<=c/\c<=(r.mm s.toNat).hr.length
 bp:∀m,m<n.ms.length->(r.mm m).fN.length<=r.picks.length+1
 bw:∀m,m<n.ms.length->∀w∈(r.mm m).wp,w.length<=24*r.picks.length
 bs:∀w,w<n.ws.length->(r.ww w).say.length<=20+24*r.picks.length
 Uh:∀m,m<n.ms.length->∀u∈(r.mm m).wp,u <+:(r.mm m).wp.bE []
theorem xC{M way said:Int}{n:Int}:∀(f:Nat) (b:List bf) (s:WS),(∀d∈b,d.ok n)->(∀p∈s.cA,0<=p.1)->∀p∈(xu M way said f b s).cA,0<=p.1
 |0,_,s,_,h=>h
 |f+1,[],s,_,h=>h
 |f+1,d::r,s,c,h=>by
  calc xC f _ _ (λe b=>c e (aac _ (List.mem_of_mem_drop b))) ?_;intro p a;have a:p∈s.cA++gN ((d.vals.map (fB M way said s.ns s.row)).getD 0 0) d:=a;rcases List.mem_append.mp a with a|a
  ·exact h p a
  ·have g:=c d (aag ..)
   cases d with
   |send j v=>
    simp only[gN,List.mem_singleton]at a;subst a;calc g.1
   |_=>simp only[gN,List.not_mem_nil]at a
theorem Bh{M way said:Int}:∀(f:Nat) (a:List bf) (s:WS),(xu M way said f a s).cA.length<=s.cA.length+a.length/\(xu M way said f a s).words.length<=s.words.length+a.length/\(xu M way said f a s).ns.length=s.ns.length
 |0,_,s=>⟨Nat.le_add_right ..,Nat.le_add_right ..,rfl⟩
 |f+1,[],s=>⟨P' _,P' _,rfl⟩
 |f+1,d::r,s=>by
  obtain⟨a,b,c⟩:=Bh (M:=M) (way:=way) (said:=said) f (r.drop (lU M way said d s).toNat) (fC M way said d s);have a:(fC M way said d s).cA.length<=s.cA.length+1:=by
   show(s.cA++gN _ d).length<=_
   cases d<;>simp[gN]
  have a:(fC M way said d s).words.length<=s.words.length+1:=by
   show(s.words++fR _ d).length<=_
   cases d<;>simp[fR]
  have a:(fC M way said d s).ns.length=s.ns.length:=oY;have a:(r.drop (lU M way said d s).toNat).length<=r.length:=by simp
  refine⟨?_,?_,?_⟩
  ·show(xu M way said f _ _).cA.length<=_;simp only[List.length_cons];lia
  ·show(xu M way said f _ _).words.length<=_;simp only[List.length_cons];lia
  ·show(xu M way said f _ _).ns.length=_;lia
theorem Bi{M way said:Int}(c:0<M):∀(f:Nat) (e:List bf) (s:WS),(∀z∈s.ns,0<=z/\z<M)->s.row.length<=12->(∀z∈(xu M way said f e s).ns,0<=z/\z<M)/\(xu M way said f e s).row.length<=12
 |0,_,s,h,g=>⟨h,g⟩
 |f+1,[],s,h,g=>⟨h,g⟩
 |f+1,d::r,s,h,g=>by
  refine Bi c f _ _ ?_ ?_
  ·have b:∀y:Int,0<=y % M/\y % M < M:=λy=>⟨aaK _ (),aaD _ c⟩
   have a:∀(j:Nat) (y:Int),(0<=y/\y<M)->∀z∈s.ns.set j y,0<=z/\z<M:=λj y k z l=>by
    rcases List.mem_or_eq_of_mem_set l with c|c
    ·exact h z c
    ·rw[c];exact k
   show ∀z∈jo M s.ns ((d.vals.map (fB M way said s.ns s.row)).getD 0 0) d,0<=z/\z<M
   cases d with
   |set i v=>calc a _ _ (b _)
   |add i v=>calc a _ _ (b _)
   |times i v=>calc a _ _ (b _)
   |_=>exact h
  ·show(nL s.row ((d.vals.map (fB M way said s.ns s.row)).getD 0 0) d).length<=12
   cases d with
   |put v=>
    simp only[nL];split
    ·simp;lia
    ·calc g
   |drop=>simp only[nL,List.length_tail];lia
   |_=>calc g
section
variable {n:NT}{r:RS}
theorem NT.Ok.gd(h:n.Ok){m:Nat}(a:m<n.ms.length):(n.ms.getD m default).good:=by
 calc h.good _ (getD_mem a)
theorem NT.Ok.wy(h:n.Ok){w:Nat}(a:w<n.ws.length):0<=(n.w w).1/\(n.w w).1<n.ms.length/\0<=(n.w w).2.1/\(n.w w).2.1<n.ms.length/\((n.w w).2.2="row"\/(n.w w).2.2="heap"):=by
 calc h.Ug _ (getD_mem a)
theorem NT.Ok.jD(h:n.Ok){w:Nat}(a:w<n.ws.length):n.goal w<n.ms.length:=by
 have:=h.wy a;unfold NT.goal;lia
theorem RS.Ok.zG(h:r.Ok n){m:Nat}(a:m<n.ms.length):1<=(r.mm m).fN.length:=by rw[h.lh m a];lia
theorem RS.Ok.last(h:r.Ok n){m:Nat}(a:m<n.ms.length):Kw (n.M m) (n.nn m) ((r.mm m).fN.bE ([],[])):=h.so m a _ (gK (h.zG a))
theorem qO(a:n.Ok)(h:r.Ok n){w:Nat}(c:w<n.ws.length)(k:Nat):Kw (n.M (n.goal w)) (n.nn (n.goal w)) ((n.work r w k).ns,(n.work r w k).row)/\(n.work r w k).cA.length<=24/\(n.work r w k).words.length<=24/\∀p∈(n.work r w k).cA,0<=p.1:=by
 have b:=a.jD c;have g:=a.gd b;have l:=h.last b;have a:(n.ds (n.goal w)).length<=24:=g.XU;have b:0<n.M (n.goal w):=by have:=g.m2;show 0<(n.ms.getD (n.goal w) default).M;lia
 obtain⟨d,e,f⟩:=Bh (M:=n.M (n.goal w)) (way:=n.place w) (said:=(r.ww w).say.getD k 0) (n.ds (n.goal w)).length (n.ds (n.goal w)) ⟨((r.mm (n.goal w)).fN.bE ([],[])).1,((r.mm (n.goal w)).fN.bE ([],[])).2,[],[]⟩;obtain⟨h,i⟩:=Bi b (way:=n.place w) (said:=(r.ww w).say.getD k 0) (n.ds (n.goal w)).length (n.ds (n.goal w)) ⟨((r.mm (n.goal w)).fN.bE ([],[])).1,((r.mm (n.goal w)).fN.bE ([],[])).2,[],[]⟩ l.bn l.lr;have c:=xC (M:=n.M (n.goal w)) (way:=n.place w) (said:=(r.ww w).say.getD k 0) (n:=n.nn (n.goal w)) (n.ds (n.goal w)).length (n.ds (n.goal w)) ⟨((r.mm (n.goal w)).fN.bE ([],[])).1,((r.mm (n.goal w)).fN.bE ([],[])).2,[],[]⟩ g.ok (λp b=>by simp at b);refine⟨⟨?_,h,i⟩,?_,?_,c⟩
 ·exact f.trans l.ln
 ·exact aab d (by simpa using a)
 ·calc aab e (by simpa using a)
structure RS.sZ(n:NT)(r:RS)(B:Nat):Prop where
 lw:∀m,m<n.ms.length->(r.mm m).fN.length=(r.mm m).wp.length
 lh:∀m,m<n.ms.length->(r.mm m).fN.length=(r.mm m).hr.length+1
 so:∀m,m<n.ms.length->∀s∈(r.mm m).fN,Kw (n.M m) (n.nn m) s
 hl:∀m,m<n.ms.length->∀h∈(r.mm m).hr,h.length=n.ms.length
 ls:∀w,w<n.ws.length->(r.ww w).say.length=(r.ww w).snd.length
 lk:∀w,w<n.ws.length->(r.ww w).say.length=(r.ww w).eC.length
 sd:∀w,w<n.ws.length->∀s c,some (s,c)∈(r.ww w).snd->0<=s/\s<n.ms.length/\1<=c/\c<=(r.mm s.toNat).hr.length
 bp:∀m,m<n.ms.length->(r.mm m).fN.length<=r.picks.length+1
 bw:∀m,m<n.ms.length->∀w∈(r.mm m).wp,w.length<=24*r.picks.length
 bs:∀w,w<n.ws.length->(r.ww w).say.length<=B
 Uh:∀m,m<n.ms.length->∀u∈(r.mm m).wp,u <+:(r.mm m).wp.bE []
theorem RS.sZ.ok(h:r.sZ n B)(a:B<=20+24*r.picks.length):r.Ok n:=⟨h.lw,h.lh,h.so,h.hl,h.ls,h.lk,h.sd,h.bp,h.bw,λw b=>aab (h.bs w b) a,h.Uh⟩
theorem RS.sZ.put(h:r.sZ n B){w:Nat}{x:Int}{s:Option (Int×Int)}(g:∀a c,s=some (a,c)->0<=a/\a<n.ms.length/\1<=c/\c<=(r.mm a.toNat).hr.length):(r.put w x s).sZ n (B+1):=by
 have e:∀k,(r.put w x s).ww k=if k=w then⟨(r.ww w).say++[x],(r.ww w).snd++[s],(r.ww w).eC++[none]⟩ else r.ww k:=λk=>rfl
 refine⟨h.lw,h.lh,h.so,h.hl,λv b=>?_,λv b=>?_,λv b a c d=>?_,h.bp,h.bw,λv b=>?_,h.Uh⟩
 ·rw[e];split
  ·next z=>subst z;simp[h.ls v b]
  ·exact h.ls v b
 ·rw[e];split
  ·next z=>subst z;simp[h.lk v b]
  ·exact h.lk v b
 ·rw[e] at d;split at d
  ·next z=>
   subst z;rcases List.mem_append.mp d with d|d
   ·exact h.sd v b a c d
   ·simp at d;exact g a c d.symm
  ·exact h.sd v b a c d
 ·rw[e];split
  ·next z=>subst z;have:=h.bs v b;simp;lia
  ·have:=h.bs v b;lia
theorem RS.sZ.mono{a:Nat}(h:r.sZ n B)(b:B<=a):r.sZ n a:={h with bs:=λw a=>aab (h.bs w a) b}
theorem RS.sZ.send{outs:List Nat}{ev:Int×Int}:∀(b:List (Int×Int)) {r:RS}{B:Nat},r.sZ n B->(∀a c,some ev=some (a,c)->0<=a/\a<n.ms.length/\1<=c/\c<=(r.mm a.toNat).hr.length)->(r.send outs ev b).sZ n (B+b.length)
 | [],r,B,h,_=>h
 |p::b,r,B,h,d=>by
  show((if p.1.toNat<outs.length then r.put (outs.getD p.1.toNat 0) p.2 (some ev) else r).send outs ev b).sZ n _;have e:B+(p::b).length=B+1+b.length:=by simp;lia
  rw[e];split
  ·exact RS.sZ.send b (h.put d) d
  ·calc RS.sZ.send b (h.mono ()) d
theorem RS.nS{outs:List Nat}{ev:Int×Int}:∀(a:List (Int×Int)) {r:RS},(r.send outs ev a).mm=r.mm/\(r.send outs ev a).picks=r.picks
 | [],r=>⟨rfl,rfl⟩
 |p::a,r=>by
  show((if p.1.toNat<outs.length then r.put (outs.getD p.1.toNat 0) p.2 (some ev) else r).send outs ev a).mm=_/\((if p.1.toNat<outs.length then r.put (outs.getD p.1.toNat 0) p.2 (some ev) else r).send outs ev a).picks=_;split
  ·exact RS.nS a
  ·calc RS.nS a
theorem zH{u v w:List Int}(h:u <+:v):u <+:v++w:=by
 obtain⟨t,rfl⟩:=h;calc⟨t++w,nofun⟩
theorem xD(o:n.Ok)(h:r.Ok n){w:Nat}(j:w<n.ws.length){k:Nat}:(n.gH r w k).length=n.ms.length:=by
 have p:=o.jD j;have m:((r.mm (n.goal w)).hr.bE (List.replicate n.ms.length 0)).length=n.ms.length:=by
  by_cases f:1<=(r.mm (n.goal w)).hr.length
  ·exact h.hl _ p _ (gK f)
  ·have e:(r.mm (n.goal w)).hr=[]:=by
    cases q:(r.mm (n.goal w)).hr with
    |nil=>rfl
    |cons a b=>rw[q]at f;simp at f
   rw[e];simp[List.bE]
 unfold NT.gH;simp only[List.length_set];split
 ·exact m
 ·next s c e=>
  have g:k<(r.ww w).snd.length:=by
   by_cases g:k<(r.ww w).snd.length
   ·exact g
   ·rw[List.getD_eq_getElem?_getD,List.getElem?_eq_none ()]at e;cases e
  have t:some (s,c)∈(r.ww w).snd:=by rw[<-e];exact getD_mem g
  obtain⟨u,v,x,y⟩:=h.sd w j s c t;have:=h.hl s.toNat () _ (getD_mem (l:=(r.mm s.toNat).hr) (i:=(c-1).toNat) (d:=[]) ());rw[List.length_zipWith,m,this];lia
theorem RS.Ok.step(t:n.Ok)(h:r.Ok n){w k:Nat}(p:w<n.ws.length):(r.step n w k).sZ n (20+24*r.picks.length):=by
 have g:=t.jD p;obtain⟨A,F,G,H⟩:=qO t h p k;have j:∀i,(r.step n w k).mm i=if i=n.goal w then⟨(r.mm (n.goal w)).fN++[((n.work r w k).ns,(n.work r w k).row)],(r.mm (n.goal w)).wp++[(r.mm (n.goal w)).wp.bE []++(n.work r w k).words],(r.mm (n.goal w)).hr++[n.gH r w k]⟩ else r.mm i:=λi=>rfl
 have q:∀i,(r.step n w k).ww i=if i=w then {(r.ww w) with eC:=(r.ww w).eC.set k (some (n.ev r w))} else r.ww i:=λi=>rfl
 have x:(r.step n w k).picks.length=r.picks.length+1:=by show(r.picks++[_]).length=_;simp
 refine⟨λm f=>?_,λm f=>?_,λm f s b=>?_,λm f s b=>?_,λv o=>?_,λv o=>?_,λv o a c b=>?_,λm f=>?_,λm f u e=>?_,λv o=>?_,λm f u e=>?_⟩
 ·rw[j];split
  ·simp[h.lw _ g]
  ·exact h.lw m f
 ·rw[j];split
  ·simp[h.lh _ g]
  ·exact h.lh m f
 ·rw[j] at b;split at b
  ·next z=>
   subst z;rcases List.mem_append.mp b with b|b
   ·exact h.so _ g s b
   ·simp at b;subst b;exact A
  ·exact h.so m f s b
 ·rw[j] at b;split at b
  ·rcases List.mem_append.mp b with b | b
   ·exact h.hl _ g s b
   ·simp at b;subst b;exact xD t h p
  ·exact h.hl m f s b
 ·rw[q];split
  ·exact h.ls w p
  ·exact h.ls v o
 ·rw[q];split
  ·simp[h.lk w p]
  ·exact h.lk v o
 ·have B:some (a,c)∈(r.ww v).snd:=by
   rw[q]at b;split at b
   ·next z=>subst z;exact b
   ·exact b
  obtain⟨C,D,E,y⟩:=h.sd v o a c B;calc⟨C,D,E,?_⟩;rw[j];split
  ·next z=>rw[z]at y;simp;lia
  ·exact y
 ·rw[j,x];split
  ·have:=h.bp _ g;simp;lia
  ·have:=h.bp _ f;lia
 ·rw[x];rw[j] at e;split at e
  ·rcases List.mem_append.mp e with e | e
   ·have:=h.bw _ g u e;lia
   ·simp at e;subst e;have:=h.bw _ g _ (gK (l:=(r.mm (n.goal w)).wp) (d:=[]) (by rw[<-h.lw _ g];calc h.zG g));simp;lia
  ·have:=h.bw _ f u e;lia
 ·rw[q];split
  ·exact h.bs w p
  ·exact h.bs v o
 ·rw[j] at e ⊢;split at e
  ·next z=>
   rw[if_pos z];show u <+:((r.mm (n.goal w)).wp++[_]).bE [];rw[rP];rcases List.mem_append.mp e with e|e
   ·exact zH (h.Uh _ g u e)
   ·simp at e;subst e;exact List.prefix_refl _
  ·next z=>rw[if_neg z];calc h.Uh m f u e
theorem RS.Ok.pick(a:n.Ok)(h:r.Ok n){w k:Nat}(b:w<n.ws.length):(r.pick n w k).Ok n/\(r.pick n w k).picks=r.picks++[((w:Int),(k:Int))]:=by
 have d:=a.jD b;obtain⟨c,f,g,i⟩:=qO a h b k;have s:=RS.sZ.send (outs:=n.outs (n.goal w)) (ev:=n.ev r w) (n.work r w k).cA (h.step a b (k:=k)) (λa c e=>by
  cases e;refine⟨(),(),?_,?_⟩
  ·have:=h.zG d;lia
  ·have a:(r.step n w k).mm (n.goal w)=⟨(r.mm (n.goal w)).fN++[((n.work r w k).ns,(n.work r w k).row)],(r.mm (n.goal w)).wp++[(r.mm (n.goal w)).wp.bE []++(n.work r w k).words],(r.mm (n.goal w)).hr++[n.gH r w k]⟩:=if_pos rfl;rw[show((n.goal w:Nat):Int).toNat=n.goal w from Int.toNat_natCast _,a,h.lh _ d];simp)
 have a:=(RS.nS (outs:=n.outs (n.goal w)) (ev:=n.ev r w) (n.work r w k).cA (r:=r.step n w k)).2;calc⟨s.ok ?_,a⟩;rw[a];show _<=20+24*(r.picks++[_]).length;simp;lia
end
end DD
namespace L2
open PySem PySem.Spec PyProof.Rows Builtin Builtin.Str
section
variable {X:Cx}
theorem xE{i j l:Nat}{x y z:Str}{d e f a:Pos}{k:Nat}(g:X.calm=true)(b:X.N.Nodup)(h:X.N[i]?=some x)(m:X.N[j]?=some y)(n:X.N[l]?=some z)(o:Loc X.env.scope x)(p:Loc X.env.scope y)(hz:Loc X.env.scope z)
  (q:X.fn x=true\/X.env.scope.names.lookup x=some .local:=by grind) (r:X.fn y=true\/X.env.scope.names.lookup y=some .local:=by grind) (c:X.fn z=true\/X.env.scope.names.lookup z=some .local:=by grind):
  PG X (.Tuple [.Name x d,.Name y e,.Name z f] k a) (EG X.K 3 (lO (fL i) (lO (fL j) (lO (fL l) EF)))):=yV g (gM (aQ b h o q) (gM (aQ b m p r) (gM (aQ b n hz c) vi)))
end
end L2
namespace L2
open PySem PyProof.Rows
theorem Pd{a b:Nat}(h:a+64<b):a+1<b:=by lia
section
variable {X:Cx}
def zI(z:Int):Value->Bool
 | .int i _=>i==z
 |_=>false
theorem rR:∀{c:List Int}{us:List Value},Vals (c.map V.int) us->us.length=c.length/\∀(i:Nat) u z,us[i]?=some u->c[i]?=some z->∃t,u=.int z t
 | [],_,.nil=>⟨rfl,λi u z h=>by simp at h⟩
 |n::c,_,.cons r t=>by
  obtain⟨l,h⟩:=rR t;refine⟨by simp[l],λi u z a b=>?_⟩
  cases i with
  |zero=>simp at a b;subst a b;calc r
  |succ i=>calc h i u z (by simpa using a) (by simpa using b)
def Kx:V->List V->Hp->VK->Prop:=λx vs H Q=>∃(a:Addr) (b:List Int) (j:Nat) (z:Int),x=.ref a/\vs=[.int z]/\H a=some (.lst (b.map V.int))/\b[j]?=some z/\(∀i y,i<j->b[i]?=some y->y≠z)/\Q (.int j) H
theorem uD:Ot X "list.index" Kx:=by
 intro k s σ H x O v P Q I r D h;obtain⟨a,d,j,z,rfl,rfl,E,l,G,q⟩:=h
 cases r;obtain⟨u,rfl,o,rfl⟩:=D.one;obtain⟨b,r,J,k⟩:=I.list (aP.of E);obtain⟨h,K⟩:=rR r;have h:j<d.length:=(List.getElem?_eq_some_iff.mp l).1;have p:(d.map V.int).length<=sizeLine:=k;rw[List.length_map]at p;obtain⟨⟨r,s,h,L⟩,n,w,A,B,e⟩:=id J;simp only at A B e;subst A B e;have h:j<b.length:=by lia
 have c:∀m (f:m<b.length),∃y t,d[m]?=some y/\b[m]=.int y t:=λm f=>by
  have C:m<d.length:=by lia
  obtain⟨t,e⟩:=K m b[m] d[m] nofun nofun;exact⟨d[m],t,nofun,e⟩
 refine call_meets PySem.F.slot_list_index ⟨_,w,rfl⟩ PySem.F.entry_list_index (PySem.F.args_list_index_2 _ _) (SeqAt.list_indexAt a b.toArray n none L (.int z o) (zI z) j (by simpa using h) (by rw[sizeLine_eq]at p;lia) ?_ ?_) ⟨w,λy M=>?_,?_⟩
 ·obtain⟨y,t,g,i⟩:=c j h;rw[l] at g
  cases g;simp[i,zI]
 ·intro m f a;have C:m < b.length:=by simpa using f
  obtain⟨y,t,g,i⟩:=c m C;have:=G m y a g;simp[i,zI,this]
 ·have N:y ∈ b:=by simpa using M
  obtain⟨m,f,rfl⟩:=List.getElem_of_mem N;obtain⟨y,t,g,i⟩:=c m f;rw[i];exact SeqAt.EqAt.int_int y t z o
 ·calc⟨.int _,H,I.tok _,⟨_,rfl⟩,q⟩
end
end L2
namespace L2
open PySem PySem.Spec PyProof.Rows
section
def Ui(K:W.Frag):V->Option Int->Option Int->Hp->VK->Prop:=λx b c H Q=>match x with
 | .ref a=>∃xs,aP K H a xs/\∀p,H p=none->Q (.ref p) (upd H p (.lst (dG xs b c)))
 |_=>False
theorem ZF{X:Cx}:Ti X (Ui X.K):=by
 intro a s σ H x v b c d e f Q I g i j k h
 cases x<;>first
  |calc(show False from h).elim
  |skip
 obtain⟨l,m,q⟩:=h;calc AS a s σ H _ v b c d e f Q I g i j k ⟨_,l,rfl,m,q⟩
theorem Pe{X:Cx}{e:Expr}{b:TE}{c d:Option Expr}{f g:TO}{a h:Pos}(i:PE X e b)(j:PO X c f)(k:PO X d g):PE X (.Subscript e (.Slice c d none h) a) (Tj (Ui X.K) b f g):=wW ZF i j k
theorem Ky{xs:List V}{i j:Nat}:(dG xs (some (i:Int)) (some (j:Int))).length<=j-i:=by
 unfold dG;rw[show HT.d9 xs.length 0 (some (i:Int))=min i xs.length from HT.AM _ _ i,show HT.d9 xs.length xs.length (some (j:Int))=min j xs.length from HT.AM _ _ j,List.length_take];calc aab (Nat.min_le_left _ _) ?_;rcases Nat.le_total xs.length i with h|h
 ·rw[Nat.min_eq_right h,Nat.sub_eq_zero_of_le (Nat.min_le_right _ _)];exact Y' _
 ·rw[Nat.min_eq_left h];calc Nat.sub_le_sub_right (Nat.min_le_left _ _) _
theorem Bj{xs:List V}{a b:Option Int}{v:V}(h:v∈dG xs a b):v∈xs:=List.mem_of_mem_drop (List.mem_of_mem_take h)
end
section
variable {a dx:Addr}{Q:Bool->Hp->Prop}{X:Cx}{H:Hp}{f:Str}{v:V}{K:W.Frag}
theorem fld{C:Addr}{b:List (Str×V)}{Q:V->Prop}(h:H a=some (.ins C dx b))(c:vk K C)(n:cF K C f)(l:b.lookup f=some v)(q:Q v):∃e d j g i,V.ref a=.ref e/\H e=some (.ins d j g)/\vk K d/\cF K d f/\g.lookup f=some i/\Q i:=⟨a,C,dx,b,v,rfl,h,c,n,l,q⟩
theorem mth{C:Addr}{b:List (Str×V)}{Q:Addr->Prop}(h:H a=some (.ins C dx b))(l:b.lookup f=none)(q:Q a):∃c e d,V.ref a=.ref c/\H c=some (.ins C e d)/\d.lookup f=none/\Q c:=⟨a,dx,b,rfl,h,l,q⟩
theorem fv{C:Addr}{b:List (Str×V)}{Q:V->Prop}(h:H a=some (.ins C dx b))(c:vk K C)(n:cF K C f)(l:b.lookup f=some v)(q:Q v):∃e d j g i,a=e/\H e=some (.ins d j g)/\vk K d/\cF K d f/\g.lookup f=some i/\Q i:=⟨a,C,dx,b,v,rfl,h,c,n,l,q⟩
theorem gm{C:Addr}{b:List (Str×V)}{Q:Addr->Prop}(h:H a=some (.ins C dx b))(l:b.lookup f=none)(q:Q a):∃c e d,a=c/\H c=some (.ins C e d)/\d.lookup f=none/\Q c:=⟨a,dx,b,rfl,h,l,q⟩
theorem wD{x y:V}{P:V->V->Prop}(h:bz K H a [x,y])(q:P x y):∃b xs,V.ref a=.ref b/\bz K H b xs/\xs.length=2/\∃v r,xs=v::r/\∃c d,r=c::d/\d=[]/\P v c:=⟨a,_,rfl,h,rfl,_,_,rfl,_,_,rfl,rfl,q⟩
theorem un3{x y z:V}{P:V->V->V->Prop}(h:bz K H a [x,y,z])(q:P x y z):∃d xs,V.ref a=.ref d/\bz K H d xs/\xs.length=3/\∃v r,xs=v::r/\∃e f,r=e::f/\∃b c,f=b::c/\c=[]/\P v e b:=⟨a,_,rfl,h,rfl,_,_,rfl,_,_,rfl,_,_,rfl,rfl,q⟩
theorem gI{A B R:Prop}(a:A)(b:B)(r:R):A/\B/\R:=⟨a,b,r⟩
theorem bI{α:Type}{A R:α->Prop}(x:α)(a:A x)(r:R x):∃x,A x/\R x:=⟨x,a,r⟩
theorem gJ{α:Type}{A B R:α->Prop}(x:α)(a:A x)(b:B x)(r:R x):∃x,A x/\B x/\R x:=⟨x,a,b,r⟩
theorem Kz{α:Type}{A B C R:α->Prop}(x:α)(a:A x)(b:B x)(ch:C x)(r:R x):∃x,A x/\B x/\C x/\R x:=⟨x,a,b,ch,r⟩
theorem F7{α β:Type}{A R:α->β->Prop}(x:α)(y:β)(a:A x y)(r:R x y):∃x y,A x y/\R x y:=⟨x,y,a,r⟩
theorem cM{α β:Type}{A B R:α->β->Prop}(x:α)(y:β)(a:A x y)(b:B x y)(r:R x y):∃x y,A x y/\B x y/\R x y:=⟨x,y,a,b,r⟩
theorem tI{α β:Type}{A B C R:α->β->Prop}(x:α)(y:β)(a:A x y)(b:B x y)(ch:C x y)(r:R x y):∃x y,A x y/\B x y/\C x y/\R x y:=⟨x,y,a,b,ch,r⟩
theorem mf{α β:Type}{A B C D R:α->β->Prop}(x:α)(y:β)(a:A x y)(b:B x y)(ch:C x y)(c:D x y)(r:R x y):∃x y,A x y/\B x y/\C x y/\D x y/\R x y:=⟨x,y,a,b,ch,c,r⟩
theorem ZG{α β γ:Type}{A B R:α->β->γ->Prop}(x:α)(y:β)(z:γ)(a:A x y z)(b:B x y z)(r:R x y z):∃x y z,A x y z/\B x y z/\R x y z:=⟨x,y,z,a,b,r⟩
theorem ZH{α β γ:Type}{A B C R:α->β->γ->Prop}(x:α)(y:β)(z:γ)(a:A x y z)(b:B x y z)(ch:C x y z)(r:R x y z):∃x y z,A x y z/\B x y z/\C x y z/\R x y z:=⟨x,y,z,a,b,ch,r⟩
theorem e9{α β γ δ:Type}{A B R:α->β->γ->δ->Prop}(x:α)(y:β)(z:γ)(u:δ)(a:A x y z u)(b:B x y z u)(r:R x y z u):∃x y z u,A x y z u/\B x y z u/\R x y z u:=⟨x,y,z,u,a,b,r⟩
theorem Pf{α β γ δ:Type}{A B C R:α->β->γ->δ->Prop}(x:α)(y:β)(z:γ)(u:δ)(a:A x y z u)(b:B x y z u)(ch:C x y z u)(r:R x y z u):∃x y z u,A x y z u/\B x y z u/\C x y z u/\R x y z u:=⟨x,y,z,u,a,b,ch,r⟩
theorem Uj{α β γ δ:Type}{A B C D R:α->β->γ->δ->Prop}(x:α)(y:β)(z:γ)(u:δ)(a:A x y z u)(b:B x y z u)(ch:C x y z u)(c:D x y z u)(r:R x y z u):∃x y z u,A x y z u/\B x y z u/\C x y z u/\D x y z u/\R x y z u:=⟨x,y,z,u,a,b,ch,c,r⟩
theorem qw{α β γ δ:Type}{A B C D E R:α->β->γ->δ->Prop}(x:α)(y:β)(z:γ)(u:δ)(a:A x y z u)(b:B x y z u)(ch:C x y z u)(c:D x y z u)(d:E x y z u)(r:R x y z u):∃x y z u,A x y z u/\B x y z u/\C x y z u/\D x y z u/\E x y z u/\R x y z u:=⟨x,y,z,u,a,b,ch,c,d,r⟩
theorem ZI{α β γ δ:Type}{A B C D E F R:α->β->γ->δ->Prop}(x:α)(y:β)(z:γ)(u:δ)(a:A x y z u)(b:B x y z u)(ch:C x y z u)(c:D x y z u)(d:E x y z u)(e:F x y z u)(r:R x y z u):∃x y z u,A x y z u/\B x y z u/\C x y z u/\D x y z u/\E x y z u/\F x y z u/\R x y z u:=⟨x,y,z,u,a,b,ch,c,d,e,r⟩
theorem ZJ{α β γ δ ε:Type}{A B C D R:α->β->γ->δ->ε->Prop}(x:α)(y:β)(z:γ)(u:δ)(v:ε)(a:A x y z u v)(b:B x y z u v)(ch:C x y z u v)(c:D x y z u v)(r:R x y z u v):∃x y z u v,A x y z u v/\B x y z u v/\C x y z u v/\D x y z u v/\R x y z u v:=⟨x,y,z,u,v,a,b,ch,c,r⟩
theorem ZK{α β γ δ ε:Type}{A B C D E R:α->β->γ->δ->ε->Prop}(x:α)(y:β)(z:γ)(u:δ)(v:ε)(a:A x y z u v)(b:B x y z u v)(ch:C x y z u v)(c:D x y z u v)(d:E x y z u v)(r:R x y z u v):∃x y z u v,A x y z u v/\B x y z u v/\C x y z u v/\D x y z u v/\E x y z u v/\R x y z u v:=⟨x,y,z,u,v,a,b,ch,c,d,r⟩
theorem Uk{α β γ δ ε:Type}{A B C D E F R:α->β->γ->δ->ε->Prop}(x:α)(y:β)(z:γ)(u:δ)(v:ε)(a:A x y z u v)(b:B x y z u v)(ch:C x y z u v)(c:D x y z u v)(d:E x y z u v)(e:F x y z u v)(r:R x y z u v):∃x y z u v,A x y z u v/\B x y z u v/\C x y z u v/\D x y z u v/\E x y z u v/\F x y z u v/\R x y z u v:=⟨x,y,z,u,v,a,b,ch,c,d,e,r⟩
theorem PE.imp{e:Expr}{t u:TE}(h:PE X e t)(i:∀σ H Q,u σ H Q->t σ H Q):PE X e u:=⟨λp s σ H Q I q=>h.out p s σ H Q I (i σ H Q q)⟩
def tV(i:Nat):TE:=λσ H Q=>match σ[i]? with
 |some (some v)=>Q v H
 |_=>False
theorem Pg{i:Nat}(σ:St)(H:Hp)(Q:VK)(h:tV i σ H Q):Ey i σ H Q:=by
 unfold tV at h;split at h
 ·exact⟨_,by assumption,h⟩
 ·calc h.elim
def bB(Q:Bool->Hp->Prop):V->Hp->Prop
 | .bl k,H=>Q k H
 |_,_=>False
theorem Ph{Q:Bool->Hp->Prop}{x:V}{H:Hp}(h:bB Q x H):∃k,x=.bl k/\Q k H:=by
 cases x with
 |bl k=>calc⟨k,rfl,h⟩
 |_=>calc h.elim
theorem Ul{k:Bool}:bB Q (.bl k) H=Q k H:=rfl
theorem zJ{k:Bool}(h:Q k H):bB Q (.bl k) H:=h
def tT(t:TE):TT:=λσ H Q=>t σ H (bB Q)
theorem Um:bB Q=λx H=>∃k,x=.bl k/\Q k H:=by
 funext x H;calc propext ⟨Ph,?_⟩;rintro⟨k,rfl,h⟩;calc h
theorem Mm:tT=AH:=by
 funext t σ H Q;show t σ H (bB Q)=_;rw[Um];rfl
theorem Pj:tT=tB:=Mm
section
variable {X:Cx}{a b:Expr}{ta tb:TE}{pos:Pos}
theorem az{c:CmpOp}{r:R2}(d:gq X (compareOp c) r)(e:PE X a ta)(f:PE X b tb)(g:behindInMarks c b=false):PT X (.Compare a [c] [b] pos) (tT (EL r ta tb)):=by
 rw[Mm];calc AI d e f g
theorem bA{e:Expr}{t:TE}(h:PE X e t)(b:∀a,PySem.isTrue e X.env a=(do let v <-a;standAt e.pos;holding [v] (truthy v)):=by intro _;rfl):PT X e (tT t):=by
 rw[Pj];calc NM h b
theorem au(i:Nat){x:Str}{pos:Pos}(a:X.N[i]?=some x:=by rfl)(b:SO X.env.scope x:=by first|calc Or.inl rfl|calc Or.inr (Or.inl rfl)|calc Or.inr (Or.inr rfl))(c:(x==("__debug__":Str))=false:=by decide)
  (d:(x==("__classdict__":Str))=false:=by decide):PE X (.Name x pos) (tV i):=(Ez a b c d).imp Pg
end
section
variable {K:W.Frag}{H:Hp}{Q:VK}{i j:Int}{s t:Str}{a b:Addr}
def Pk(K:W.Frag):R2:=λx y H Q=>match x,y with
 | .int i,.int j=>Q (.bl (decide (i=j))) H
 | .str s,.str t=>Q (.bl (decide (s=t))) H
 |x,y=>OP K x y H Q
def Uo(K:W.Frag):R2:=λx y H Q=>match x,y with
 | .int i,.int j=>Q (.bl (!decide (i=j))) H
 | .str s,.str t=>Q (.bl (!decide (s=t))) H
 |x,y=>Rw K x y H Q
theorem F8:Pk K (.int i) (.int j) H Q=Q (.bl (decide (i=j))) H:=rfl
theorem F9:Pk K (.str s) (.str t) H Q=Q (.bl (decide (s=t))) H:=rfl
theorem Gd:Pk K (.ref a) (.ref b) H Q=((nC K H 20 (.ref a) (.ref b)/\Q (.bl true) H)\/(rB K H a b/\Q (.bl false) H)):=rfl
theorem Ge:Uo K (.int i) (.int j) H Q=Q (.bl (!decide (i=j))) H:=rfl
theorem Gf:Uo K (.str s) (.str t) H Q=Q (.bl (!decide (s=t))) H:=rfl
theorem Gg:Uo K (.ref a) (.ref b) H Q=((nC K H 20 (.ref a) (.ref b)/\Q (.bl false) H)\/(rB K H a b/\Q (.bl true) H)):=rfl
theorem Gh:Pk K=OP K:=by
 funext x y H Q
 cases x<;>cases y<;>first|rfl|calc vD.symm|calc vE.symm
theorem Pl:Uo K=Rw K:=by
 funext x y H Q
 cases x<;>cases y<;>first|rfl|calc vF.symm|calc vG.symm
theorem aU(a:X.A.units+64<cLine):gq X (compareOp .Eq) (Pk X.K):=Gh▸Fo a
theorem jE(a:X.A.units+64<cLine):gq X (compareOp .NotEq) (Uo X.K):=Pl▸OQ a
theorem nU(a:X.K=K)(b:X.A.units+64<cLine):gq X (compareOp .Eq) (Pk K):=Gh▸Km a b
end
theorem HT.cB{n:Nat}{i:Int}(h:HT H n v (.int i)):v=.int i:=by
 cases h;rfl
theorem HT.cI{n:Nat}{s:Str}(h:HT H n v (.str s)):v=.str s:=by
 cases h;rfl
theorem HD.cB{n:Nat}{i:Int}(h:HD H n v (.int i)):v=.int i:=by
 cases h;rfl
theorem HD.cI{n:Nat}{s:Str}(h:HD H n v (.str s)):v=.str s:=by
 cases h;rfl
end
end L2
namespace DD
open PySem L2
variable {e:Int×Int}{u:Nat}{s:Option (Int×Int)}
theorem uE{l:List (Option (Int×Int))}{k:Nat}:(l++[none])[k]?=some (some e)↔l[k]?=some (some e):=by
 by_cases h:k<l.length
 ·rw[List.getElem?_append_left h]
 ·rw[List.getElem?_append_right (),List.getElem?_eq_none (l:=l) ()];constructor
  ·intro z
   cases a:k-l.length with
   |zero=>rw[a]at z;simp at z
   |succ j=>rw[a]at z;simp at z
  ·intro z;cases z
section
variable {n:NT}{r:RS}
theorem Pm{w:Nat}{x:Int}:((r.put w x s).ww u).eC=if u=w then(r.ww w).eC++[none] else(r.ww u).eC:=by
 show(if u=w then _ else _:WY).eC=_;split<;>rfl
theorem KA{w:Nat}{x:Int}{k:Nat}:((r.put w x s).ww u).eC[k]?=some (some e)↔(r.ww u).eC[k]?=some (some e):=by
 rw[Pm];split
 ·next z=>subst z;exact uE
 ·calc Iff.rfl
theorem KC{w k:Nat}:((r.step n w k).ww u).eC=if u=w then(r.ww w).eC.set k (some (n.ev r w)) else(r.ww u).eC:=by
 show(if u=w then _ else _:WY).eC=_;split<;>rfl
theorem xF{w k j:Nat}(b:(r.ww w).eC[k]?=some none):((r.step n w k).ww u).eC[j]?=some (some e)↔(u=w/\j=k/\e=n.ev r w)\/(r.ww u).eC[j]?=some (some e):=by
 have c:k<(r.ww w).eC.length:=(List.getElem?_eq_some_iff.mp b).1;rw[KC];split
 ·next z=>
  subst z;by_cases a:j=k
  ·subst a;rw[List.getElem?_set_self c,b];constructor
   ·intro z;cases z;exact .inl ⟨rfl,rfl,rfl⟩
   ·rintro(⟨_,_,rfl⟩ | z)
    ·rfl
    ·cases z
  ·rw[List.getElem?_set_ne (λz=>a z.symm)];exact⟨.inr,λz=>z.elim (λq=>absurd q.2.1 a) id⟩
 ·next z=>calc⟨.inr,λq=>q.elim (λq=>absurd q.1 z) id⟩
variable {H H':Hp}{kvs:List (List Key×V)}{w k:Nat}
end
end DD
namespace DD
open PySem L2
end DD
set_option maxHeartbeats 400000
namespace L2
open PySem PySem.Spec PyProof.Rows
section
section
variable {X:Cx}{o e:Expr}{es:List Expr}{to:TE}{t:TA}{apos p pos:Pos}{C:Addr}{m x:Str}{k j:Nat}{ps:List Str}{sp:Sp}{E:XK}
end
end
section
end
end L2
namespace L2
open PySem PySem.Spec PyProof.Rows
end L2
namespace L2
open PySem PySem.Spec PyProof.Rows
end L2
namespace L2
open PySem PySem.Spec PyProof.Rows
section
variable {Q:Option Value->Shared->Prop}
def nV(h:Heap)(d:Addr)(es:Array DictEntry)(ep:Nat):Prop:=∃o,h.get? d=some o/\o.ExactDict/\o.data=.dict es ep
theorem nV.type{s:Shared}{d:Addr}{es:Array DictEntry}{ep:Nat}(x:nV s.heap d es ep):s.TypeIs (.ref d) "dict":=let ⟨o,h,c,_⟩:=x;⟨o,h,c.1⟩
theorem nV.at{h h':Heap}{d:Addr}{es:Array DictEntry}{ep:Nat}(x:nV h d es ep)(e:∀o,h.get? d=some o->h'.get? d=some o):nV h' d es ep:=let ⟨o,a,b⟩:=x;⟨o,e _ a,b⟩
section
variable {prog:Program}{w:World}{A:Around}{E:Value->Shared->Prop}{s:Shared}{d it:Addr}{es:Array DictEntry}{i ep:Nat}
theorem xG{Q:Value->Shared->Prop}(e:(d==sysModules)=false)(x:nV s.heap d es ep)
  (f:Q (.ref s.heap.objs.size) {s with heap:=s.heap.push {cls:=.type "dict_keyiterator",data:=.fields #[.ref d,.int 0 0,.int es.size 0,.int ep 0]}}):wpAny (model prog w) A (pyIter (.ref d)) Q E s:=by
 have a:=x.type;obtain⟨o,b,_,c⟩:=x;calc wpAny_pyIter_slot a F.slot_dict_iter (aar F.slot_dict_iter a F.entry_dict_iter ?_ (F.args_dict_iter_1 _));unfold Builtin.«dict.__iter__»;calc E' ?_;unfold Builtin.Dict.dictSlotNone;calc E' (wpAny_notOrdered_dict a ?_);show wpAny _ _ (pure (Value.ref d)) _ _ s;calc J' ?_;show wpAny _ _ (Builtin.Dict.showsAll d >>= _) _ _ s;unfold Builtin.Dict.showsAll;rw[if_neg (by rw[e];calc Bool.false_ne_true)];calc E' (J' (E' (aam b c (E' (wpAny_dictEpoch b c ?_)))));calc E' (aal (J' ⟨_,rfl,"dict_keyiterator",_,⟨_,X' _ rfl,rfl⟩,F.slot_dict_keyiterator_next.lookup,?_⟩));simpa[rawInt] using f
theorem xH(a:s.heap.IsKeyIter it d i es.size ep)(x:nV s.heap d es ep)(g:i<es.size)
  (h:∀h',h'.IsKeyIter it d (i+1) es.size ep->Heap.SameBut it s.heap h'->Q (some es[i].key) {s with heap:=h'}):wpAny (model prog w) A (pyNext (.ref it)) Q E s:=by
 obtain⟨o,c,j,b⟩:=id a;obtain⟨k,e,_,f⟩:=x;unfold pyNext;refine E' (wpAny_attempt (aai (name:=Str.ofString "__next__") a.typeIs F.slot_dict_keyiterator_next
  (aar F.slot_dict_keyiterator_next a.typeIs F.entry_dict_keyiterator_next ?_ (F.args_dict_keyiterator_next_1 _))))
 refine E' (J' (E' (E' ?_)))
 first|calc E' (aaN a.typeIs (J' ?_))|refine E' (wpAny_typeNameOf_keyiter a.typeIs (J' ?_))
 calc E' (wpAny_fieldsOf c b ?_);have k:Builtin.Dict_items.ownsTuple "dict_keyiterator"=false:=by decide
 simp only[k,Bool.false_eq_true,if_false];show wpAny _ _ (if (Value.ref d==Value.none)=true then _ else _) _ _ s;rw[if_neg (show ¬((Value.ref d==Value.none)=true) from Bool.false_ne_true)];calc E' (J' (E' (aam e f ?_)));rw[if_neg nofun];calc E' (J' (E' (wpAny_dictEpoch e f ?_)));rw[if_neg nofun];calc J' ?_;simp only[show ¬((i:Int)<0) from by lia,if_false,Int.toNat_natCast,Array.getElem?_eq_getElem g];refine E' ?_
 first|calc E' (aaN a.typeIs (J' ?_))|refine E' (wpAny_typeNameOf_keyiter a.typeIs (J' ?_))
 calc E' (wpAny_isOneOf_keyiter a.typeIs ?_);show wpAny _ _ (setField (.ref it) 1 (rawInt ((i:Int)+1)) >>= _) _ _ s;calc E' (wpAny_setField c b nofun ?_);have e:(s.heap.update it (Obj.mapFields (·.setIfInBounds 1 (rawInt ((i:Int)+1))))).IsKeyIter it d (i+1) es.size ep:=
  ⟨_,Heap.get?_update_self _ c (Obj.isFreed_of_fields (Obj.data_mapFields b _)),(Obj.cls_mapFields ..).trans j,by rw[Obj.data_mapFields b];simp[rawInt]⟩
 calc E' (aaF (E' (wpAny_isOneOf_keyiter (s:={s with heap:=s.heap.update it (Obj.mapFields (·.setIfInBounds 1 (rawInt ((i:Int)+1))))}) e.typeIs ?_)));show wpAny _ _ (pure es[i].key) _ _ _;calc J' (J' ⟨_,rfl,J' (h _ e (Heap.SameBut.update ..))⟩)
theorem Bl(j:A.handled=none)(c:s.heap.IsKeyIter it d i es.size ep)(x:nV s.heap d es ep)(k:es.size<=i)
  (l:∀h',Heap.ExtBut it s.heap h'->Q none {s with heap:=h'}):wpAny (model prog w) A (pyNext (.ref it)) Q E s:=by
 obtain⟨o,e,g,f⟩:=id c;obtain⟨n,g,_,h⟩:=x;unfold pyNext;refine E' (wpAny_attempt (aai (name:=Str.ofString "__next__") c.typeIs F.slot_dict_keyiterator_next
  (aar F.slot_dict_keyiterator_next c.typeIs F.entry_dict_keyiterator_next ?_ (F.args_dict_keyiterator_next_1 _))))
 refine E' (J' (E' (E' ?_)))
 first|calc E' (aaN c.typeIs (J' ?_))|refine E' (wpAny_typeNameOf_keyiter c.typeIs (J' ?_))
 calc E' (wpAny_fieldsOf e f ?_);have n:Builtin.Dict_items.ownsTuple "dict_keyiterator"=false:=by decide
 simp only[n,Bool.false_eq_true,if_false];show wpAny _ _ (if (Value.ref d==Value.none)=true then _ else _) _ _ s;rw[if_neg (show ¬((Value.ref d==Value.none)=true) from Bool.false_ne_true)];calc E' (J' (E' (aam g h ?_)));rw[if_neg nofun];calc E' (J' (E' (wpAny_dictEpoch g h ?_)));rw[if_neg nofun];calc J' ?_;simp only[show ¬((i:Int)<0) from by lia,if_false,Int.toNat_natCast,Array.getElem?_eq_none k];refine E' ?_
 first|calc E' (aaN c.typeIs (J' ?_))|refine E' (wpAny_typeNameOf_keyiter c.typeIs (J' ?_))
 show wpAny _ _ (setField (.ref it) 0 .none >>= _) _ _ s;refine E' (wpAny_setField e f nofun ?_);show wpAny _ _ (newExc (.type "StopIteration") [] >>= _) _ _ _;refine E' ?_;simp only[newExc,newTuple];refine E' (aal ?_ (by size_fits));refine E' (m:=firstArgMember _ _) (wpAny_of_eq (a:=Value.none) (by first|rfl|(simp only[firstArgMember];rfl)) ?_);refine aal ?_ (by size_fits);simp only[raiseNew];refine E' (wpAny_handled ?_);rw[show A.in1.handled=none from j];refine E' (J' (wpAny_throw ?_));refine E' (wpAny_isInstance (T:="StopIteration") (b:=true) ⟨_,X' _ rfl,rfl⟩ isSubtype_stop ?_);exact J' (l _ (((Heap.SameBut.update ..).extBut.push _).push _))
theorem Di(l:A.handled=none)(I d:Addr)(m:d≠I)(es:Array DictEntry)(ep:Nat):
  Walks prog w A I [I,d] [I] es.size (λi v=>∃e,es[i]?=some e/\v=e.key) (λi h=>h.IsKeyIter I d i es.size ep/\nV h d es ep) where
 sub:=λb c=>by simp at c;simp[c]
 frame:=λ_ _ _ a f=>⟨a.1.at λo e=>f I nofun o e,a.2.at λo e=>f d nofun o e⟩
 item:=λi s Q E j a f=>xH a.1 a.2 j λg n k=>
  f _ g s.toks ⟨_,Array.getElem?_eq_getElem j,rfl⟩ ⟨n,a.2.at λo e=>(k.2 d m).trans e⟩ λb o c e=>k.extBut b o (λh=>c (by simp[h])) e
 done:=λs Q E a f=>Bl l a.1 a.2 (P' _) λg j=>f g s.toks λb o c e=>j b o (λh=>c (by simp[h])) e
 self:=λ_ _ _ _ a f=>wpAny_pyIter_keyiter a.1 f
theorem KG(c:(d==sysModules)=false):W.KdlSrc prog w "dict" d d es.size (λi v=>∃e,es[i]?=some e/\v=e.key) (λh=>nV h d es ep) where
 type:=λ_ a=>a.type
 there:=λ_ a=>let ⟨_,e,_⟩:=a;⟨U' e,U' e⟩
 keep:=λ_ _ a b=>a.at λo e=>b d (.inl rfl) o e
 notList:=by decide
 notTuple:=by decide
 hint:=λ_ _ _ _ a b=>W.kdl_hint_dict a.type b
 iter:=λ_ s f a=>⟨_,_,(λ_ _ b=>xG c a b),Di f _ d (let ⟨_,e,_⟩:=a;aaa (U' e)) es ep,⟨⟨_,X' _ rfl,rfl,rfl⟩,a.at λo e=>K' _ e⟩⟩
end
section
variable {P:Program}{w:World}{H:Hp}{h:Heap}{a:Addr}{kvs:List (List Key×V)}
theorem rS(c:cg P w H h a (.dT kvs)):(a==sysModules)=false/\∃o es ep xs,h.get? a=some o/\o.ExactDict/\o.data=.dict es ep/\KT H kvs xs/\es.toList=xs.map (entryOfKey (tupleKind (bG P w)))/\es.size=kvs.length/\kvs.length<=sizeLine:=by
 obtain⟨z,y,xs,r,o,es,ep,d,e,f,b,g⟩:=c;calc⟨y,o,es,ep,xs,d,e,f,r,b,by rw[size_of_entries b,<-Paired.length r],z⟩
theorem Paired.get{α β:Type}{F:α->β->Prop}:∀{c:List α}{d:List β},Paired F c d->∀{i:Nat}{a:α},c[i]?=some a->∃b,d[i]?=some b/\F a b
 |_,_,.nil,i,a,e=>by simp at e
 |_,_,.cons r t,0,a,e=>by cases e;calc⟨_,rfl,r⟩
 |_,_,.cons r t,i+1,a,e=>Paired.get t (i:=i) e
theorem Bm{xs:List (List Key×Addr×Value)}{es:Array DictEntry}(r:KT H kvs xs)(a:es.toList=xs.map (entryOfKey (tupleKind (bG P w)))){i:Nat}{k:List Key}{x:V}(e:kvs[i]?=some (k,x)):
  ∃b y,es[i]?=some ⟨(tupleKind (bG P w)).hash k,.ref b,y⟩/\H b=some (.tup (k.map kV))/\RelV x y:=by
 obtain⟨q,b,c,d,f⟩:=Paired.get r e;calc⟨q.2.1,q.2.2,?_,d,f⟩;rw[PySem.entry_at a i,b];show some (entryOfKey _ q)=_;rw[show entryOfKey (tupleKind (bG P w)) q=⟨(tupleKind (bG P w)).hash q.1,.ref q.2.1,q.2.2⟩ from rfl,<-c]
end
theorem Bn:∀(us:List Value),(∀i,i<us.length->∃b,us[i]?=some (Value.ref b))->∃bs:List V,Vals bs us/\∀(i:Nat) b,us[i]?=some (Value.ref b)->bs[i]?=some (.ref b)
 | [],_=>⟨[],.nil,λi b e=>by simp at e⟩
 |u::us,h=>by
  obtain⟨b,e⟩:=h 0 nofun;obtain rfl:u=.ref b:=by simpa using e
  obtain⟨bs,a,d⟩:=Bn us λi f=>by simpa using h (i+1) (by simpa using f)
  refine⟨.ref b::bs,.cons rfl a,λi c e=>?_⟩
  cases i with
  |zero=>simp at e;simp[e]
  |succ i=>simpa using d i c (by simpa using e)
def Uq(a:Addr)(o:Obj)(kvs:List (List Key×V)):It:=
 ⟨λi H=>i<kvs.length/\H a=some (.lD o (.dT kvs)),λi H v c=>c=H/\∃k x b,kvs[i]?=some (k,x)/\v=.ref b/\H b=some (.tup (k.map kV)),λi H=>kvs.length<=i/\H a=some (.lD o (.dT kvs))⟩
section
variable {P:Program}{w:World}{K:W.Frag}{tg:Expr}{X:Cx}{pins:List (Addr×Obj)}{σ:St}{H:Hp}{s:Shared}{a:Addr}{kvs:List (List Key×V)}
theorem Dj(a g:Addr){o:Obj}{es:Array DictEntry}{ep:Nat}(hd:o.data=.dict es ep)(hz:es.size=kvs.length):Turn P w K tg (Uq a o kvs) [g] g (λi h=>h.IsKeyIter g a i es.size ep) where
 mem:=by simp
 obj:=λi h f b j=>by
  have e:b=g:=by simpa using j
  subst e;obtain⟨o,e,c,d⟩:=f;exact⟨o,e,λv z=>by rw[d]at z;cases z⟩
 keep:=λi h n f k=>f.at λo e=>k g nofun o e
 item:=by
  intro X q t u O i pins s σ H E I p f x;subst q t u;obtain⟨A,B⟩:=x;obtain⟨l,C⟩:=(show cg X.prog X.w H s.heap a (.lD o (.dT kvs)) from I.aO a _ B)
  obtain⟨_,R,S,T,U,m,D,F,r,Q,W,Y⟩:=rS C;rw[l]at m;obtain rfl:=Option.some.inj m;rw[hd]at F
  cases F;obtain⟨G,J,Z,L,M,N⟩:=p g nofun;obtain⟨b,y,c,v,_⟩:=Bm r Q (cy A);have d:i<es.size:=by lia
  rw[Array.getElem?_eq_getElem d]at c;calc xH f ⟨o,l,D,hd⟩ d λn k y=>?_;have d:Inv X pins σ H {s with heap:=n}:=I.turned (t':=s.toks) (λb o j e=>(y.2 b j).trans e) G J L M N;obtain⟨oi,z,ci,di⟩:=id k;exact⟨_,rfl,Az (s:={s with heap:=n}) z ci di ∅ ⟨.ref b,H,d,by rw[Option.some.inj c];rfl,⟨rfl,_,_,b,cy A,rfl,v⟩,k,λb j=>(p b j).1⟩⟩
 done:=by
  intro X q t u O i pins s σ H E I p f x;subst q t u;obtain⟨A,B⟩:=x;obtain⟨l,C⟩:=(show cg X.prog X.w H s.heap a (.lD o (.dT kvs)) from I.aO a _ B)
  obtain⟨_,R,S,T,U,m,D,F,r,Q,W,Y⟩:=rS C;rw[l]at m;obtain rfl:=Option.some.inj m;obtain⟨G,J,Z,L,M,N⟩:=p g nofun;exact Bl (I.ok.hd O) f ⟨o,l,D,hd⟩ () λn c=>⟨rfl,I.turned (t':=s.toks) (λb o j e=>c b o j e) G J L M N⟩
 self:=λ_ _ _ _ _ f h=>wpAny_pyIter_keyiter f h
theorem Inv.freeze(I:Inv X pins σ H s)(e:H a=some (.dT kvs)):(a==sysModules)=false/\∃o es ep,o.data=.dict es ep/\es.size=kvs.length/\nV s.heap a es ep/\Inv X pins σ (upd H a (.lD o (.dT kvs))) s:=by
 obtain⟨d,o,es,ep,h,b,f,c,r,i,g,j⟩:=rS (show cg X.prog X.w H s.heap a (.dT kvs) from I.aO a _ e);calc⟨d,o,es,ep,c,g,⟨o,b,f,c⟩,?_⟩;refine ny (t':=s.toks) I (by rw[e];calc aah) (Heap.SameBut.refl _ _) ⟨_,b⟩ ⟨b,(I.aO a _ e).aG (λ_ _ _ q=>q) (λb z=>?_) λb c z=>?_⟩
 ·rw[av (eD z e (λq=>nomatch q))];exact z
 ·rw[av (eD z e (λq=>nomatch q))];calc z
theorem Inv.Ur{o:Obj}{u:HO}(I:Inv X pins σ H s)(e:H a=some (.lD o u))(l:∀d f,X.H₀ a≠some (.lD d f))(h:∀d f,u≠.lD d f):Inv X pins σ (upd H a u) s:=by
 have g:∀b,H b=none->upd H a u b=none:=λb z=>by rw[av (λq=>by rw[q,e]at z;cases z)];exact z
 have i:∀b h,H b=some (.tup h)->upd H a u b=some (.tup h):=λb h z=>by rw[av (eD z e (λq=>nomatch q))];exact z
 have j:∀b y,H b=some (.own y)->upd H a u b=some (.own y):=λb h z=>by rw[av (eD z e (λq=>nomatch q))];exact z
 refine⟨I.ok,I.os,I.bare,⟨I.base.keep,I.base.slot,λb o q n m=>g b (I.base.free b o q n m),I.base.there,λb h q=>i b h (I.base.aM b h q),λb d f q=>?_,λb h q=>?_⟩,I.loc,I.cell,g _ I.free,λx c q=>g c (I.j1 x c q),λp n=>?_,λb r q=>?_,I.len⟩
 ·have z:=I.base.qp b d f q;rw[av (show b≠a from λy=>l d f (by rw[<-y];calc q))];exact z
 ·obtain⟨m,z⟩:=I.base.vd b h q;exact⟨m,by rw[av (eD z e (λq=>nomatch q))];calc z⟩
 ·obtain⟨d,f,h⟩:=I.pin p n;exact⟨d,g _ f,h⟩
 ·by_cases k:b=a
  ·subst k;rw[ab]at q;obtain rfl:=Option.some.inj q;exact(show cg X.prog X.w H s.heap b u from(I.aO b _ e).2).aG (λ_ _ _ q=>q) (λc z=>j c b z) i
  ·rw[av k]at q;calc(I.aO b r q).aG (λ_ _ _ q=>q) (λc z=>j c b z) i
def Us(c:TE):TI:=λσ H R=>c σ H λv b=>∃a kvs,v=.ref a/\b a=some (.dT kvs)/\∀o,R (Uq a o kvs) (upd b a (.lD o (.dT kvs)))
theorem Bo{e:Expr}{b:TE}(f:PE X e b):PI X tg e (Us b):=by
 calc⟨?_⟩;intro pins s σ H R I h;calc cO (f pins s σ H _ I h) λv c g=>?_;obtain⟨x,b,i,j,a,kvs,k,l,q⟩:=g;subst k
 cases j;obtain⟨f,o,k,m,g,h,b,d⟩:=i.freeze l;calc xG f b ?_;calc⟨c.heap.objs.size,[c.heap.objs.size],_,_,_,rfl,d.kept (t':=c.toks) λb o e=>K' _ e,Dj a _ g h,⟨_,X' _ rfl,rfl,rfl⟩,λb f=>?_,q o⟩;have e:b=c.heap.objs.size:=by simpa using f
 subst e;calc d.Cz (P' _) (d.aO.fresh (P' _))
def Ut (t:TS):TS:=λD σ H=>t {D with
 nx:=λe d=>∃a o u,(∀b c,H a≠some (.lD b c))/\d a=some (.lD o u)/\(∀b c,u≠.lD b c)/\D.nx e (upd d a u)
 rt:=λv d=>∃a o u,(∀b c,H a≠some (.lD b c))/\d a=some (.lD o u)/\(∀b c,u≠.lD b c)/\D.rt v (upd d a u)} σ H
theorem Bp{b:Stmt}{t:TS}(h:PS X b t):PS X b (Ut t):=by
 calc⟨?_⟩;intro pins s σ H D I q;refine cO (h pins s σ H _ I q) λf b g=>?_
 cases f with
 |next=>
  obtain⟨b,j,f,a,o,u,h,e,i,z⟩:=g;calc⟨b,_,f.Ur e (λc d q=>h c d (I.base.qp a c d q)) i,z⟩
 |brk=>calc g
 |cont=>calc g
 |ret v=>
  obtain⟨y,b,j,f,r,a,o,u,h,e,i,z⟩:=g;calc⟨y,b,_,f.Ur e (λc d q=>h c d (I.base.qp a c d q)) i,r,z⟩
theorem xI{o:Obj}{g:TG}{l:TS}{D:Ends}(c:Nat->St->Hp->Prop)(r:c 0 σ H)(n:∀i σ H,c i σ H->H a=some (.lD o (.dT kvs)))
  (s:∀i k x b σ H,kvs[i]?=some (k,x)->c i σ H->H b=some (.tup (k.map kV))->g (.ref b) σ H λf j=>l {D with nx:=c (i+1),ct:=c (i+1),bk:=D.nx} f j) (t:∀σ H,c kvs.length σ H->D.nx σ H):
  ∃W:Nat->Nat->St->Hp->Prop,(∃m,W 0 m σ H)/\∀i m σ H,W i m σ H->
   ((Uq a o kvs).stop i H/\D.nx σ H)\/((Uq a o kvs).go i H/\∃N:St->Hp->Prop,(∀h d,N h d->∃q,q<m/\W (i+1) q h d)/\∀x d,(Uq a o kvs).JE i H x d->g x σ d λf j=>l {D with nx:=N,ct:=N,bk:=D.nx} f j):=by
 calc⟨λi m σ H=>m=kvs.length-i/\i<=kvs.length/\c i σ H,⟨kvs.length,nofun,Y' _,r⟩,?_⟩;rintro i m σ H ⟨rfl,g,p⟩;by_cases f:i<kvs.length
 ·calc .inr ⟨⟨f,n i σ H p⟩,c (i+1),λh d g=>⟨kvs.length-(i+1),(),rfl,f,g⟩,λx d y=>?_⟩;obtain⟨rfl,k,u,b,v,rfl,c⟩:=y;exact s i k u b σ d v p c
 ·have e:i=kvs.length:=by lia
  subst e;calc .inl ⟨⟨P' _,n _ σ H p⟩,t σ H p⟩
def ZL:List V->Hp->VK->Prop:=λvs H Q=>∃a kvs,vs=[.ref a]/\Rd H a (.dT kvs)/\∀p bs,H p=none->bs.length=kvs.length->(∀(i:Nat) k x,kvs[i]?=some (k,x)->∃b,bs[i]?=some (.ref b)/\H b=some (.tup (k.map kV)))->Q (.ref p) (upd H p (.lst bs))
theorem Dk(t:X.calm=true):fm X (.type "list") ZL:=by
 intro pins s σ H v n Q I r h;obtain⟨a,kvs,rfl,w,q⟩:=h;obtain⟨u,rfl,y⟩:=r.one
 cases y;obtain⟨r,o,h,n,v,u,z,A,B,C,j,K⟩:=rS (AW I.aO w);calc W.kdl_call (KG (es:=h) (ep:=n) r) (I.ok.hd t) ⟨o,u,z,A⟩ () λh D c E F G f=>?_;have d:∀(i:Nat) k x,kvs[i]?=some (k,x)->∃b,c[i]?=some (.ref b)/\H b=some (.tup (k.map kV)):=λi k x e=>by
  obtain⟨b,y,l,m,_⟩:=Bm B C e;have g:i<c.size:=by rw[f.1,j];exact(List.getElem?_eq_some_iff.mp e).1
  obtain⟨h,p,J⟩:=f.2 i c[i] (Array.getElem?_eq_getElem g);rw[l]at p
  cases p;exact⟨b,by rw[Array.getElem?_eq_getElem g,J],m⟩
 have n:∀i,i<c.toList.length->∃b,c.toList[i]?=some (Value.ref b):=λi g=>by
  have h:i<kvs.length:=by rw[<-j,<-f.1];simpa using g
  obtain⟨b,e,_⟩:=d i _ _ (cy h);exact⟨b,by rw[Array.getElem?_toList];calc e⟩
 obtain⟨g,h,p⟩:=Bn c.toList n;have r:g.length=kvs.length:=by rw[h.length];simp[f.1,j]
 calc⟨.ref s.heap.objs.size,_,I.laid (a:=s.heap.objs.size) (o:=.lst g) (t':=D) F (P' _) ⟨(),c.toList,E,h,by simpa using G⟩,rfl,q _ g (I.aO.fresh (P' _)) r λi k x e=>?_⟩;obtain⟨b,l,m⟩:=d i k x e;calc⟨b,p i b (by rw[Array.getElem?_toList];calc l),m⟩
end
end
section
section
variable {prog:Program}{w:World}{A:Around}{E:Value->Shared->Prop}{s:Shared}{d:Addr}{es:Array DictEntry}{ep:Nat}
theorem get_none{Q:Option Value->Shared->Prop}(x:nV s.heap d es ep)(a:∀e∈es.toList,e.hash≠4238894112)(b:∀c,Q none {s with toks:=c}):wpAny (model prog w) A (dictGet d .none) Q E s:=by
 obtain⟨o,c,_,f⟩:=x;unfold dictGet
 try with_reducible refine aaF ?_
 calc E' ?_;show wpAny _ _ (pyHashByItsType .none) _ _ _;calc W.pyHash_slot (typeIs_none s) F.slot_NoneType_hash F.entry_NoneType_hash (F.args_NoneType_hash_1 _) rfl (.inl rfl) ?_;show wpAny _ _ (do ret (<-mkInt 4238894112)) _ _ s;calc E' (wpAny_mkInt (J' ⟨_,_,rfl,?_⟩));rw[show reduceHash 4238894112=4238894112 by decide +kernel];calc E' ?_;unfold dictFind
 try with_reducible refine aaF ?_
 calc E' (aam c f ?_);have h:placesWithHash es.size (λi=>es[i]?.map (·.hash)) 4238894112=[]:=by
  unfold placesWithHash;rw[List.filter_eq_nil_iff];intro i c e;dsimp only at e
  cases q:es[i]? with
  |none=>rw[q]at e;simp at e
  |some z=>
   rw[q]at e;exact a z (Array.mem_toList_iff.mpr (Array.mem_of_getElem? q)) (by simpa using e)
 dsimp only;rw[h];rw[if_pos (by rfl)];calc E' ?_;calc J' (J' (J' (b _)))
theorem rT(c:(d==sysModules)=false)(a:Value):
  MeetsIn prog w (Builtin.«dict.get» ⟨[.ref d,.none,a],[]⟩) (λA R s=>∃es ep,nV s.heap d es ep/\(∀e∈es.toList,e.hash≠4238894112)/\∀b,R (.ok (.ret a)) {s with toks:=b}):=
 .of_wp λA R s ⟨es,ep,x,e,h⟩=>by
  show wpAny _ _ (dictGet d .none >>= _) _ _ s;calc E' (get_none x e λb=>?_);show wpAny _ _ (Builtin.Dict.missed d .none >>= _) _ _ _;calc E' (wpAny_missed_other c (J' ⟨a,rfl,h _⟩))
end
section
variable {prog:Program}{w:World}{K:Type} [DecidableEq K]{knd:HeapKind prog w K}{A:Around}{E:Value->Shared->Prop}{s:Shared}
theorem rV{d a:Addr}{xs:List (K×Addr×Value)}{k:K}{v:Value}{Q:Unit->Shared->Prop}(p:knd.room A)(j:knd.is s.heap k a)(u:s.heap.DictOfH knd d xs)
  (l:∀h',h'.DictOfH knd d (storedH xs k a v)->Heap.SameBut d s.heap h'->Q ⟨⟩ {s with heap:=h'}) (hsz:xs.length<=sizeLine):
  wpAny (model prog w) A (dictSetHashed d (.ref a) (knd.hash k) v) Q E s:=by
 obtain⟨o,z,r,f,t,b,h,q,g⟩:=u;unfold dictSetHashed
 try with_reducible refine aaF ?_
 refine E' (wpAny_dictFind_heap p j f b h q g ?_ ?_)
 ·intro i;have B:k ∉ xs.map (·.1):=not_mem_keys_of_get i;refine E' (wpAny_rule (wpAny_updateDictKeys (hz:=by have e:=size_of_entries h;lia) f b (l _ ⟨_,_,r + 1,Heap.get?_update_self _ f (Obj.isFreed_of_dict (Obj.data_mapDictKeys b _)),
   t.mapDictKeys _,Obj.data_mapDictKeys b _,?_,?_,?_⟩ (Heap.SameBut.update ..))))
  ·rw[storedH_new (atKey_none_of_get i)];simp[h,entryOfKey]
  ·rw[storedH_new (atKey_none_of_get i)];intro x c;rcases List.mem_append.mp c with c | c
   ·exact knd.keeps (q x c) f b (Heap.SameBut.update ..)
   ·simp only[List.mem_singleton]at c;subst c;exact knd.keeps j f b (Heap.SameBut.update ..)
  ·rw[storedH_new (atKey_none_of_get i),List.map_append,List.nodup_append];calc⟨g,nofun,?_⟩;intro x c y m;simp only[List.map_cons,List.map_nil,List.mem_singleton]at m;subst m;exact λe=>B (e▸c)
 ·intro j p n;refine E' (wpAny_rule (E' (wpAny_updateDict f b (wpAny_point (l _ ⟨_,_,r,Heap.get?_update_self _ f (Obj.isFreed_of_dict (Obj.data_mapDict b _)),
   t.mapDict _,Obj.data_mapDict b _,?_,?_,?_⟩ (Heap.SameBut.update ..))))))
  ·rw[storedH_old (atKey_of_get g n)];have:=modify_map_putAt (entryOfKey knd) (λe:DictEntry=>{e with val:=v}) k v (λ_ _=>rfl) g n;rw[<-h]at this;obtain⟨l⟩:=z;simpa using this
  ·rw[storedH_old (atKey_of_get g n)];intro x c;obtain⟨y,m,rfl⟩:=List.mem_map.mp c;unfold putAt;split<;>exact knd.keeps (q y m) f b (Heap.SameBut.update ..)
  ·rw[storedH_old (atKey_of_get g n),keys_map_putAt];calc g
def dj(xs b:List (K×Addr×Value)):List (K×Addr×Value):=b.foldl (λa y=>storedH a y.1 y.2.1 y.2.2) xs
theorem rW(xs a:List (K×Addr×Value)):(dj xs a).length<=xs.length+a.length:=by
 induction a generalizing xs with
 |nil=>simp[dj]
 |cons y a b=>
  have c:=b (storedH xs y.1 y.2.1 y.2.2);have c:(storedH xs y.1 y.2.1 y.2.2).length<=xs.length+1:=by unfold storedH;split<;>simp
  show(dj (storedH xs y.1 y.2.1 y.2.2) a).length<=_;rw[List.length_cons];lia
theorem vN{xs a:List (K×Addr×Value)}{i:Nat}{y:K×Addr×Value}(h:a[i]?=some y):dj xs (a.take (i+1))=storedH (dj xs (a.take i)) y.1 y.2.1 y.2.2:=by
 unfold dj;rw[List.take_add_one,h,List.foldl_append];rfl
theorem tJ(a b:List (K×Addr×Value))(c:((a++b).map (·.1)).Nodup):dj a b=a++b:=by
 induction b generalizing a with
 |nil=>simp[dj]
 |cons y b d=>
  have f:atKey a y.1=none:=atKey_none_of_get λj p e=>by
   rw[List.map_append,List.map_cons,List.nodup_append]at c;exact c.2.2 y.1 (List.mem_map.mpr ⟨(y.1,p),aad e,rfl⟩) y.1 aag rfl
  show dj (storedH a y.1 y.2.1 y.2.2) b=_;rw[storedH_new f,d _ (by simpa using c)];simp
theorem lW:∀{a:List (K×Addr×Value)},(a.map λy=>knd.hash y.1).Nodup->∀{z:K×Addr×Value},z∈a->((a.map (entryOfKey knd)).filter λx=>x.hash==(entryOfKey knd z).hash).length<=1
 | [],_,z,b=>by simp at b
 |y::a,h,z,b=>by
  rw[List.map_cons,List.nodup_cons]at h;rw[List.map_cons,List.filter_cons];by_cases e:knd.hash y.1=knd.hash z.1
  ·have c:((a.map (entryOfKey knd)).filter λx=>x.hash==(entryOfKey knd z).hash)=[]:=by
    rw[List.filter_eq_nil_iff];intro x d q;obtain⟨u,f,rfl⟩:=List.mem_map.mp d;exact h.1 (List.mem_map.mpr ⟨u,f,by rw[e];calc(beq_iff_eq.mp q)⟩)
   rw[c];split<;>simp
  ·rw[if_neg (by simpa[entryOfKey] using e)];rcases List.mem_cons.mp b with rfl | b
   ·exact absurd rfl e
   ·calc lW h.2 b
theorem zL{Z:String}{d o:Addr}{xs g:List (K×Addr×Value)}{Q:Unit->Shared->Prop}(hu:knd.room A)(t:d≠o)(N:(o==sysModules)=false)
  (O:s.heap.DictOfH knd d xs) (ho:s.heap.DictOfH knd o g) (hsz:xs.length+g.length<=sizeLine) (P:xs=[]->(g.map λy=>knd.hash y.1).Nodup)
  (hT:∀e∈g,s.TypeIs (.ref e.2.1) "tuple")
  (G:∀h',h'.DictOfH knd d (dj xs g)->Heap.SameBut d s.heap h'->Q ⟨⟩ {s with heap:=h'}):
  wpAny (model prog w) A (Builtin.Dict.mergeDict Z d o) Q E s:=by
 obtain⟨od,R,S,u,yR,q,T,iq,hnd⟩:=id O;obtain⟨oo,j,epo,z,hco,r,B,C,EZ⟩:=id ho;unfold Builtin.Dict.mergeDict;rw[if_neg (by simpa using t)];unfold Builtin.Dict.showsAll;rw[if_neg (by rw[N];calc Bool.false_ne_true)];calc E' (J' ?_);calc E' (aam z r ?_);have m:j.size=g.length:=size_of_entries B;have n:wpAny (model prog w) A (do
   let Uw <-dictEpoch o
   let l <-dictEntries o
   forIn [:l.size] PUnit.unit λi (_:PUnit)=>(do
     let l' <-dictEntries o
     match l'[i]? with
      | some e=>do
       holding [e.key,e.val] (dictSetHashed d e.key e.hash e.val)
       let NK <-dictEpoch o
       if (NK != Uw)=true then do
         (unsupported (toString Z++toString ":source-changed-during-callback"):Sem PUnit)
         pure (ForInStep.yield PUnit.unit)
        else pure (ForInStep.yield PUnit.unit)
      | _=>do
       (unsupported "internal:dict-merge":Sem PUnit)
       pure (ForInStep.yield PUnit.unit):Sem (ForInStep PUnit))
   pure ⟨⟩) Q E s:=by
  calc E' (wpAny_dictEpoch z r ?_);calc E' (aam z r ?_);calc E' ?_;rw[Std.Legacy.Range.forIn_eq_forIn_range'];simp only[Std.Legacy.Range.size,Nat.sub_zero,Nat.add_sub_cancel,Nat.div_one];refine wpAny_forIn_list _
   (λc _ p=>∃h' i,p={s with heap:=h'}/\c=List.range' i (j.size-i)/\i<=j.size/\h'.DictOfH knd d (dj xs (g.take i))/\h'.get? o=some oo/\Heap.SameBut d s.heap h')
   _ ?_ ?_ _ _ ⟨s.heap,0,rfl,nofun,Y' _,by simpa[dj] using O,z,Heap.SameBut.refl _ _⟩
  ·rintro x c b p ⟨h',i,rfl,hr,hi,I,U,J⟩;have iz:i<j.size:=by
    rcases Nat.lt_or_ge i j.size with h|h
    ·exact h
    ·rw[Nat.sub_eq_zero_of_le h]at hr;simp at hr
   obtain⟨rfl,Ux⟩:x=i/\c=List.range' (i+1) (j.size-(i+1)):=by
    have e:j.size-i=(j.size-(i+1))+1:=by lia
    rw[e,List.range'_succ]at hr;injection hr with h1 h2
    exact⟨h1,h2⟩
   calc E' (aam U r ?_);obtain⟨⟨k,a,v⟩,W⟩:∃y,g[x]?=some y:=⟨g[x]'(by rw[<-m];calc iz),cy _⟩
   rw[PySem.entry_at B x,W];show wpAny _ _ (holding [.ref a,v] (dictSetHashed d (.ref a) (knd.hash k) v) >>= _) _ _ _;have X:(dj xs (g.take x)).length<=sizeLine:=by
    have e1:=rW xs (g.take x);have e2:(g.take x).length<=g.length:=by rw[List.length_take];lia
    lia
   have CI:knd.is h' k a:=knd.keeps (C _ (aad W)) u q J;calc E' (aaF (rV (s:={s with heap:=h'}) hu CI I (λRy ZO Uy=>?_) X));have Mn:Ry.get? o=some oo:=(Uy.2 o (Ne.symm t)).trans U;calc E' (wpAny_dictEpoch Mn r ?_);rw[if_neg nofun];exact J' ⟨Ry,x+1,rfl,Ux,iz,by rw[vN W];calc ZO,Mn,J.trans Uy⟩
  ·rintro b p ⟨h',i,rfl,hr,hi,I,U,J⟩;have L:i=j.size:=by
    rcases Nat.lt_or_ge i j.size with h|h
    ·have e:j.size - i=(j.size - (i + 1)) + 1:=by lia
     rw[e,List.range'_succ]at hr;exact nomatch hr
    ·exact Nat.le_antisymm hi h
   calc J' (G h' ?_ J);rw[L,m,List.take_length]at I;exact I
 dsimp only;split
 ·calc E' (aam u q ?_);split
  ·rename_i ZP;have Mo:xs=[]:=by
    have Y:R=#[]:=Array.isEmpty_iff.mp ZP;have:=size_of_entries T;rw[Y]at this;exact List.length_eq_zero_iff.mp (by simpa using this.symm)
   subst Mo;have P:=P rfl;calc E' ?_;unfold Builtin.Dict.entriesForEmpty;calc E' (aam z r ?_);calc E' ?_;rw[<-Array.forIn_toList];refine wpAny_forIn_list _ (λc _ p=>p=s/\∀e∈c,e∈j.toList) _ ?_ ?_ _ _ ⟨rfl,λe h=>h⟩
   ·rintro e c b p ⟨rfl,hr⟩;have L:=hr e aag;rw[B] at L;obtain⟨y,M,rfl⟩:=List.mem_map.mp L;refine E' ?_;show wpAny _ _ (do return (<-specialOf (.ref y.2.1) "__eq__") == some (.builtin "object.__eq__")) _ _ _;refine E' (wpAny_specialOf (hT y M) F.slot_tuple_eq.lookup (J' ?_));rw[show(some (Value.builtin "tuple.__eq__") == some (Value.builtin "object.__eq__"))=false by decide];rw[if_pos (show(!false)=true from rfl)];rw[if_neg ?_]
    ·exact J' ⟨rfl,λe h=>hr e (aac _ h)⟩
    ·rw[<-Array.length_toList,Array.toList_filter,B];exact Nat.not_lt.mpr (lW P M)
   ·rintro b p ⟨rfl,_⟩;calc J' ?_;have hm:=tJ [] g (by simpa using EZ);rw[List.nil_append] at hm;rw[hm] at G;split
    ·refine E' (wpAny_updateDictKeysTo u q (J' (G _ ⟨_,_,S + 1,Heap.get?_update_self _ u (Obj.isFreed_of_dict (Obj.data_mapDictKeys q _)),yR.mapDictKeys _,
      Obj.data_mapDictKeys q _,B,λy M=>knd.keeps (C y M) u q (Heap.SameBut.update ..),EZ⟩ (Heap.SameBut.update ..))) (by simp at hsz;lia))
    ·rename_i oU;have Y:j=#[]:=Array.isEmpty_iff.mp (by simpa using oU);have zM:g=[]:=List.length_eq_zero_iff.mp (by rw[<-m,Y];rfl);subst zM;exact J' (G _ O (Heap.SameBut.refl _ _))
  ·exact n
 ·calc n
end
def ku(kvs a:List (List Key×V)):List (List Key×V):=a.foldl (λb c=>putK b c.1 c.2) kvs
theorem KT.merge{H:Hp}:∀{a:List (List Key×V)}{b:List (List Key×Addr×Value)}{kvs:List (List Key×V)}{xs:List (List Key×Addr×Value)},KT H a b->KT H kvs xs->KT H (ku kvs a) (dj xs b)
 |_,_,_,_,.nil,q=>q
 |p::a,y::b,kvs,xs,.cons h r,q=>by
  obtain⟨c,d,f⟩:=h;have e:=q.put p.1 d f;rw[show storedH xs p.1 y.2.1 y.2.2=storedH xs y.1 y.2.1 y.2.2 by rw[c]]at e;show KT H (ku (putK kvs p.1 p.2) a) (dj (storedH xs y.1 y.2.1 y.2.2) b);calc KT.merge r e
def Br(k:List Key):Int->Prop:=λh=>∀(P:Program) (w:World),(tupleKind (bG P w)).hash k=h
section
variable {X:Cx}
def ZQ:V->List V->Hp->VK->Prop:=λx vs H Q=>∃a b kvs c,x=.ref a/\vs=[.ref b]/\a≠b/\H a=some (.dT kvs)/\Rd H b (.dT c)/\kvs.length+c.length<=sizeLine/\(kvs=[]->∃d:List Int,d.Nodup/\d.length=c.length/\∀(i:Nat) p h,c[i]?=some p->d[i]?=some h->Br p.1 h)/\Q .bC (upd H a (.dT (ku kvs c)))
def Mp:V->List V->Hp->VK->Prop:=λx vs H Q=>∃a y z o,x=.ref a/\vs=[y,z]/\(fK H a y o\/(y=.bC/\o=none/\∃kvs,Rd H a (.dT kvs)/\∀p∈kvs,∃h,Br p.1 h/\h≠4238894112))/\Q (o.getD z) H
theorem xJ(g:X.A.units+1<cLine):Ot X "dict.get" Mp:=by
 intro d s σ H x D v E Q I i n h;obtain⟨a,y,z,o,rfl,rfl,b,q⟩:=h
 cases i;obtain⟨G,r,rfl,e,f⟩:=n.two;rcases b with b|⟨rfl,rfl,c,b,t⟩
 ·exact OH g I b e f λh i a d=>⟨_,H,a,d,q⟩
 ·cases e;obtain⟨h,o,i,n,s,a,d,g,j,u,v,x⟩:=rS (AW I.aO b);calc call_meetsIn IL (nV.type ⟨o,a,d,g⟩) Rk (PySem.F.args_dict_get_3 _ _ _) (rT h r) ⟨i,n,⟨o,a,d,g⟩,λe k=>?_,λa=>⟨z,H,I.tok _,f,q⟩⟩;rw[u] at k;obtain⟨p,B,rfl⟩:=List.mem_map.mp k;obtain⟨i,a⟩:=List.mem_iff_getElem?.mp B;have l:i < c.length:=by rw[Paired.length j];exact(List.getElem?_eq_some_iff.mp a).1
  obtain⟨b,m,C⟩:=Paired.get j (cy l);rw[a]at m
  cases m;obtain⟨k,a,b⟩:=t _ (aae l);show(tupleKind (bG X.prog X.w)).hash p.1≠_;rw[<-C.1,a];calc b
theorem KI(r:X.A.units+1<cLine):Ot X "dict.update" ZQ:=by
 intro e s σ H x O v P Q I t u h;obtain⟨a,b,d,c,rfl,rfl,y,n,A,R,B,q⟩:=h
 cases t;obtain⟨T,rfl,C⟩:=u.one
 cases C;obtain⟨z,D,p,f,o⟩:=L8 I.aO n;obtain⟨e,E,k,m,j⟩:=qg I.aO A;have G:=Paired.length f;have e:=Paired.length m;refine call_meetsIn PySem.F.slot_dict_update o.typeIs PySem.F.entry_dict_update (PySem.F.args_dict_update_2 _ _) (.of_wp (S:=λA R i=>A=X.A/\i=s/\∀g,g.DictOfH (tupleKind (bG X.prog X.w)) a (dj p k)->Heap.SameBut a s.heap g->R (.ok (.ret .none)) {s with heap:=g}) λA R i ⟨J,K,L⟩=>?_) ⟨rfl,rfl,λg M N=>?_⟩
 ·subst J K;unfold Builtin.«dict.update»;refine E' ?_;unfold Builtin.Dict.selfAndRest;refine E' (wpAny_notOrdered_dict o.typeIs ?_);show wpAny _ _ (pure (a,[Value.ref b])) _ _ i;refine J' ?_;show wpAny _ _ (Builtin.Dict.updateFrom "dict.update" a (.ref b) [] .none) _ _ i;unfold Builtin.Dict.updateFrom;refine E' (wpAny_typeOf j.typeIs ?_);rw[if_neg ∅];refine E' ?_;unfold Builtin.Dict.merge;refine E' ?_;unfold Builtin.Dict.readDirectly;refine E' (wpAny_isInstance j.typeIs isSubtype_dict_dict ?_);simp only[Bool.not_true,Bool.false_eq_true,if_false];refine E' (wpAny_specialOf j.typeIs F.slot_dict_iter.lookup (J' ?_));simp only[beq_self_eq_true,if_true];refine E' (J' ?_);refine zL (tupleKind_room_in1 r) y E o j () (λe=>?_) (λe r=>?_) λg t u=>?_
  ·have h:d=[]:=List.length_eq_zero_iff.mp (by rw[G,e];rfl);obtain⟨b,v,i,x⟩:=B h;have:(k.map λy=>(tupleKind (bG X.prog X.w)).hash y.1)=b:=by
    apply List.ext_getElem?;intro i;rw[List.getElem?_map];by_cases h:i<c.length
    ·obtain⟨y,A,B⟩:=Paired.get m (cy h);have o:=cy (l:=b) (i:=i) ();rw[A,o];show some ((tupleKind (bG X.prog X.w)).hash y.1)=some _;rw[<-B.1,x i _ _ (cy h) o]
    ·rw[List.getElem?_eq_none (),List.getElem?_eq_none ()];rfl
   rw[this];exact v
  ·obtain⟨_,_,_,_,_,_,_,h,_⟩:=j;exact(h e r).typeIs
  ·show wpAny _ _ (Builtin.Dict.addKeywords a [] >>= _) _ _ _;exact E' (J' (J' ⟨.none,rfl,L g t u⟩))
 ·obtain⟨a,h,i,g,j,o,r,_,t⟩:=M;have b:(ku d c).length<=sizeLine:=by
   have:=rW p k;have e:=Paired.length (KT.merge m f);lia
  calc⟨.bC,_,ny (ob:=.dT (ku d c)) (t':=s.toks) I (by rw[n];calc aah) N ⟨a,g⟩ ⟨b,D,_,(KT.merge m f).keeps λc k d=>?_,a,h,i,g,j,o,r,t⟩,rfl,q⟩;rw[av (eD d n (λz=>nomatch z))];calc d
end
end
end L2
namespace L2
open PySem PySem.Spec PyProof.Rows DD
def xK(p:Int×Int):Int:=reduceHash (Builtin.Tuple.tupleHashOf [hashInt p.1,hashInt p.2])
def jF:List (Int×Int):=(List.range 205).map λi=>(((i/41:Nat):Int),((i%41:Nat):Int))
theorem KL:(jF.map xK).Nodup:=by decide +kernel
theorem KN:∀p∈jF,xK p≠4238894112:=by decide +kernel
abbrev Ev:=Int×Int
def kE(p:Ev):List Key:=[.inl p.1,.inl p.2]
theorem vO{p q:Ev}(h:kE p=kE q):p=q:=by
 unfold kE at h;injection h with h1 h2
 injection h2 with h2 _
 calc Prod.ext (Sum.inl.inj h1) (Sum.inl.inj h2)
theorem Bs(p:Ev):Br (kE p) (xK p):=λP w=>rfl
theorem uF{α β:Type}{f:α->β}:∀{l:List α},(l.map f).Nodup->∀{x y},x∈l->y∈l->f x=f y->x=y
 |a::l,h,x,y,c,d,e=>by
  rw[List.map_cons,List.nodup_cons]at h;rcases List.mem_cons.mp c with b|b<;>rcases List.mem_cons.mp d with a|a
  ·rw[b,a]
  ·exact absurd (List.mem_map.mpr ⟨y,a,by rw[<-e,b]⟩) h.1
  ·exact absurd (List.mem_map.mpr ⟨x,b,by rw[e,a]⟩) h.1
  ·calc uF h.2 b a e
theorem Bt{p:Ev}(c:0<=p.1)(d:p.1<5)(e:0<=p.2)(f:p.2<=40):p∈jF:=by
 obtain⟨a,b⟩:=p;calc List.mem_map.mpr ⟨a.toNat*41+b.toNat,List.mem_range.mpr (by simp only at *;lia),Prod.ext ?_ ?_⟩<;>(simp only at *;lia)
theorem Gj{α β:Type}{f:α->β}:∀{l:List α},l.Nodup->(∀x∈l,∀y∈l,f x=f y->x=y)->(l.map f).Nodup
 | [],_,_=>List.nodup_nil
 |a::l,h,g=>by
  rw[List.nodup_cons]at h;rw[List.map_cons,List.nodup_cons];calc⟨λz=>?_,Gj h.2 λx c y b=>g x (aac _ c) y (aac _ b)⟩;obtain⟨y,b,e⟩:=List.mem_map.mp z;calc h.1 (g y (aac _ b) a aag e▸b)
theorem Dn{a:List (List Key×V)}{es:List Ev}(h:a.map (·.1)=es.map kE)(j:es.Nodup)(g:∀p∈es,p∈jF):
  ∃c:List Int,c.Nodup/\c.length=a.length/\∀(i:Nat) p h,a[i]?=some p->c[i]?=some h->Br p.1 h:=by
 calc⟨es.map xK,Gj j λx c y k e=>uF KL (g x c) (g y k) e,by have:=congrArg List.length h;simpa using this.symm,λi p z c b=>?_⟩;have d:(a.map (·.1))[i]?=some p.1:=by rw[List.getElem?_map,c];rfl
 rw[h,List.getElem?_map]at d;rw[List.getElem?_map]at b
 cases q:es[i]? with
 |none=>rw[q]at b;cases b
 |some y=>
  rw[q]at b d
  cases b;rw[<-Option.some.inj d];calc Bs y
abbrev Lg:=List (Ev×Option Ev)
def gv(L:Lg)(m:Int):Nat:=(L.filter λx=>decide (x.1.1=m)).length
theorem jq{L:Lg}{x:Ev×Option Ev}{m:Int}:gv (L++[x]) m=gv L m+if x.1.1=m then 1 else 0:=by
 unfold gv;rw[List.filter_append,List.length_append];congr 1;by_cases h:x.1.1=m<;>simp[h]
inductive gn(n:Nat):Lg->Prop
 |nil:gn n []
 |snoc {L:Lg} {e:Ev} {s:Option Ev}:gn n L->0<=e.1->e.1<n->e.2=gv L e.1+1->(∀p,s=some p->p∈L.map (·.1))->gn n (L++[(e,s)])
theorem gn.mem{n:Nat}{L:Lg}(h:gn n L):∀j k:Int,(j,k)∈L.map (·.1)↔0<=j/\j<n/\1<=k/\k<=gv L j:=by
 induction h with
 |nil=>intro j k;simp[gv];lia
 | @snoc L e s a c d f b g=>
  intro j k;rw[List.map_append,List.mem_append,g,jq];obtain⟨a,b⟩:=e;simp only[List.map_cons,List.map_nil,List.mem_singleton,Prod.mk.injEq]at c d f ⊢;by_cases q:a=j
  ·subst q;rw[if_pos rfl];lia
  ·rw[if_neg q];lia
theorem gn.inv{n:Nat}{L:Lg}{e:Ev}{s:Option Ev}(h:gn n (L++[(e,s)])):gn n L/\0<=e.1/\e.1<n/\e.2=gv L e.1+1/\e∉L.map (·.1)/\∀p,s=some p->p∈L.map (·.1):=by
 generalize c:L++[(e,s)]=M at h
 cases h with
 |nil=>simp at c
 | @snoc j k l h d f g i=>
  obtain⟨a,b⟩:=List.append_inj' c rfl;subst a;simp only[List.cons.injEq,Prod.mk.injEq,and_true]at b;obtain⟨rfl,rfl⟩:=b;calc⟨h,d,f,g,λz=>by have:=(h.mem e.1 e.2).mp z;lia,i⟩
theorem gn.take{n:Nat}{L:Lg}(h:gn n L)(i:Nat):gn n (L.take i):=by
 induction h with
 |nil=>rw[List.take_nil];calc .nil
 | @snoc L e s a b c d f g=>
  by_cases e:i<=L.length
  ·rw[List.take_append_of_le_length e];exact g
  ·rw[List.take_of_length_le (by simp;lia)];calc .snoc a b c d f
theorem gn.XX{n:Nat}{L:Lg}(h:gn n L)(b:n<=5)(c:L.length<=40){p:Ev}(a:p∈L.map (·.1)):p∈jF:=by
 have:=(h.mem p.1 p.2).mp a;have b:gv L p.1<=L.length:=List.length_filter_le _ _;calc Bt () () () ()
def eA{α:Type}(D:List (Ev×α))(p:Ev):Option α:=(D.find? λx=>decide (x.1=p)).map (·.2)
theorem jG{α:Type}{D:List (Ev×α)}{e p:Ev}{x:α}:eA (D++[(e,x)]) p=(eA D p).or (if e=p then some x else none):=by
 unfold eA;rw[List.find?_append]
 cases D.find? λx=>decide (x.1=p) with
 |some y=>rfl
 |none=>by_cases h:e=p<;>simp[h]
theorem gO{α:Type}{D:List (Ev×α)}{p:Ev}(h:p∉D.map (·.1)):eA D p=none:=by
 unfold eA;rw[List.find?_eq_none.mpr λx a q=>h (List.mem_map.mpr ⟨x,a,of_decide_eq_true q⟩)];rfl
def dA(e:Ev):Option Ev:=if e.2<=1 then none else some (e.1,e.2-1)
def eQ(n:Nat)(D:List (Ev×List Int)):Option Ev->List Int
 |none=>List.replicate n 0
 |some p=>(eA D p).getD (List.replicate n 0)
def rX(n:Nat)(D:List (Ev×List Int))(x:Ev×Option Ev):List Int:=(List.zipWith max (eQ n D (some (x.1.1,x.1.2-1))) (eQ n D x.2)).set x.1.1.toNat x.1.2
def cw(n:Nat)(L:Lg):List (Ev×List Int):=L.foldl (λD x=>D++[(x.1,rX n D x)]) []
def jH(S:List Ev)(x:Ev):List Ev:=if x∈S then S else S++[x]
def gP(D:List (Ev×List Ev))(S:List Ev):Option Ev->List Ev
 |none=>S
 |some p=>jH (((eA D p).getD []).foldl jH S) p
def oZ(D:List (Ev×List Ev))(x:Ev×Option Ev):List Ev:=gP D (gP D [] (dA x.1)) x.2
def cp(L:Lg):List (Ev×List Ev):=L.foldl (λD x=>D++[(x.1,oZ D x)]) []
theorem rY{n:Nat}{L:Lg}{x:Ev×Option Ev}:cw n (L++[x])=cw n L++[(x.1,rX n (cw n L) x)]:=by unfold cw;rw[List.foldl_append];rfl
theorem qi{L:Lg}{x:Ev×Option Ev}:cp (L++[x])=cp L++[(x.1,oZ (cp L) x)]:=by unfold cp;rw[List.foldl_append];rfl
theorem nW{S:List Ev}{x y:Ev}:y∈jH S x↔y∈S\/y=x:=by
 unfold jH;split
 ·exact⟨.inl,λh=>h.elim id λh=>by rw[h];assumption⟩
 ·simp
theorem vP{S:List Ev}{x:Ev}(h:S.Nodup):(jH S x).Nodup:=by
 unfold jH;split
 ·exact h
 ·rename_i d;rw[List.nodup_append];calc⟨h,nofun,λa f b c=>by simp at c;subst c;calc λe=>d (e▸f)⟩
theorem mh{y:Ev}:∀{T S:List Ev},y∈T.foldl jH S↔y∈S\/y∈T
 | [],S=>by simp
 |x::T,S=>by rw[List.foldl_cons,mh,nW,List.mem_cons];calc or_assoc
theorem o7:∀{T S:List Ev},S.Nodup->(T.foldl jH S).Nodup
 | [],S,h=>h
 |x::T,S,h=>o7 (T:=T) (vP h)
structure Pr(n:Nat)(L:Lg)(e:Ev)(R:List Int)(S:List Ev):Prop where
 len:R.length=n
 nd:S.Nodup
 out:e∉S
 mem:∀j k:Int,((j,k)∈S\/(j,k)=e)↔0<=j/\j<n/\1<=k/\k<=R.getD j.toNat 0
 pos:∀j:Nat,j<n->0<=R.getD j 0/\R.getD j 0<=gv L j
 own:R.getD e.1.toNat 0=e.2
theorem Dp{a b:List Int}{j:Nat}{n:Nat}(c:a.length=n)(d:b.length=n)(h:j<n):(List.zipWith max a b).getD j 0=max (a.getD j 0) (b.getD j 0):=by
 rw[List.getD_eq_getElem?_getD,List.getD_eq_getElem?_getD,List.getD_eq_getElem?_getD,List.getElem?_zipWith,cy (),cy ()];rfl
theorem gn.all{n:Nat}{L:Lg}(h:gn n L):(cw n L).map (·.1)=L.map (·.1)/\(cp L).map (·.1)=L.map (·.1)/\∀e∈L.map (·.1),∃R S,eA (cw n L) e=some R/\eA (cp L) e=some S/\Pr n L e R S:=by
 induction h with
 |nil=>calc⟨rfl,rfl,λe U=>by simp at U⟩
 | @snoc L e s l F G W X U=>
  obtain⟨m,I,J⟩:=U;have g:e∉L.map (·.1):=λz=>by have:=(l.mem e.1 e.2).mp z;lia
  rw[rY,qi];calc⟨by rw[List.map_append,List.map_append,m];rfl,by rw[List.map_append,List.map_append,I];rfl,λp d=>?_⟩;have Y:∀j:Int,gv L j<=gv (L++[(e,s)]) j:=λj=>by rw[jq];lia
  by_cases K:p=e
  ·subst K;have i:∀o:Option Ev,(∀q,o=some q->q ∈ L.map (·.1))->(eQ n (cw n L) o).length=n/\(∀a:List Ev,a.Nodup->(gP (cp L) a o).Nodup)/\
     (∀j:Nat,j<n->0<=(eQ n (cw n L) o).getD j 0/\(eQ n (cw n L) o).getD j 0<=gv L j)/\
     (∀(a:List Ev) (j k:Int),(j,k)∈gP (cp L) a o↔(j,k)∈a\/(0<=j/\j<n/\1<=k/\k<=(eQ n (cw n L) o).getD j.toNat 0)):=by
    intro o Z
    cases o with
    |none=>
     calc⟨by simp[eQ],λa h=>h,λj c=>by simp[eQ,List.getD_eq_getElem?_getD,List.getElem?_replicate,c],λa j k=>?_⟩;show _∈a↔_;calc⟨.inl,λz=>z.elim id λz=>?_⟩;have:(eQ n (cw n L) none).getD j.toNat 0=0:=by simp[eQ,List.getD_eq_getElem?_getD,List.getElem?_replicate];split<;>rfl
     lia
    |some q=>
     obtain⟨R,S,t,w,b⟩:=J q (Z q rfl);have U:eQ n (cw n L) (some q)=R:=by simp[eQ,t]
     have o:∀a,gP (cp L) a (some q)=jH (S.foldl jH a) q:=λa=>by simp[gP,w]
     rw[U];calc⟨b.len,λa h=>by rw[o];calc vP (o7 h),b.pos,λa j k=>?_⟩;rw[o,nW,mh,<-b.mem j k,or_assoc]
   have ZR:∀q,dA p=some q->q∈L.map (·.1):=λq e=>by
    unfold dA at e;split at e
    ·cases e
    ·cases e;exact(l.mem _ _).mpr ⟨F,G,(),()⟩
   have e1:eQ n (cw n L) (some (p.1,p.2-1))=eQ n (cw n L) (dA p):=by
    unfold dA;split
    ·have:eA (cw n L) (p.1,p.2-1)=none:=gO λz=>by
      rw[m]at z;have:=(l.mem _ _).mp z;lia
     simp[eQ,this]
    ·rfl
   obtain⟨M,a2,N,O⟩:=i (dA p) ZR;obtain⟨P,b2,T,b4⟩:=i s X;generalize eQ n (cw n L) (dA p)=A at *;generalize hB:eQ n (cw n L) s=B at *;have y:p.1.toNat<n:=by lia
   have hz:(List.zipWith max A B).length=n:=by rw[List.length_zipWith,M,P];lia
   have hR:rX n (cw n L) (p,s)=(List.zipWith max A B).set p.1.toNat p.2:=by unfold rX;simp only;rw[e1,hB]
   have hS:oZ (cp L) (p,s)=gP (cp L) (gP (cp L) [] (dA p)) s:=rfl;have C:∀j:Nat,j<n->((List.zipWith max A B).set p.1.toNat p.2).getD j 0=if j=p.1.toNat then p.2 else max (A.getD j 0) (B.getD j 0):=λj c=>by
    rw[List.getD_eq_getElem?_getD,List.getElem?_set];by_cases q:p.1.toNat=j
    ·rw[if_pos q,if_pos q.symm,if_pos ()];rfl
    ·rw[if_neg q,if_neg (Ne.symm q),<-List.getD_eq_getElem?_getD,Dp M P c]
   have am:A.getD p.1.toNat 0=p.2-1:=by
    have u:=N p.1.toNat y;rw[show((p.1.toNat:Nat):Int)=p.1 by lia]at u;by_cases q:p.2<=1
    ·lia
    ·have v:=(O [] p.1 (p.2 - 1)).mp (by rw[show dA p=some (p.1,p.2 - 1) by unfold dA;rw[if_neg q]];calc nW.mpr (.inr rfl));rcases v with v | v
     ·simp at v
     ·lia
   have a:B.getD p.1.toNat 0<=p.2-1:=by
    have u:=T p.1.toNat y;rw[show((p.1.toNat:Nat):Int)=p.1 by lia]at u;lia
   calc⟨_,_,by rw[jG,gO (by rw[m];calc g),if_pos rfl];rfl,by rw[jG,gO (by rw[I];calc g),if_pos rfl];rfl,?_⟩;show Pr n _ p (rX n (cw n L) (p,s)) (oZ (cp L) (p,s));have a:∀j k:Int,(j,k)∈oZ (cp L) (p,s)↔(0<=j/\j<n/\1<=k/\k<=A.getD j.toNat 0)\/(0<=j/\j<n/\1<=k/\k<=B.getD j.toNat 0):=λj k=>by
    rw[hS,b4,O];simp
   rw[hR];refine⟨by rw[List.length_set];calc hz,b2 _ (a2 [] List.nodup_nil),λz=>?_,λj k=>?_,λj c=>?_,by rw[C _ y,if_pos rfl]⟩
   ·have:=(a p.1 p.2).mp z;lia
   ·rw[a];by_cases q:0<=j/\j < n
    ·rw[C j.toNat ()];by_cases r:j=p.1
     ·subst r;rw[if_pos rfl,am];have:((p.1,k)=p)↔k=p.2:=⟨λz=>by rw[<-z],λz=>by rw[z]⟩
      rw[this];lia
     ·rw[if_neg ()];have:¬((j,k)=p):=λz=>r (by rw[<-z]);rw[or_iff_left this];generalize A.getD j.toNat 0=x;generalize B.getD j.toNat 0=y;lia
    ·have:¬((j,k)=p):=λz=>q (by rw[show j=p.1 by rw[<-z]];calc⟨F,G⟩);constructor
     ·rintro(z | z)
      ·lia
      ·exact absurd z this
     ·intro z;lia
   ·rw[C j c,jq];have u:=N j c;have v:=T j c;by_cases q:j=p.1.toNat
    ·subst q;have a:((p.1.toNat:Nat):Int)=p.1:=by lia
     rw[if_pos rfl,a,if_pos rfl];have e:0<=(gv L p.1:Int):=Int.natCast_nonneg _;exact⟨(),by rw[W];push_cast;lia⟩
    ·rw[if_neg q];lia
  ·have Ei:p∈L.map (·.1):=by
    rw[List.map_append,List.mem_append]at d;rcases d with d|d
    ·exact d
    ·exact absurd (by simpa using d) K
   obtain⟨R,S,t,w,b⟩:=J p Ei;calc⟨R,S,by rw[jG,t];rfl,by rw[jG,w];rfl,b.len,b.nd,b.out,b.mem,λj c=>⟨(b.pos j c).1,Int.le_trans (b.pos j c).2 (by have:=Y j;lia)⟩,b.own⟩
def xM(n:Nat)(e:Ev)(S:List Ev):List Int:=S.foldl (λf x=>f.set x.1.toNat (f.getD x.1.toNat 0+1)) ((List.replicate n 0).set e.1.toNat 1)
theorem zN{n:Nat}:∀(S:List Ev) (f:List Int),f.length=n->(∀x∈S,0<=x.1/\x.1<n)->(S.foldl (λf x=>f.set x.1.toNat (f.getD x.1.toNat 0+1)) f).length=n/\
  ∀j:Nat,j<n->(S.foldl (λf x=>f.set x.1.toNat (f.getD x.1.toNat 0+1)) f).getD j 0=f.getD j 0+((S.filter λx=>decide (x.1=(j:Int))).length:Nat)
 | [],f,c,_=>⟨c,λj d=>by simp⟩
 |x::S,f,c,e=>by
  obtain⟨a,b⟩:=e x aag;obtain⟨a,b⟩:=zN S (f.set x.1.toNat (f.getD x.1.toNat 0+1)) (by rw[List.length_set];calc c) λy g=>e y (aac _ g);calc⟨a,λj d=>?_⟩;rw[List.foldl_cons,b j d,List.filter_cons,List.getD_eq_getElem?_getD (l:=f.set _ _),List.getElem?_set];by_cases q:x.1=(j:Int)
  ·rw[if_pos (),if_pos (),if_pos (by simpa using q),List.length_cons,show x.1.toNat=j by lia];simp only[Option.getD_some];lia
  ·rw[if_neg (),if_neg (by simpa using q),<-List.getD_eq_getElem?_getD]
theorem zO{j:Int}:∀(N:Nat) {S:List Ev},S.Nodup->(∀k:Int,(j,k)∈S↔1<=k/\k<=(N:Nat))->(S.filter λx=>decide (x.1=j)).length=N
 |0,S,_,h=>by
  rw[List.length_eq_zero_iff,List.filter_eq_nil_iff];intro x a e;have b:x.1=j:=of_decide_eq_true e;have:=(h x.2).mp (by rw[<-b];calc a);lia
 |N+1,S,a,h=>by
  have d:(j,((N+1:Nat):Int))∈S:=(h _).mpr ⟨(),Int.le_refl _⟩;have:=zO (j:=j) N (S:=S.erase (j,((N+1:Nat):Int))) (a.erase _) λk=>by
   rw[a.mem_erase_iff,h k];constructor
   ·rintro⟨a,b,c⟩;have:k≠((N+1:Nat):Int):=λz=>a (by rw[z]);lia
   ·rintro⟨b,c⟩;calc⟨λz=>?_,b,()⟩;have:=congrArg Prod.snd z;simp only at this;lia
  rw[<-this];have a:=(List.perm_cons_erase d).filter (λx=>decide (x.1=j));rw[a.length_eq,List.filter_cons,if_pos nofun,List.length_cons,this]
theorem Pr.due{n:Nat}{L:Lg}{e:Ev}{R:List Int}{S:List Ev}(h:Pr n L e R S)(b:0<=e.1)(g:e.1<n):xM n e S=R:=by
 have g:∀x∈S,0<=x.1/\x.1<n:=λx b=>by have:=(h.mem x.1 x.2).mp (.inl b);lia
 obtain⟨a,b⟩:=zN S ((List.replicate n (0:Int)).set e.1.toNat 1) nofun g;calc List.ext_getElem? λi=>?_;by_cases c:i<n
 ·have g:=b i c;have j:(xM n e S)[i]?=some ((xM n e S).getD i 0):=aY (by rw[show(xM n e S).length=n from a];calc c);have b:R[i]?=some (R.getD i 0):=aY (by rw[h.len];calc c);rw[j,b];congr 1;unfold xM;rw[g];have l:=(h.pos i c).1;by_cases q:e.1=(i:Int)
  ·have d:=h.own;rw[show e.1.toNat=i by lia]at d ⊢;have:(S.filter λx=>decide (x.1=(i:Int))).length=(e.2-1).toNat:=zO _ h.nd λk=>by
    have:=h.mem i k;rw[show((i:Int)).toNat=i from rfl,d]at this;constructor
    ·intro z;have u:=this.mp (.inl z);have v:k≠e.2:=λy=>h.out (by rw[show e=((i:Int),k) from Prod.ext q y.symm];calc z);lia
    ·intro z;rcases this.mpr ⟨(),(),(),()⟩ with u | u
     ·exact u
     ·have:=congrArg Prod.snd u;simp only at this;lia
   rw[this,d];have:e.2 >= 1:=by
    have:=(h.mem e.1 e.2).mp (.inr rfl);lia
   simp[List.getD_eq_getElem?_getD,List.getElem?_set,c];lia
  ·have:(S.filter λx=>decide (x.1=(i:Int))).length=(R.getD i 0).toNat:=zO _ h.nd λk=>by
    have:=h.mem i k;rw[show((i:Int)).toNat=i from rfl]at this;constructor
    ·intro z;have u:=this.mp (.inl z);lia
    ·intro z;rcases this.mpr ⟨(),(),(),()⟩ with u | u
     ·exact u
     ·exact absurd (congrArg Prod.fst u).symm q
   rw[this];have b:e.1.toNat≠i:=by lia
   simp[List.getD_eq_getElem?_getD,List.getElem?_set,b,List.getElem?_replicate,c];rw[List.getD_eq_getElem?_getD]at l;lia
 ·rw[List.getElem?_eq_none (by rw[show(xM n e S).length=n from a];lia),List.getElem?_eq_none (by rw[h.len];lia)]
end L2
set_option maxHeartbeats 4000000
namespace DD
open PySem L2
variable {r:RS}
structure RS.Le(r r':RS)(ev:Int×Int):Prop where
 eC:∀(u k:Nat) e,(r.ww u).eC[k]?=some (some e)->(r'.ww u).eC[k]?=some (some e)
 snd:∀(u k:Nat) s,(r.ww u).snd[k]?=some s->(r'.ww u).snd[k]?=some s
 new:∀(u k:Nat) e,(r'.ww u).snd[k]?=some (some e)->(r.ww u).snd[k]?=some (some e)\/e=ev
theorem RS.Le.put{b:RS}{ev:Int×Int}(h:b.Le r ev){w:Nat}{x:Int}:b.Le (r.put w x (some ev)) ev where
 eC:=λu k e z=>KA.mpr (h.eC u k e z)
 snd:=λu k s z=>by
  have z:=h.snd u k s z;show((if u=w then _ else _:WY).snd)[k]?=_;split
  ·next q=>subst q;exact(List.getElem?_append_left (List.getElem?_eq_some_iff.mp z).1).trans z
  ·exact z
 new:=λu k e z=>by
  have z:((if u=w then(⟨(r.ww w).say++[x],(r.ww w).snd++[some ev],(r.ww w).eC++[none]⟩:WY) else r.ww u).snd)[k]?=some (some e):=z;split at z
  ·next q=>
   subst q;by_cases d:k<(r.ww u).snd.length
   ·exact h.new u k e ((List.getElem?_append_left d).symm.trans z)
   ·right;have a:([some ev]:List (Option (Int×Int)))[k - (r.ww u).snd.length]?=some (some e):=(List.getElem?_append_right ()).symm.trans z
    cases c:k-(r.ww u).snd.length with
    |zero=>rw[c]at a;simpa using a.symm
    |succ j=>rw[c]at a;simp at a
  ·calc h.new u k e z
theorem RS.Le.send{outs:List Nat}{ev:Int×Int}{b:RS}:∀(a:List (Int×Int)) {r:RS},b.Le r ev->b.Le (r.send outs ev a) ev
 | [],r,h=>h
 |p::a,r,h=>by
  show b.Le ((if p.1.toNat<outs.length then r.put (outs.getD p.1.toNat 0) p.2 (some ev) else r).send outs ev a) ev;split
  ·exact RS.Le.send a h.put
  ·calc RS.Le.send a h
theorem KO{n:NT}{w k:Nat}(b:(r.ww w).eC[k]?=some none):r.Le (r.pick n w k) (n.ev r w)/\((r.pick n w k).ww w).eC[k]?=some (some (n.ev r w)):=by
 have c:∀u,((r.step n w k).ww u).snd=(r.ww u).snd:=λu=>by
  show(if u=w then _ else _:WY).snd=_;split
  ·next q=>subst q;rfl
  ·rfl
 have a:(r.step n w k).Le (r.pick n w k) (n.ev r w):=RS.Le.send _ ⟨λ_ _ _ z=>z,λ_ _ _ z=>z,λ_ _ _ z=>.inl z⟩;calc⟨⟨λu j e z=>a.eC u j e ((xF b).mpr (.inr z)),λu j s z=>a.snd u j s (by rw[c];calc z),λu j e z=>(a.new u j e z).imp (λy=>by rw[c]at y;calc y) id⟩,a.eC w k _ ((xF b).mpr (.inl ⟨rfl,rfl,rfl⟩))⟩
structure RS.Lk(n:NT)(r:RS)(L:Lg):Prop where
 good:gn n.ms.length L
 cnt:∀m:Nat,m<n.ms.length->gv L m+1=(r.mm m).fN.length
 len:L.length=r.picks.length
 «at»:∀(i:Nat) p,r.picks[i]?=some p->∃(w k:Nat) (e:Ev) (s:Option Ev),p=((w:Int),(k:Int))/\L[i]?=some (e,s)/\(r.ww w).eC[k]?=some (some e)/\(r.ww w).snd[k]?=some s/\w<n.ws.length
 snd:∀(w k:Nat) e,(r.ww w).snd[k]?=some (some e)->e∈L.map (·.1)
theorem RS.Lk.pick{n:NT}{L:Lg}(h:r.Lk n L)(l:n.Ok){w k:Nat}{s:Option Ev}(d:w<n.ws.length)(o:(r.ww w).eC[k]?=some none)(f:(r.ww w).snd[k]?=some s):(r.pick n w k).Lk n (L++[(n.ev r w,s)]):=by
 obtain⟨b,t⟩:=KO (n:=n) o;have g:n.goal w<n.ms.length:=by
  have:=l.Ug (n.w w) (by unfold NT.w;calc getD_mem d);unfold NT.goal;lia
 have c:=(RS.nS (outs:=n.outs (n.goal w)) (ev:=n.ev r w) (n.work r w k).cA (r:=r.step n w k)).1;have a:(r.pick n w k).picks=r.picks++[((w:Int),(k:Int))]:=(RS.nS (outs:=n.outs (n.goal w)) (ev:=n.ev r w) (n.work r w k).cA (r:=r.step n w k)).2;refine⟨.snoc h.good (Int.natCast_nonneg _) (by show((n.goal w:Nat):Int)<_;lia) ?_ (λp e=>by subst e;calc h.snd w k p f),λm v=>?_,?_,λi p e=>?_,λu j e z=>?_⟩
 ·show(((r.mm (n.goal w)).fN.length:Nat):Int)=gv L ((n.goal w:Nat):Int)+1;rw[<-h.cnt _ g];rfl
 ·rw[jq];show _=(((r.step n w k).send _ _ _).mm m).fN.length;rw[c];show _=(if m=n.goal w then _ else r.mm m:MS).fN.length;by_cases q:m=n.goal w
  ·subst q;rw[if_pos rfl,if_pos (show(n.ev r w).1=((n.goal w:Nat):Int) from rfl)];show _=((r.mm (n.goal w)).fN++[_]).length;rw[List.length_append,<-h.cnt _ g];rfl
  ·rw[if_neg q,if_neg (λz=>q (by have:((n.goal w:Nat):Int)=(m:Int):=z;lia)),h.cnt m v]
 ·rw[a,List.length_append,List.length_append,h.len];rfl
 ·rw[a] at e;by_cases c:i < r.picks.length
  ·rw[List.getElem?_append_left c]at e;obtain⟨a,g,l,m,n,o,q,v,x⟩:=h.at i p e;exact⟨a,g,l,m,n,(List.getElem?_append_left (by rw[h.len];calc c)).trans o,b.eC _ _ _ q,b.snd _ _ _ v,x⟩
  ·have:i=r.picks.length:=by
    have:=(List.getElem?_eq_some_iff.mp e).1;simp at this;lia
   subst this;rw[List.getElem?_append_right (Nat.le_refl _),Nat.sub_self]at e;obtain rfl:((w:Int),(k:Int))=p:=by simpa using e
   exact⟨w,k,_,s,rfl,by rw[<-h.len,List.getElem?_append_right (Nat.le_refl _),Nat.sub_self];rfl,t,b.snd _ _ _ f,d⟩
 ·rw[List.map_append,List.mem_append];rcases b.new u j e z with y | y
  ·exact .inl (h.snd u j e y)
  ·calc .inr (by simp[y])
theorem Bu{n:NT}:∀(a:List (Int×Int)) {r:RS},r.Lk n []->r.picks=[]->(r.nR a).Lk n []
 | [],r,h,_=>h
 | p::b,r,h,e=>Bu b (r:=r.put p.1.toNat p.2 none) ⟨h.good,h.cnt,h.len,λi q z=>by rw[show(r.put p.1.toNat p.2 none).picks=[] from e] at z;simp at z,λu j x z=>by
   have y:((if u=p.1.toNat then(⟨(r.ww p.1.toNat).say++[p.2],(r.ww p.1.toNat).snd++[none],(r.ww p.1.toNat).eC++[none]⟩:WY) else r.ww u).snd)[j]?=some (some x):=z;clear z;split at y
   ·next q=>subst q;exact h.snd _ j x (uE.mp y)
   ·calc h.snd u j x y⟩ e
theorem RS.Lk.begin{n:NT}{a:List (Int×Int)}:(RS.begin n a).Lk n []:=
 Bu a ⟨.nil,λ_ _=>rfl,rfl,λi p e=>by simp[RS.new]at e,λw k e z=>by simp[RS.new]at z⟩ rfl
end DD
namespace Gk
open PySem L2 DD
def top(i:Nat):Stmt:=PySem.Challenge.pw_cutrestore_k31_whole_heard.main.body.getD i (.Pass ⟨0,0,0,0⟩)
structure Tx(K:W.Frag)(mg:Str->Option Value)(C CN CR F:Addr)(FD:List (Str×V)):Prop where
 bb:mg "isinstance"=none
 Bv:mg "int"=none
 zP:mg "bool"=none
 Bw:mg "str"=none
 bX:mg "tuple"=none
 dX:mg "list"=none
 cm:mg "len"=none
 eR:mg "range"=none
 UB:mg "min"=none
 Gm:mg "max"=none
 uG:mg "all"=none
 UC:mg "any"=none
 Bx:mg "zip"=none
 dE:mg "enumerate"=none
 vQ:mg "ValueError"=none
 dM:∃t,mg "MOST_DEEDS"=some (.int 24 t)
 dB:∃t,mg "MOST_MODULUS"=some (.int 1000000000000 t)
 dC:∃t,mg "MOST_NUMBERS"=some (.int 4 t)
 fb:∃t,mg "MOST_ROW"=some (.int 12 t)
 c9:∃t,mg "MOST_MACHINES"=some (.int 5 t)
 fq:∃t,mg "MOST_WAYS"=some (.int 10 t)
 dD:∃t,mg "MOST_LETTERS"=some (.int 20 t)
 dN:∃t,mg "SAID_BOUND"=some (.int 1000000000000000000000000000000000000000000000000000000000000 t)
 cC:vk K C
 uH:mg "Machine"=some (.ref C)
 Mq:cF K C "own_modulus"
 Pt:cF K C "own_state"
 Mr:cF K C "own_deeds"
 Dq:W.findIn K (.ref C) "__class__"=some (some (.builtin "object.__class__"))
 Dr:W.mroIn K C (.type "object")=some true
 cD:vk K CN
 UD:mg "Net"=some (.ref CN)
 xN:cF K CN "own_machines"
 xO:cF K CN "own_ways"
 zQ:cF K CN "own_letters"
 Gn:W.findIn K (.ref CN) "__class__"=some (some (.builtin "object.__class__"))
 Gq:W.mroIn K CN (.type "object")=some true
 aS:vk K CR
 UE:mg "Run"=some (.ref CR)
 cE:cF K CR "own_net"
 cJ:cF K CR "picks_done"
 bU:cF K CR "states_had"
 dO:cF K CR "words_had"
 cK:cF K CR "words_said"
 bV:cF K CR "letters_say"
 eN:cF K CR "senders"
 cT:cF K CR "workers"
 Gr:W.findIn K (.ref CR) "__class__"=some (some (.builtin "object.__class__"))
 Gs:W.mroIn K CR (.type "object")=some true
 Ds:W.specialIn K (.builtin "object.__class__") "__get__"=some (some (.builtin "getset_descriptor.__get__"))
 uJ:W.takesIn K (.builtin "object.__class__")=some true
 i_k:W.kitOne K (.ref C) (.ref C)=some true
 By:mg "FORMS"=some (.ref F)
 Bz:CD K F FD
 Ms:∀d:bf,∃p,PyProof.Rows.KTD.datumAt d.word FD=some (.ref p)/\∀H,bz K H p (d.tF.map V.str)
end Gk
namespace Gk
open PySem L2 DD
variable {D a b m ba p:Addr}{Z:Addr->Prop}{d:bf}{H H' H0 H1 H2:Hp}{e:Int×Int}{ws:List (Int×Int×Str)}{ls s:List (Int×Int)}{yN:List (Key×V)}{kvs:List (List Key×V)}{as ms:List Addr}{ns row:List Int}{gr:List MD}{lv wv ys:List V}{ad:Nat->Nat->Addr}{r:RS}{σ:St}{f:Str}{dd st:V}{Q:VK}
theorem oI{X:Cx}{c:Scope}{N:List Str}:tD X c N λY=>Ru Y [] iB:=λ_ _ _ _=>Ka
section
variable {P:Program}{w:World}{K:W.Frag}{mg:Str->Option Value}{base:Heap}{C CN CR F B:Addr}{c:Nat->Addr}{FD:List (Str×V)}
local macro_rules | `(tactic| walk_at "s") => `(tactic| exact ⟨rfl, rfl, rfl, by decide +kernel, rfl, by decide +kernel, by decide +kernel⟩)
def zqI(s:String):Array Lean.Ident:=(s.splitOn " ").toArray.map (Lean.mkIdent ·.toName)
def zqK:=zqI "tV tT Ul F8 F9 Gd Ge Gf Gg Ey tC EL YY rU AH tB NO EC NN YQ EB NP YR EE NQ Cy fL NU wU Rr AJ EU Oh Oi Ay Fc zo zm vA Fd zl Pb yZ FN FO FQ Mj FU FW FX FY FZ Tj vo E2 JM Of uh AK Y8 Ox F1 F0 NV YT yU id_eq O2 FL OS EK oS Me Ft Fw Fx Fy Mf Fz FA FC FE Mg A9 xj iB tw uA TX Fs Mc Md L2.start List.map_cons List.map_nil List.cons_append List.nil_append List.replicate List.getElem?_cons_zero List.getElem?_cons_succ List.set_cons_zero List.set_cons_succ"
def zqL:=zqI "zD zE vD vE vF vG List.length_cons List.length_nil List.append_nil Option.some.injEq exists_eq_left' exists_eq_left V.int.injEq V.bl.injEq V.str.injEq V.ref.injEq List.cons.injEq and_true true_and Nat.reduceSub Nat.reduceAdd"
local macro_rules | `(tactic| simp_arith only [$xs,*]) => let l:=zqK; `(tactic| simp only [$[$l:ident],*, ↓Bd, ↓xq, ↓rJ, ↓uC, ↓rK, $xs,*])
local macro_rules | `(tactic| simp_arith! only [$xs:simpLemma,*]) => let l:=zqK; `(tactic| dsimp only [$[$l:ident],*, ↓Bd, ↓xq, ↓rJ, ↓uC, ↓rK, $xs:simpLemma,*])
local macro_rules | `(tactic| walk_at "l0") => `(tactic| simp_arith! only [vh, yT, nH])
local macro_rules | `(tactic| walk_at "l1") => let l:=zqL; `(tactic| simp_arith only [vh, yT, nH, $[$l:ident],*])
local macro_rules | `(tactic| walk_at "l2") => `(tactic| simp_arith! only [vh, yT])
local macro_rules | `(tactic| walk_at "l3") => let l:=zqL; `(tactic| simp_arith only [vh, yT, $[$l:ident],*])
local macro_rules | `(tactic| walk_at "l4") => `(tactic| simp_arith! only [nH])
local macro_rules | `(tactic| walk_at "l5") => let l:=zqL; `(tactic| simp_arith only [nH, $[$l:ident],*])
local macro_rules | `(tactic| walk_at "rd") => `(tactic| first | (walk_at "l0"; try walk_at "l1") | walk_at "l1")
local macro_rules | `(tactic| walk_at "r") => `(tactic| try walk_at "rd")
local macro_rules | `(tactic| walk_at "rt") => `(tactic| first | (walk_at "l2"; try walk_at "l3") | walk_at "l3")
local macro_rules | `(tactic| walk_at "gj") => `(tactic| first
  |refine cX (by assumption) (by first|rfl|exact ax (j := 0) rfl|exact ax (j := 1) rfl|exact ax (j := 2) rfl|exact ax (j := 3) rfl) ?_
  |refine bt (by assumption) (by first|rfl|exact ax (j := 0) rfl|exact ax (j := 1) rfl|assumption) ?_
  |rw [if_pos (by decide +kernel)]
  | rw [if_neg (by decide +kernel)])
local macro_rules | `(tactic| walk_at "go") => `(tactic| repeat (first|walk_at "rd"|walk_at "gj"))
local macro_rules | `(tactic| walk_at "r0") => `(tactic| first | (walk_at "l4"; try walk_at "l5") | walk_at "l5")
local macro_rules | `(tactic| walk_at "rh") => `(tactic| first | with_reducible refine L2.Pc ?_ | (with_reducible refine L2.cG ?_; intro N hN) | (with_reducible refine L2.qN ?_; intro T U hT hU))
local macro_rules | `(tactic| walk_at "rn") => `(tactic| (refine L2.cH (by assumption) ?_; (repeat walk_at "rh"); try walk_at "r0"))
local macro_rules | `(tactic| walk_at "jd") => `(tactic| first
  |(walk_at "rh"; (repeat walk_at "rh"); (try walk_at "r0"); repeat walk_at "rn")
  |(walk_at "rn"; repeat walk_at "rn")
  | (walk_at "r0"; repeat walk_at "rn"))
local macro_rules | `(tactic| walk_at "j") => `(tactic| try walk_at "jd")
local macro_rules | `(tactic| walk_at "jt") => `(tactic| first | (walk_at "l2"; try walk_at "l3") | walk_at "l3")
local macro_rules | `(tactic| walk_at "jg") => `(tactic| repeat (first|walk_at "jd"|walk_at "gj"))
theorem xP{z:V}:zf (ys++[z]).length (-1)=some ys.length:=by
 unfold zf;rw[if_neg ∅,if_pos (by simp;lia)];congr 1;simp;lia
theorem kx{z:V}:ip (ys++[z]) (-1)=some z:=by
 unfold ip;rw[xP];simp
theorem Gu{α:Type}{ys:List α}{z y:α}:(ys++[z]).set ys.length y=ys++[y]:=by simp
theorem vR{o c:HO}:upd (upd H a o) a c=upd H a c:=by
 funext b;by_cases h:b=a
 ·subst h;rw[ab,ab]
 ·rw[av h,av h,av h]
def fF(H:Hp)(p:Addr):Prop:=∃xs:List Int,H p=some (.lst (xs.map V.int))/\1<=xs.length
structure Step(p:Addr)(H H':Hp):Prop where
 gi:fF H' p
 rest:∀b o,H b=some o->b≠p->H' b=some o
theorem Step.refl(h:fF H p):Step p H H:=⟨h,λ_ _ e _=>e⟩
theorem Step.trans(a:Step p H H1)(b:Step p H1 H2):Step p H H2:=⟨b.gi,λc o e n=>b.rest c o (a.rest c o e n) n⟩
theorem fF.same(s:aq H H')(h:fF H p):fF H' p:=by
 obtain⟨a,e,h⟩:=h;calc⟨a,s _ _ e,h⟩
theorem Step.same(a:Step p H H1)(b:aq H1 H2):Step p H H2:=⟨a.gi.same b,λc o e n=>b _ _ (a.rest c o e n)⟩
theorem Step.set(a:Step p H H1)(xs:List Int)(h:1<=xs.length):Step p H (upd H1 p (.lst (xs.map V.int))):=
 ⟨⟨xs,ab,h⟩,λc o e n=>by rw[av n];calc a.rest c o e n⟩
theorem Step.new{q:Addr}(a:Step p H H1){o:HO}(b:H1 q=none):Step p H (upd H1 q o):=a.same (aq.new o b)
theorem Step.aM(a:Step p H H1)(c:fF H p):cj H H1:=λb d e=>a.rest b _ e λz=>by
 subst z;obtain⟨a,h,_⟩:=c;rw[h]at e;cases e
theorem Step.ne{q:Addr}(c:fF H p)(b:H q=none):q≠p:=λz=>by
 subst z;obtain⟨a,h,_⟩:=c;rw[h]at b;cases b
theorem Step.over(s:aq H0 H1)(a:H0 p=none)(st:Step p H1 H2):aq H0 H2:=λb o e=>st.rest b o (s b o e) (ao e a)
theorem fF.upd{q:Addr}{o:HO}(h:fF H p)(b:p≠q):fF (upd H q o) p:=by
 obtain⟨a,e,h⟩:=h;calc⟨a,by rw[av b];calc e,h⟩
abbrev mj:Stmt:=top 11
def iC:Sp:=λvs H Q _=>∃x t,vs=[x]/\Kd H x t/\Q (.bl (Zw x)) H
theorem zR(D:cZ K mg "is_whole" "is_whole" mj ["thing"])(T:Tx K mg C CN CR F FD):Def P w K mg base "is_whole" 1 ["thing"] iC:=by
 have sc:aB ["thing"] ["thing"] (ay mj):=by walk_at "s"
 symm;obtain⟨x,t,rfl,a,q⟩:=h;have d:=hr.units;refine⟨_,(ak (aE (iI (bg cS rfl T.bb wK (af (au 0) (af (cV (v:=.ty "int") rfl T.Bv PyProof.Rows.boot_int rfl) aa))) (iH (yS (bg cS rfl T.bb wK (af (au 0) (af (cV (v:=.ty "bool") rfl T.zP PyProof.Rows.boot_bool rfl) aa)))))))),?_⟩;walk_at "rd";obtain⟨b,c,d,e,g⟩:=O6 (K:=K) a;refine cM t b a.ty d ?_;rw[g] at q
 cases b
 ·rw[if_neg Bool.false_ne_true];exact q
 ·rw[if_pos rfl];calc⟨t,c,a.ty,e,q⟩
abbrev ky:Stmt:=top 12
def bY:Sp:=λvs H Q _=>∃x t a b,vs=[x,.int a,.int b]/\Kd H x t/\Q (.bl (inR a b x)) H
theorem xQ(D:cZ K mg "is_within" "is_within" ky ["thing","low","beyond"])(T:Tx K mg C CN CR F FD)(j:Def P w K mg base "is_whole" 1 ["thing"] iC):Def P w K mg base "is_within" 2 ["thing","low","beyond"] bY:=by
  have sc:aB ["thing","low","beyond"] ["thing","low","beyond"] (ay ky):=by walk_at "s"
  symm;obtain⟨x,t,a,b,rfl,g,q⟩:=h;have k:=hr.units;refine⟨_,(ak (aE (iI (aJ j hr (af (au 0) aa)) (iH (wR zt gu (au 1) (au 0) (au 2)))))),?_⟩;walk_at "rd";refine cM x t rfl g ?_
  cases g<;>first
    | (rename_i i
       show ∃c,V.bl true=.bl c/\_;calc⟨true,rfl,?_⟩;rw[if_pos rfl];walk_at "rd";by_cases d:a<=i
       · rw[if_pos (by simpa using d)];have e:inR a b (.int i)=decide (i < b):=by simp[inR,d]
         rw[e]at q;exact q
       · rw[if_neg (by simpa using d)];have e:inR a b (.int i)=false:=by simp[inR,d]
         rw[e] at q;calc q)
    | (show ∃c,V.bl false=.bl c/\_
       calc⟨false,rfl,?_⟩;rw[if_neg Bool.false_ne_true];calc q)
abbrev r6:Stmt:=top 53
def Mt(K:W.Frag):Sp:=λvs H Q _=>∃(a:Addr) (ns:List Int) (k:Int),vs=[.ref a,.int k]/\aP K H a (ns.map V.int)/\0<=k/\∀c,Q (.int c) H
theorem Gv(D:cZ K mg "_law_at" "_law_at" r6 ["_law_script","_law_k"])(T:Tx K mg C CN CR F FD):Def P w K mg base "_law_at" 1 ["_law_script","_law_k"] (Mt K):=by
 have sc:aB ["_law_script","_law_k"] ["_law_script","_law_k"] (ay r6):=by walk_at "s"
 symm;obtain⟨a,ns,k,rfl,b,c,q⟩:=h;have e:=hr.units;refine⟨_,(ag (aT (az gu (au 1) (bg aN rfl T.cm W' (af (au 0) aa)) (aH _)) (ak (aE (aj e (au 0) (au 1)))) aI)
  (ak (aE ai))),?_⟩
 walk_at "rd";refine bI _ (.inl ⟨_,b,rfl⟩) ?_;rw[List.length_map];by_cases d:k<(ns.length:Int)
 ·rw[if_pos (by simpa using d)];obtain⟨n,rfl⟩:=aao c;have e:n < ns.length:=by lia
  exact⟨_,.int ns[n],.inl b,ax (by rw[List.getElem?_map,cy e];rfl),q _⟩
 ·rw[if_neg (by simpa using d)];calc q _
abbrev o8:Stmt:=top 54
def Gw:Sp:=λvs H Q _=>∃n:Int,vs=[.int n]/\∀(p:Addr) (xs:List Int),H p=none->1<=xs.length->Q (.ref p) (upd H p (.lst (xs.map V.int)))
theorem Dt(D:cZ K mg "_law_pot" "_law_pot" o8 ["_law_cell"])(T:Tx K mg C CN CR F FD):Def P w K mg base "_law_pot" 1 ["_law_cell"] Gw:=by
 have sc:aB ["_law_cell","_law_number","_law_pot_here","_law_k"] ["_law_cell"] (ay o8):=by walk_at "s"
 symm;obtain⟨n,rfl,q⟩:=h;have c:=hr.units;refine⟨_,(ag (aR (i:=1) sc.nd rfl Sort (aW cR (aW eP (aW jj (au 0) ai) ai) ai))
  (ag (aR (i:=2) sc.nd rfl Sort (bu (af ai aa)))
  (ag (df PassesOwn.never rfl (c8 rfl T.eR (af ai aa)) (aQ (i:=3) sc.nd rfl Sort)
  (ag (aR (i:=1) sc.nd rfl Sort (aW eP (aW cR (aW cR (aW lG (au 1) (au 1)) (aW lG ai (au 1))) (au 3)) ai))
  (ak (dU (aW cR (aW lG (aj c (au 2) ai) ai) (au 1)) (fO (au 2) ai cL)))))
  (ag (aT (PW.pt (pw_and (az (aU c) (aW eP (au 0) ai) ai (aH _)) (pw_and1 (az (jE c) (aW jj (au 0) ai) ai (aH _))))) (ak (bP (cY oE qH qI bZ (au 2) (af (aW jj (au 0) ai) aa)))) aI)
  (ak (aE (au 2))))))),?_⟩
 walk_at "r";have d:Fj n 2:=⟨∅,∅⟩
 refine gI d ∅ ?_;walk_at "r";refine⟨by show 1<=sizeLine;decide,λp e=>?_⟩;have c:=aaK (n/2) (b:=2147483629) ∅;have c:=aaD (n/2) (b:=2147483629) ∅;refine⟨40,rfl,∅,∅,jf (n:=40) (λi σ H'=>∃(u a:Int) (z:Option V),0<=u/\u<2147483648/\σ=[some (.int n),some (.int u),some (.ref p),z]/\H'=upd H p (.lst [.int a])) ?_ ?_ ?_⟩
 ·exact⟨_,0,none,(),(),rfl,rfl⟩
 ·intro i σ H' o k;obtain⟨u,a,z,g,l,rfl,rfl⟩:=k;walk_at "r";refine⟨.inl ⟨(),()⟩,?_⟩;walk_at "r";refine gI (.inl ⟨(),()⟩) ∅ ?_;walk_at "r";refine bt ab (ax (j:=0) rfl) ?_;walk_at "r";refine⟨.inr ⟨∅,∅⟩,?_⟩;walk_at "r";refine cM _ 0 ab rfl ?_;walk_at "r";have c:=aaK (u*u+48271*u+(0+(i:Int))) (b:=2147483647) ∅;have k:=aaD (u*u+48271*u+(0+(i:Int))) (b:=2147483647) ∅;exact⟨_,_,_,c,(),⟨rfl,rfl⟩,vR⟩
 ·intro σ H' m;obtain⟨u,a,z,g,l,rfl,rfl⟩:=m;walk_at "r";refine⟨∅,?_⟩;walk_at "r";split
  ·calc⟨d,?_⟩;walk_at "r";split
   ·refine gI (.inl ⟨rfl,_,aP.of ab⟩) d ?_;walk_at "r";refine gJ _ ab (aA nofun) ?_;walk_at "r";rw[vR];exact q p [a,n/2] e nofun
   ·walk_at "r";exact q p [a] e nofun
  ·walk_at "r";exact q p [a] e nofun
abbrev kB:Stmt:=top 55
def jr:Sp:=λvs H Q _=>∃(p:Addr) (m:Int),vs=[.ref p,.int m]/\fF H p/\0<m/\m.natAbs.log2<9000/\∀d H',0<=d->d<m->Step p H H'->Q (.int d) H'
theorem xR(D:cZ K mg "_law_digit" "_law_digit" kB ["_law_pot_here","_law_many"])(T:Tx K mg C CN CR F FD):Def P w K mg base "_law_digit" 1 ["_law_pot_here","_law_many"] jr:=by
 have sc:aB ["_law_pot_here","_law_many","_law_digit_here"] ["_law_pot_here","_law_many"] (ay kB):=by walk_at "s"
 symm;obtain⟨p,m,rfl,k,g,r,q⟩:=h;have j:=hr.units;refine⟨_,(ag (aR (i:=2) sc.nd rfl Sort (aW eP (aj j (au 0) (lQ iJ ai)) (au 1)))
  (ag (dU (aW jj (aj j (au 0) (lQ iJ ai)) (au 1)) (fO (au 0) (lQ iJ ai) cL))
  (ag (aT (PW.pt (pw_and (az (aU j) (aj j (au 0) (lQ iJ ai)) ai (aH _)) (pw_and1 (az oT (bg aN rfl T.cm W' (af (au 0) aa)) ai (aH _))))) (ak (bP (Oy oE PySem.F.slot_list_pop PySem.F.type_list_pop OA (au 0)))) aI)
  (ak (aE (au 2)))))),?_⟩
 nofun;obtain⟨l,c,t⟩:=id k;obtain⟨ys,z,rfl⟩:∃ys z,l=ys++[z]:=⟨l.dropLast,l.getLast (by intro e;rw[e]at t;simp at t),(List.dropLast_concat_getLast _).symm⟩
 rw[List.map_append]at c
 replace c:H p=some (.lst (ys.map V.int++[.int z])):=c
 ac_rfl;have d:Step p H H:=Step.refl k;walk_at "r";refine cM _ _ (.inl (aP.of c)) kx ?_;walk_at "r";refine⟨g,?_⟩;walk_at "r";refine cM _ _ (.inl (aP.of c)) kx ?_;walk_at "r";refine⟨⟨g,r⟩,?_⟩;walk_at "r";refine cM _ _ c xP ?_;rw[Gu];refine cM _ _ (.inl (aP.of ab)) kx ?_;have n:=aaK z (b:=m) ();have o:=aaD z g;have u:Step p H (upd H p (.lst (ys.map V.int++[.int (z/m)]))):=by
  have:=d.set (ys++[z/m]) nofun;rw[List.map_append]at this;exact this
 walk_at "r";split
 ·calc bI _ (.inl ⟨_,aP.of ab,rfl⟩) ?_;walk_at "r";split
  ·rename_i a;have a:1<=ys.length:=by
    simp at a;lia
   refine⟨.inl ⟨rfl,_,aP.of ab⟩,?_⟩;refine⟨p,_,.int (z/m),rfl,rfl,ab,nofun,?_⟩;walk_at "r";rw[List.dropLast_concat,vR];exact q _ _ n o (d.set ys a)
  ·walk_at "r";exact q _ _ n o u
 ·walk_at "r";exact q _ _ n o u
theorem zS:JH 10 60:=⟨∅,∅,⋯⟩
theorem Pu:JH 10 12:=⟨∅,∅,⋯⟩
theorem Pw:EM 2 (10^Int.toNat 60):=.inl ⟨⋯,⋯⟩
theorem UH:(0:Int)<2*10^Int.toNat 60-1:=by decide +kernel
theorem UI:(2*10^Int.toNat 60-1:Int).natAbs.log2<9000:=by decide +kernel
theorem Px:(0:Int)<10^Int.toNat 60:=by decide +kernel
theorem Py:(10^Int.toNat 60:Int).natAbs.log2<9000:=by decide +kernel
theorem UJ:(0:Int)<10^Int.toNat 12-1:=by decide +kernel
theorem Pz:(10^Int.toNat 12-1:Int).natAbs.log2<9000:=by decide +kernel
theorem dig{m:Int}{E:XK}(a:fF H p)(b:0<m)(c:m.natAbs.log2<9000)(q:∀d H',0<=d->d<m->Step p H H'->Q (.int d) H'):jr [.ref p,.int m] H Q E:=⟨p,m,rfl,a,b,c,q⟩
theorem KP{H:Hp}{n:Nat}{x:V}{d:List DV}(h:HD H n x (.tup d)):∃k a xs,x=.ref a/\H a=some (.tup xs)/\xs.length=d.length/\∀(i:Nat) u e,xs[i]?=some u->d[i]?=some e->HD H k u e:=by
 cases h with
 |tup a b c=>calc⟨_,_,_,rfl,a,b,c⟩
abbrev ml:Stmt:=top 19
def Gx:Sp:=λvs H Q _=>∃x m n d,vs=[x,.int m]/\HD H n x d/\∀H',aq H H'->Q (.bl (De m d)) H'
theorem KQ{K:W.Frag}{H:Hp}{n:Nat}{x:V}{d:DV}(h:HD H n x d)(a:∀c,d≠.tup c):∃t,gs K H x t/\W.kitOne K t (.type "tuple")=some false:=by
 cases h with
 |bC=>calc⟨_,.bC,rfl⟩
 |bl b=>calc⟨_,.bl b,rfl⟩
 |int i=>calc⟨_,.int i,rfl⟩
 |str x=>calc⟨_,.str x,rfl⟩
 |tup e=>calc absurd rfl (a _)
 |lst e=>calc⟨_,.lst e,rfl⟩
 |dict e=>calc⟨_,.dK e,rfl⟩
theorem KR{K:W.Frag}{H:Hp}{n:Nat}{x:V}{d:DV}(h:HD H n x d)(a:∀s,d≠.str s):∃t,gs K H x t/\W.kitOne K t (.type "str")=some false:=by
 cases h with
 |bC=>calc⟨_,.bC,rfl⟩
 |bl b=>calc⟨_,.bl b,rfl⟩
 |int i=>calc⟨_,.int i,rfl⟩
 |str x=>calc absurd rfl (a _)
 |tup e=>calc⟨_,.tup e,rfl⟩
 |lst e=>calc⟨_,.lst e,rfl⟩
 |dict e=>calc⟨_,.dK e,rfl⟩
theorem KS{m:Int}{d:DV}(b:∀a,d≠.tup a):De m d=false:=by
 cases d with
 |tup a=>calc absurd rfl (b a)
 |_=>rfl
theorem Gy{m:Int}{d:DV}{r:List DV}(a:∀s,d≠.str s):De m (.tup (d::r))=false:=by
 cases d with
 |str s=>calc absurd rfl (a s)
 |_=>rfl
theorem zT(D:cZ K mg "is_value" "is_value" ml ["thing","many"])(T:Tx K mg C CN CR F FD)(X:Def P w K mg base "is_whole" 1 ["thing"] iC)(Y:Def P w K mg base "is_within" 2 ["thing","low","beyond"] bY):Def P w K mg base "is_value" 3 ["thing","many"] Gx:=by
 have sc:aB ["thing","many","word"] ["thing","many"] (ay ml):=by walk_at "s"
 symm;obtain⟨x,m,n,d,rfl,G,q⟩:=h;have k:=hr.units;refine⟨_,(ag (aT (PW.pt (pw_or (cb (bA (bg cS rfl T.bb wK (af (au 0) (af (cV (v:=.ty "tuple") rfl T.bX qJ rfl) aa))))) (pw_or (az (aU k) (bg aN rfl T.cm W' (af (au 0) aa)) ai (aH _)) (pw_or1 (cb (bA (bg cS rfl T.bb wK (af (aj k (au 0) ai) (af (cV (v:=.ty "str") rfl T.Bw PyProof.Rows.boot_str rfl) aa))))))))) (ak (aE je)) aI)
  (ag (aR (i:=2) sc.nd rfl Sort (aj k (au 0) ai))
  (ag (aT (az Fq (au 2) (bD (af aC (af aC (af aC aa)))) (by with_unfolding_all rfl)) (ak (aE (jy (aU k) (bg aN rfl T.cm W' (af (au 0) aa)) ai (aH _)))) aI)
  (ag (aT (az (jE k) (bg aN rfl T.cm W' (af (au 0) aa)) ai (aH _)) (ak (aE je)) aI)
  (ag (aT (az (aU k) (au 2) aC (aH _)) (ak (aE (aJ X hr (af (aj k (au 0) ai) aa)))) aI)
  (ak (aE (iI (jy (aU k) (au 2) aC (aH _)) (iH (aJ Y hr (af (aj k (au 0) ai) (af ai (af (au 1) aa))))))))))))),?_⟩
 walk_at "rd";by_cases I:∀l,d≠.tup l
 ·obtain⟨t,o,N⟩:=KQ (K:=K) G I;calc cM t false o N ?_;rw[KS I]at q;exact q H (aq.refl H)
 ·have:∃l,d=.tup l:=Classical.byContradiction λz=>I λl e=>z ⟨l,e⟩;nofun;obtain⟨l,rfl⟩:=this;obtain⟨n,a,Z,rfl,B,O,U⟩:=KP G;calc hZ ?_;clear hZ gZ G I
  ·skip
   refine⟨.type "tuple",true,.tup B,rfl,?_⟩;simp only[Bool.not_true,Bool.false_eq_true,if_false];refine bI _ (.inr ⟨_,bz.of B,rfl⟩) ?_;walk_at "r";rcases l with _|⟨R,b⟩<;>rcases Z with _|⟨x0,J⟩
   ·exact q H (aq.refl H)
   ·cases O
   ·cases O
   ·skip
    rw[if_neg (by simp;lia)];calc cM _ _ (.inr (bz.of B)) (ax (j:=0) rfl) ?_;have W:=U 0 x0 R rfl rfl;by_cases k:∀s,R≠.str s
    ·obtain⟨t,o,N⟩:=KR (K:=K) W k;calc cM t false o N ?_;rw[Gy k]at q;exact q H (aq.refl H)
    ·have:∃s,R=.str s:=Classical.byContradiction λz=>k λl e=>z ⟨l,e⟩;nofun;obtain⟨g,rfl⟩:=this;obtain rfl:=W.cI;ac_rfl;refine⟨.type "str",true,.str _,rfl,?_⟩;simp only[Bool.not_true,Bool.false_eq_true,if_false];refine cM _ _ (.inr (bz.of B)) (ax (j:=0) rfl) ?_;walk_at "r";refine⟨∅,λp k=>?_⟩;have r:aq H (upd H p (.tup [.str "letter",.str "way",.str "first"])):=aq.new _ k;have L:=r _ _ B;refine Kz _ (.inr (bz.of ab)) rfl rfl ?_;walk_at "r";have u:J.length=b.length:=by simpa using O
     by_cases M:AU (.str g) rL=true
     ·have S:De m (.tup (.str g::b))=decide (b.length=0):=by
       show(if AU (.str g) rL=true then decide (b.length=0) else _)=_;rw[if_pos M]
      rw[if_pos (show AU (.str g) [.str "letter",.str "way",.str "first"]=true from M)];refine bI _ (.inr ⟨_,bz.of L,rfl⟩) ?_;walk_at "r";have e:decide (((J.length+1:Nat):Int)=1)=decide (b.length=0):=by
       rw[u];by_cases z:b.length=0
       ·rw[decide_eq_true z,decide_eq_true ()]
       ·rw[decide_eq_false z,decide_eq_false ()]
      rw[S]at q;have c:=q _ r;rw[<-e]at c;exact c
     ·have S:De m (.tup (.str g::b))=Kr g m b:=by
       show(if AU (.str g) rL=true then decide (b.length=0) else _)=_;rw[if_neg M]
      rw[if_neg (show ¬AU (.str g) [.str "letter",.str "way",.str "first"]=true from M)];refine bI _ (.inr ⟨_,bz.of L,rfl⟩) ?_;walk_at "r";rw[S]at q;rcases b with _|⟨z,_|⟨z',b⟩⟩<;>rcases J with _|⟨y,_|⟨k,J⟩⟩
      ·rw[if_pos nofun];exact q _ r
      ·cases u
      ·cases u
      ·cases u
      ·skip
       rw[if_neg nofun];have o:=(U 1 y z rfl rfl).same r;obtain⟨t,l⟩:=Uc o;by_cases b:g="is"
       ·rw[if_pos (by simpa using b)];calc⟨_,_,.inr (bz.of L),rfl,y,t,rfl,l,?_⟩;have c:=q _ r;simp only[Kr,if_pos b]at c;rw[O8 o];exact c
       ·rw[if_neg (by simpa using b)];have c:=q _ r;simp only[Kr,if_neg b] at c;by_cases k:g="number"
        ·rw[if_pos (by simpa using k)];calc⟨_,_,.inr (bz.of L),rfl,y,t,0,m,rfl,l,?_⟩;rw[decide_eq_true k,Bool.true_and]at c;rw[O9 o];exact c
        ·rw[if_neg (by simpa using k)];rw[decide_eq_false k,Bool.false_and]at c;exact c
      ·simp at u
      ·cases u
      ·simp at u
      ·rw[if_pos (by simp;lia)];calc q _ r
abbrev pb:Stmt:=top 13
def mn:Sp:=λvs H Q _=>∃(a:Addr) (xs:List V) (b c:Int),vs=[.ref a,.int b,.int c]/\(H a=some (.lst xs)\/H a=some (.tup xs))/\∀H',aq H H'->Q (.bl (decide (b<=(xs.length:Int))&&decide ((xs.length:Int)<=c))) H'
theorem Du(D:cZ K mg "is_list" "is_list" pb ["things","least","most"])(T:Tx K mg C CN CR F FD):Def P w K mg base "is_list" 1 ["things","least","most"] mn:=by
 have sc:aB ["things","least","most"] ["things","least","most"] (ay pb):=by walk_at "s"
 symm;obtain⟨a,d,g,i,rfl,b,q⟩:=h;have i:=hr.units;refine⟨_,(ak (aE (iI (bg cS rfl T.bb wK (af (au 0) (af (bD (af (cV (v:=.ty "list") rfl T.dX ke rfl) (af (cV (v:=.ty "tuple") rfl T.bX qJ rfl) aa))) aa))) (iH (wR zt zt (au 1) (bg aN rfl T.cm W' (af (au 0) aa)) (au 2)))))),?_⟩;walk_at "r";refine⟨dH,λp i=>?_⟩;have c:aq H (upd H p (.tup [.ty "list",.ty "tuple"])):=aq.new _ i;have e:∃t,gs K (upd H p (.tup [.ty "list",.ty "tuple"])) (.ref a) t/\W.kitAny K t [.type "list",.type "tuple"]=some true/\EO K (.ref a) (upd H p (.tup [.ty "list",.ty "tuple"])) d.length:=by
  rcases b with b|b
  ·exact⟨_,.lst (c _ _ b),rfl,.inl ⟨_,aP.of (c _ _ b),rfl⟩⟩
  ·exact⟨_,.tup (c _ _ b),rfl,.inr ⟨_,bz.of (c _ _ b),rfl⟩⟩
 obtain⟨t,i,j,k⟩:=e;calc Uj t true _ _ i ab rfl j ?_;rw[if_pos rfl];calc bI _ k ?_;have b:=q _ c;by_cases h:g<=(d.length:Int)
 ·rw[if_pos (by simpa using h)];rw[decide_eq_true h,Bool.true_and]at b;exact b
 ·rw[if_neg (by simpa using h)];rw[decide_eq_false h,Bool.false_and]at b;calc b
abbrev pd:Stmt:=top 25
def BA(K:W.Frag):Sp:=λvs H Q _=>∃d:bf,vs=[.str d.word]/\∀p,bz K H p (d.tF.map V.str)->Q (.ref p) H
theorem Dv(D:cZ K mg "form_of" "form_of" pd ["word"])(T:Tx K mg C CN CR F FD):Def P w K mg base "form_of" 1 ["word"] (BA K):=by
 have sc:aB ["word"] ["word"] (ay pd):=by walk_at "s"
 symm;obtain⟨d,rfl,q⟩:=h;have a:=hr.units;calc⟨_,(ak (aE (Kl T.Bz rfl T.By (af (au 0) aa)))),?_⟩;obtain⟨p,a,b⟩:=T.Ms d;show Q ((PyProof.Rows.KTD.datumAt d.word FD).getD .bC) H;rw[a];calc q p (b H)
abbrev pf:Stmt:=top 26
inductive jI(H:Hp)(m:Int):V->Str->Prop
 |value {n x v}:HT H n x (Val.dv v)->v.ok m->jI H m x "value"
 |number {i}:0<=i->i<m->jI H m (.int i) "number"
 |many {i}:1<=i->i<25->jI H m (.int i) "many"
 |way {i}:0<=i->jI H m (.int i) "way"
theorem jI.same{H H':Hp}{m:Int}{x:V}{w:Str}(s:aq H H')(h:jI H m x w):jI H' m x w:=by
 cases h with
 |value a b=>calc .value (a.aG s.aM) b
 |number a b=>calc .number a b
 |many a b=>calc .many a b
 |way a=>calc .way a
def BB:Sp:=λvs H Q _=>∃x w m,vs=[x,.str w,.int m]/\jI H m x w/\∀H',aq H H'->Q (.bl true) H'
theorem Dw(D:cZ K mg "is_part" "is_part" pf ["thing","sort","many"])(T:Tx K mg C CN CR F FD)(g:Def P w K mg base "is_value" 3 ["thing","many"] Gx)(i:Def P w K mg base "is_whole" 1 ["thing"] iC)(c:Def P w K mg base "is_within" 2 ["thing","low","beyond"] bY):Def P w K mg base "is_part" 4 ["thing","sort","many"] BB:=by
 have sc:aB ["thing","sort","many"] ["thing","sort","many"] (ay pf):=by walk_at "s"
 symm;obtain⟨x,w,m,rfl,d,q⟩:=h;have b:=hr.units;refine⟨_,(ag (aT (az (aU b) (au 1) aC (aH _)) (ak (aE (aJ g hr (af (au 0) (af (au 2) aa))))) aI)
  (ag (aT (az (aU b) (au 1) aC (aH _)) (ak (aE (aJ c hr (af (au 0) (af ai (af (au 2) aa)))))) aI)
  (ag (aT (az (aU b) (au 1) aC (aH _)) (ak (aE (aJ c hr (af (au 0) (af ai (af (aW cR (fz T.dM rfl) ai) aa)))))) aI)
  (ak (aE (iI (aJ i hr (af (au 0) aa)) (iH (jy ON (au 0) ai (aH _))))))))),?_⟩
 walk_at "r"
 cases d with
 | @value n x v a b=>
  rw[if_pos ⋯];calc e9 x m n _ rfl a.hd (λH' s=>?_);rw[Pa b];calc q H' s
 | @number i a b=>
  rw[if_neg ⋯,if_pos ⋯];calc e9 (.int i) _ 0 m rfl (.int i) ?_;have e:inR 0 m (.int i)=true:=by simp[inR,a,b]
  rw[e];calc q H (aq.refl H)
 | @many i a b=>
  rw[if_neg ⋯,if_neg ⋯,if_pos ⋯];calc e9 (.int i) _ 1 _ rfl (.int i) ?_;have e:inR 1 (24+1) (.int i)=true:=by simp[inR,a];lia
  rw[e];calc q H (aq.refl H)
 | @way i a=>
  rw[if_neg ⋯,if_neg ⋯,if_neg ⋯];refine⟨.int i,_,rfl,.int i,true,rfl,?_⟩;rw[if_pos rfl];have e:decide ((0:Int)<=i)=true:=decide_eq_true a;walk_at "r";rw[e];exact q H (aq.refl H)
abbrev ph:Stmt:=top 27
theorem ZT{x:V}{a:List V}:dG (x::a) (some 1) none=a:=by
 unfold dG;have e:HT.d9 (x::a).length 0 (some 1)=1:=by
  show(if (1:Int)<0 then((1:Int)+((x::a).length:Int)).toNat else min (1:Int).toNat (x::a).length)=1;rw[if_neg ∅];show min 1 (a.length+1)=1;lia
 rw[e];show List.take ((x::a).length-1) a=a;simp
theorem r8{H:Hp}{n:Nat}{x:V}{d:bf}{m:Int}(h:HT H n x d.dv)(f:d.ok m):∃a q,x=.ref a/\H a=some (.tup (.str d.word::q))/\q.length=d.tF.length/\∀(i:Nat) p s,q[i]?=some p->d.tF[i]?=some s->jI H m p s:=by
 cases d with
 |set i v=>
  nofun;obtain⟨a,u,y,z,k,rfl,e,g,l,o⟩:=bT h;obtain rfl:=g.cI;obtain rfl:=l.cB;ac_rfl;refine tI a _ rfl e rfl (λj p s b c=>?_)
  match j,b,c with
  |0,b,c=>cases b;cases c;calc .number f.1 f.2.1
  |1,b,c=>cases b;cases c;calc .value o f.2.2
 |add i v=>
  nofun;obtain⟨a,u,y,z,k,rfl,e,g,l,o⟩:=bT h;obtain rfl:=g.cI;obtain rfl:=l.cB;ac_rfl;refine tI a _ rfl e rfl (λj p s b c=>?_)
  match j,b,c with
  |0,b,c=>cases b;cases c;calc .number f.1 f.2.1
  |1,b,c=>cases b;cases c;calc .value o f.2.2
 |times i v=>
  nofun;obtain⟨a,u,y,z,k,rfl,e,g,l,o⟩:=bT h;obtain rfl:=g.cI;obtain rfl:=l.cB;ac_rfl;refine tI a _ rfl e rfl (λj p s b c=>?_)
  match j,b,c with
  |0,b,c=>cases b;cases c;calc .number f.1 f.2.1
  |1,b,c=>cases b;cases c;calc .value o f.2.2
 |put v=>
  nofun;obtain⟨a,u,y,k,rfl,e,g,l⟩:=dI h;obtain rfl:=g.cI;ac_rfl;refine tI a _ rfl e rfl (λj p s b c=>?_)
  match j,b,c with
  |0,b,c=>cases b;cases c;calc .value l f
 |drop=>
  nofun;obtain⟨a,u,k,rfl,e,g⟩:=iL h;obtain rfl:=g.cI;ac_rfl;calc⟨a,_,rfl,e,rfl,λj p s b c=>by simp at b⟩
 |send j v=>
  nofun;obtain⟨a,u,y,z,k,rfl,e,g,l,o⟩:=bT h;obtain rfl:=g.cI;obtain rfl:=l.cB;ac_rfl;refine tI a _ rfl e rfl (λj p s b c=>?_)
  match j,b,c with
  |0,b,c=>cases b;cases c;calc .way f.1
  |1,b,c=>cases b;cases c;calc .value o f.2
 |say v=>
  nofun;obtain⟨a,u,y,k,rfl,e,g,l⟩:=dI h;obtain rfl:=g.cI;ac_rfl;refine tI a _ rfl e rfl (λj p s b c=>?_)
  match j,b,c with
  |0,b,c=>cases b;cases c;calc .value l f
 |skip v w i=>
  nofun;obtain⟨a,u,y,z,t,k,rfl,e,g,l,o,r⟩:=nO h;obtain rfl:=g.cI;obtain rfl:=r.cB;ac_rfl;refine tI a _ rfl e rfl (λj p s b c=>?_)
  match j,b,c with
  |0,b,c=>cases b;cases c;calc .value l f.1
  |1,b,c=>cases b;cases c;calc .value o f.2.1
  |2,b,c=>cases b;cases c;calc .many f.2.2.1 f.2.2.2
theorem zU:d.tF.length<=3:=by cases d<;>simp[bf.tF]
def uK:Sp:=λvs H Q _=>∃x m n d,vs=[x,.int m]/\HT H n x (bf.dv d)/\d.ok m/\∀H',aq H H'->Q (.bl true) H'
theorem Dx(D:cZ K mg "is_deed" "is_deed" ph ["thing","many"])(T:Tx K mg C CN CR F FD)(W:Def P w K mg base "form_of" 1 ["word"] (BA K))(X:Def P w K mg base "is_part" 4 ["thing","sort","many"] BB):Def P w K mg base "is_deed" 5 ["thing","many"] uK:=by
 have sc:aB ["thing","many","form"] ["thing","many"] (ay ph):=by walk_at "s"
 symm;obtain⟨x,m,n,d,rfl,M,N,q⟩:=h;have r:=hr.units;refine⟨_,(ag (aT (PW.pt (pw_or (cb (bA (bg cS rfl T.bb wK (af (au 0) (af (cV (v:=.ty "tuple") rfl T.bX qJ rfl) aa))))) (pw_or (az (aU r) (bg aN rfl T.cm W' (af (au 0) aa)) ai (aH _)) (pw_or1 (cb (bA (bg cS rfl T.bb wK (af (aj r (au 0) ai) (af (cV (v:=.ty "str") rfl T.Bw PyProof.Rows.boot_str rfl) aa))))))))) (ak (aE je)) aI)
  (ag (aR (i:=2) sc.nd rfl Sort (aJ W hr (af (aj r (au 0) ai) aa)))
  (ag (aT (PW.pt (pw_or (az Fp (au 2) kg (aH _)) (pw_or1 (az (jE r) (bg aN rfl T.cm W' (af (au 0) aa)) (aW cR (bg aN rfl T.cm W' (af (au 2) aa)) ai) (aH _))))) (ak (aE je)) aI)
  (ak (aE (bg (jl rfl) rfl T.uG Eu (af (dy (N':=["part","sort","many"]) (ix:=[none,none,some 1]) (zA rfl T.Bx (af (rG (au 0) (jz ai) nv) (af (au 2) aa))) (λ_ _ _ _=>(lH (K:=K) rfl (i:=0) (j:=1) rfl (show(["part","sort","many"]:List Str).Nodup by decide +kernel) rfl rfl Sort Sort)) oI (λ_ _ _ _=>(aJ X hr (af (au 0) (af (au 1) (af (au 2) aa)))))) aa))))))),?_⟩
 obtain⟨a,g,rfl,k,l,Y⟩:=r8 M N;have r:=zU (d:=d);walk_at "r";refine cM _ true (.tup k) rfl ?_;simp only[Bool.not_true,Bool.false_eq_true,if_false];refine bI _ (.inr ⟨_,bz.of k,rfl⟩) ?_;rw[if_neg (by simp;lia)];refine⟨_,.str d.word,.inr (bz.of k),ax (j:=0) rfl,_,true,.str _,rfl,?_⟩;simp only[Bool.not_true,Bool.false_eq_true,if_false];refine⟨_,.str d.word,.inr (bz.of k),ax (j:=0) rfl,d,rfl,λp O=>?_⟩;walk_at "r";rw[if_neg Bool.false_ne_true];refine⟨_,.inr ⟨_,bz.of k,rfl⟩,_,.inr ⟨_,O,rfl⟩,?_⟩;rw[if_neg (by simp[l])];refine bL ?_;walk_at "r";refine .inr ⟨_,k,λr H2 G o=>?_⟩;rw[ZT]at o;have y:=G.Rx O;refine e9 false false _ _ (Sq.t o) y (λD R=>?_);refine bq (J:=TZ false false K r p) (n:=g.length) (λi ys H'=>ys=List.replicate i (V.bl true)/\aq H2 H') (S' (aA ())) ⟨rfl,aq.new _ R⟩ ?_ ?_ ?_ ?_
 ·rintro i ys H' I ⟨_,c⟩;exact⟨g,d.tF.map V.str,g[i],.str (d.tF[i]'()),Sq.t (c _ _ o),c.Rx y,cy I,by rw[List.getElem?_map,cy ()];rfl⟩
 ·rintro ys H' ⟨_,c⟩;exact⟨g,d.tF.map V.str,Sq.t (c _ _ o),c.Rx y,.inl rfl⟩
 ·intro i ys H' I B S Z x H4 iu;nofun;obtain⟨rfl,c⟩:=Z;obtain⟨T,hT,rfl,hy⟩:=iu;obtain⟨u,v,e1,U,rfl⟩:=hy g (d.tF.map V.str) (Sq.t (c _ _ o)) (c.Rx y);rw[List.getElem?_map]at U;obtain⟨z,ez,rfl⟩:=Option.map_eq_some_iff.mp U;ac_rfl;have L:aq H' (upd H' T (.tup [u,.str z])):=aq.new _ hT;refine wD (bz.of ab) ⟨Ext.set (Ext.set (Ext.refl _) rfl) rfl,?_⟩;walk_at "r";rw[if_pos trivial];refine ZG u z m rfl ((Y i u z e1 ez).same (G.trans (c.trans L))) (λl k=>?_);have n:l D=some (.lst (List.replicate i (V.bl true))):=k _ _ (L _ _ B);refine cn n S I (S' (aA ())) ⟨jm _ _,λb o e=>?_⟩;rw[av (ao e R)];exact k _ _ (L _ _ (c _ _ e))
 ·rintro ys H' B S ⟨rfl,c⟩;walk_at "r";rw[oX] at B;refine bI _ (aP.of B) ?_;have e:(List.replicate g.length true).all id=true:=by simp
  rw[e];calc q _ (G.trans c)
abbrev iM:Stmt:=top 33
def LT(H:Hp)(a:Addr)(xs:List V):Prop:=H a=some (.lst xs)\/H a=some (.tup xs)
theorem LT.same{xs:List V}(s:aq H H')(h:LT H a xs):LT H' a xs:=h.elim (λz=>.inl (s _ _ z)) (λz=>.inr (s _ _ z))
theorem js{K:W.Frag}(h:LT H a ys)(q:∀p H',aq H H'->H' p=some (.tup ys)->Q (.ref p) H'):vC K [.ref a] H Q:=by
 rcases h with h|h
 ·exact .inl ⟨_,aP.of h,λl b=>q l _ (aq.new _ b) ab⟩
 ·calc .inr ⟨_,bz.of h,q a H (aq.refl H) h⟩
def r9:Sp:=λvs H Q _=>∃(a:Addr) (ns:List Int) (c b M:Int),vs=[.ref a,.int c,.int b,.int M]/\LT H a (ns.map V.int)/\c<=(ns.length:Int)/\(ns.length:Int)<=b/\b<=100/\(∀z∈ns,0<=z/\z<M)/\∀H',aq H H'->Q (.bl true) H'
theorem tL(D:cZ K mg "are_counted" "are_counted" iM ["things","least","most","modulus"])(T:Tx K mg C CN CR F FD)(I:Def P w K mg base "is_list" 1 ["things","least","most"] mn)(L:Def P w K mg base "is_within" 2 ["thing","low","beyond"] bY):Def P w K mg base "are_counted" 3 ["things","least","most","modulus"] r9:=by
 have sc:aB ["things","least","most","modulus"] ["things","least","most","modulus"] (ay iM):=by walk_at "s"
 symm;obtain⟨a,ns,z,B,M,rfl,g,G,m,N,v,q⟩:=h;have N:=hr.units;refine⟨_,(ak (aE (iI (aJ I hr (af (au 0) (af (au 1) (af (au 2) aa)))) (iH (bg (jl rfl) rfl T.uG Eu (af (dy (N':=["thing","modulus"]) (ix:=[none,some 3]) (bS (pv 0)) (λ_ _ _ _=>(aQ (i:=0) (show(["thing","modulus"]:List Str).Nodup by decide +kernel) rfl Sort)) oI (λ_ _ _ _=>(aJ L hr (af (au 0) (af ai (af (au 1) aa)))))) aa)))))),?_⟩;walk_at "r";refine e9 a _ z B rfl g (λH1 k=>?_);rw[List.length_map,decide_eq_true G,decide_eq_true m];show ∃c,V.bl true=.bl c/\_;refine bI true rfl ?_;rw[if_pos rfl];refine bL ?_;walk_at "r";rcases g with g | g
 ·calc .inl ⟨⟨_,aP.of (k _ _ g)⟩,λD p=>?_⟩;refine bq (J:=wQ K a) (n:=ns.length) (λi ys H'=>ys=List.replicate i (V.bl true)/\aq H1 H') (S' (aA ())) ⟨rfl,aq.new _ p⟩ ?_ ?_ ?_ ?_
  ·rintro i ys H' j ⟨_,d⟩;exact⟨_,.int ns[i],aP.of (d _ _ (k _ _ g)),by rw[List.getElem?_map,cy j];rfl⟩
  ·rintro ys H' ⟨_,d⟩;exact⟨_,aP.of (d _ _ (k _ _ g)),nofun⟩
  ·intro i ys H' j l r O x R S;nofun;obtain⟨rfl,d⟩:=O;obtain⟨rfl,y⟩:=S;have t:=y _ (aP.of (d _ _ (k _ _ g)));rw[List.getElem?_map,cy j] at t;obtain rfl:=Option.some.inj t;ac_rfl;walk_at "xf";walk_at "r";rw[if_pos trivial];refine e9 (.int ns[i]) _ 0 M rfl (.int _) ?_;have u:=v ns[i] (aae j);have e:inR 0 M (.int ns[i])=true:=by simp[inR,u.1,u.2]
   rw[e];calc cn l r j (S' (aA ())) ⟨jm _ _,λb o e=>?_⟩;rw[av (ao e p)];exact d _ _ e
  ·rintro ys H' l r ⟨rfl,d⟩;walk_at "r";rw[oX] at l;refine bI _ (aP.of l) ?_;have e:(List.replicate ns.length true).all id=true:=by simp
   rw[e];exact q _ (k.trans d)
 ·calc .inr ⟨⟨_,bz.of (k _ _ g)⟩,λD p=>?_⟩;refine bq (J:=Rp K a) (n:=ns.length) (λi ys H'=>ys=List.replicate i (V.bl true)/\aq H1 H') (S' (aA ())) ⟨rfl,aq.new _ p⟩ ?_ ?_ ?_ ?_
  ·rintro i ys H' j ⟨_,d⟩;exact⟨_,.int ns[i],bz.of (d _ _ (k _ _ g)),by rw[List.getElem?_map,cy j];rfl⟩
  ·rintro ys H' ⟨_,d⟩;exact⟨_,bz.of (d _ _ (k _ _ g)),nofun⟩
  ·intro i ys H' j l r U x R W;nofun;obtain⟨rfl,d⟩:=U;obtain⟨rfl,y⟩:=W;have t:=y _ (bz.of (d _ _ (k _ _ g)));rw[List.getElem?_map,cy j] at t;obtain rfl:=Option.some.inj t;ac_rfl;walk_at "xf";walk_at "r";rw[if_pos trivial];refine e9 (.int ns[i]) _ 0 M rfl (.int _) ?_;have u:=v ns[i] (aae j);have e:inR 0 M (.int ns[i])=true:=by simp[inR,u.1,u.2]
   rw[e];calc cn l r j (S' (aA ())) ⟨jm _ _,λb o e=>?_⟩;rw[av (ao e p)];exact d _ _ e
  ·rintro ys H' l r ⟨rfl,d⟩;walk_at "r";rw[oX] at l;refine bI _ (aP.of l) ?_;have e:(List.replicate ns.length true).all id=true:=by simp
   rw[e];calc q _ (k.trans d)
abbrev fS:Stmt:=top 34
def BD:Sp:=λvs H Q _=>∃(M:Int) (a b ad:Addr) (ns row:List Int) (xs:List V),vs=[.int M,.ref a,.ref b,.ref ad]/\2<=M/\M<=1000000000000/\LT H a (ns.map V.int)/\LT H b (row.map V.int)/\LT H ad xs/\1<=ns.length/\ns.length<=4/\row.length<=12/\(∀z∈ns,0<=z/\z<M)/\(∀z∈row,0<=z/\z<M)/\∀H',aq H H'->Q .bC H'
theorem pw(D:cZ K mg "refuse_machine" "refuse_machine" fS ["modulus","numbers","row","deeds"])(T:Tx K mg C CN CR F FD)(b:Def P w K mg base "are_counted" 3 ["things","least","most","modulus"] r9)(r:Def P w K mg base "is_within" 2 ["thing","low","beyond"] bY):Def P w K mg base "refuse_machine" 4 ["modulus","numbers","row","deeds"] BD:=by
 have sc:aB ["modulus","numbers","row","deeds"] ["modulus","numbers","row","deeds"] (ay fS):=by walk_at "s"
 symm;obtain⟨M,c,d,ad,ns,row,u,rfl,g,x,i,j,k,y,z,B,l,m,q⟩:=h;have u:=hr.units;refine⟨_,(ag (aT (cb (bA (aJ r hr (af (au 0) (af ai (af (aW cR (fz T.dB rfl) ai) aa)))))) (ak cP) aI)
  (ag (aT (cb (bA (aJ b hr (af (au 1) (af ai (af (fz T.dC rfl) (af (au 0) aa))))))) (ak cP) aI)
  (ag (aT (cb (bA (aJ b hr (af (au 2) (af ai (af (fz T.fb rfl) (af (au 0) aa))))))) (ak cP) aI)
  (ak (aT (cb (bA (bg cS rfl T.bb wK (af (au 3) (af (bD (af (cV (v:=.ty "list") rfl T.dX ke rfl) (af (cV (v:=.ty "tuple") rfl T.bX qJ rfl) aa))) aa))))) (ak cP) aI))))),?_⟩
 walk_at "r";refine e9 (.int M) _ 2 _ rfl (.int M) ?_;have e:inR 2 (1000000000000+1) (.int M)=true:=by simp[inR,g];lia
 rw[e];walk_at "r";rw[if_neg ∅];refine Uk c ns 1 4 M rfl i () () ∅ l (λH1 a=>?_);walk_at "r";rw[if_neg ∅];refine Uk d row 0 12 M rfl (j.same a) () () ∅ m (λH2 n=>?_);walk_at "r";rw[if_neg ∅];refine⟨dH,λp b=>?_⟩;have o:aq H2 (upd H2 p (.tup [.ty "list",.ty "tuple"])):=aq.new _ b;have G:∃t,gs K (upd H2 p (.tup [.ty "list",.ty "tuple"])) (.ref ad) t/\W.kitAny K t [.type "list",.type "tuple"]=some true:=by
  rcases k.same (a.trans (n.trans o)) with z|z
  ·exact⟨_,.lst z,rfl⟩
  ·exact⟨_,.tup z,rfl⟩
 obtain⟨t,I,J⟩:=G;refine Uj t true _ _ I ab rfl J ?_;walk_at "r";rw[if_neg ∅];exact q _ (a.trans (n.trans o))
abbrev gQ:Stmt:=top 35
def DL(H:Hp)(n:Nat)(xs:List V)(a:List bf):Prop:=xs.length=a.length/\∀(i:Nat) x d,xs[i]?=some x->a[i]?=some d->HT H n x (bf.dv d)
theorem DL.aG{n:Nat}{xs:List V}{a:List bf}(s:cj H H')(h:DL H n xs a):DL H' n xs a:=⟨h.1,λi x d a b=>(h.2 i x d a b).aG s⟩
theorem DL.ht{n:Nat}{xs:List V}{b:List bf}(h:DL H n xs b)(e:H a=some (.tup xs)):HT H (n+1) (.ref a) (.tup (b.map bf.dv)):=by
 calc .tup e (by rw[List.length_map];calc h.1) λi u d f c=>?_;rw[List.getElem?_map]at c;obtain⟨dd,g,rfl⟩:=Option.map_eq_some_iff.mp c;calc h.2 i u dd f g
def BE:Sp:=λvs H Q _=>∃(a:Addr) (xs:List V) (b:List bf) (m:Int) (n:Nat),vs=[.ref a,.int m]/\LT H a xs/\DL H n xs b/\b.length<=24/\(∀d∈b,d.ok m)/\∀H',aq H H'->Q .bC H'
theorem se(D:cZ K mg "refuse_deeds" "refuse_deeds" gQ ["deeds","many"])(T:Tx K mg C CN CR F FD)(B:Def P w K mg base "is_deed" 5 ["thing","many"] uK):Def P w K mg base "refuse_deeds" 6 ["deeds","many"] BE:=by
 have sc:aB ["deeds","many","at","deed"] ["deeds","many"] (ay gQ):=by walk_at "s"
 symm;obtain⟨a,c,e,m,n,rfl,d,g,G,u,q⟩:=h;have G:=hr.units;refine⟨_,(ak (df PassesOwn.never rfl (jB rfl T.dE (af (au 0) aa)) (eZ (i:=2) (j:=3) rfl sc.nd rfl rfl Sort Sort)
  (ak (aT (PW.pt (pw_or (az (aU G) (au 2) (fz T.dM rfl) (aH _)) (pw_or1 (cb (bA (aJ B hr (af (au 3) (af (au 1) aa)))))))) (ak cP) aI)))),?_⟩
 rcases d with d|d
 ·calc F7 true c (Sq.l d) ?_;refine kr (xs:=c) (λi σ H'=>aq H H'/\∃k o,σ=[some (.ref a),some (.int m),k,o]) ⟨aq.refl H,none,none,rfl⟩ (λi σ H' ⟨b,_⟩=>Sq.l (b _ _ d)) ?_ ?_
  ·intro i x σ H1 T p I v;obtain⟨b,k,o,rfl⟩:=I;have y:i < c.length:=(List.getElem?_eq_some_iff.mp p).1;have iq:i < e.length:=by rw[<-g.1];exact y
   have r:aq H1 (upd H1 T (.tup [.int i,x])):=aq.new _ v;refine wD (bz.of ab) ?_;walk_at "r";rw[if_neg (by simp;lia)];refine⟨x,m,n,e[i],rfl,(g.2 i x e[i] p (cy iq)).aG (b.trans r).aM,u _ (aae iq),λJ z=>?_⟩;walk_at "r"
   first|rw[if_neg ∅]|skip
   exact⟨b.trans (r.trans z),_,_,rfl,rfl⟩
  ·rintro σ H1 ⟨b,_⟩;exact q _ b
 ·calc F7 false c (Sq.t d) ?_;refine kr (xs:=c) (λi σ H'=>aq H H'/\∃k o,σ=[some (.ref a),some (.int m),k,o]) ⟨aq.refl H,none,none,rfl⟩ (λi σ H' ⟨b,_⟩=>Sq.t (b _ _ d)) ?_ ?_
  ·intro i x σ H1 T p L v;obtain⟨b,k,o,rfl⟩:=L;have y:i < c.length:=(List.getElem?_eq_some_iff.mp p).1;have iq:i < e.length:=by rw[<-g.1];exact y
   have r:aq H1 (upd H1 T (.tup [.int i,x])):=aq.new _ v;refine wD (bz.of ab) ?_;walk_at "r";rw[if_neg (by simp;lia)];refine⟨x,m,n,e[i],rfl,(g.2 i x e[i] p (cy iq)).aG (b.trans r).aM,u _ (aae iq),λJ z=>?_⟩;walk_at "r"
   first|rw[if_neg ∅]|skip
   exact⟨b.trans (r.trans z),_,_,rfl,rfl⟩
  ·rintro σ H1 ⟨b,_⟩;calc q _ b
abbrev pC:Stmt:=(b8 (top 39)).getD 0 (.Pass ⟨0,0,0,0⟩)
def IY(M:Int)(st dd:V):List (Str×V):=aX "own_deeds" dd (aX "own_state" st (aX "own_modulus" (.int M) []))
theorem UK{M:Int}:(IY M st dd).lookup ("own_modulus":Str)=some (.int M):=by
 unfold IY;rw[bc,if_neg ⋯,bc,if_neg ⋯,bc,if_pos rfl]
theorem ZV{M:Int}:(IY M st dd).lookup ("own_state":Str)=some st:=by
 unfold IY;rw[bc,if_neg ⋯,bc,if_pos rfl]
theorem UL{M:Int}:(IY M st dd).lookup ("own_deeds":Str)=some dd:=by
 unfold IY;rw[bc,if_pos rfl]
theorem BG{M:Int}(a:f≠"own_modulus")(b:f≠"own_state")(c:f≠"own_deeds"):(IY M st dd).lookup f=none:=by
 unfold IY;rw[bc,if_neg c,bc,if_neg b,bc,if_neg a];rfl
theorem bM{v:V}{a:List (Str×V)}{n:Nat}(h:a.length<n):(aX f v a).length<n+1:=by
 have:=kj f v a;lia
def gR(C:Addr)(H:Hp)(m:Addr)(M:Int)(ns row:List Int)(a:List bf):Prop:=∃b st dd,H m=some (.ins C b (IY M st dd))/\HT H 2 st (xt ns row)/\HT H 4 dd (.tup (a.map bf.dv))
theorem gR.same{C:Addr}{M:Int}{a:List bf}(s:aq H H')(h:gR C H m M ns row a):gR C H' m M ns row a:=by
 obtain⟨a,st,dd,b,c,d⟩:=h;calc⟨a,st,dd,s _ _ b,c.aG s.aM,d.aG s.aM⟩
def BH(C:Addr):Sp:=λvs H Q _=>∃(x f:Addr) (M:Int) (c e ad:Addr) (ns row:List Int) (xs:List V) (a:List bf) (n:Nat),vs=[.ref x,.int M,.ref c,.ref e,.ref ad]/\H x=some (.ins C f [])/\2<=M/\M<=1000000000000/\LT H c (ns.map V.int)/\LT H e (row.map V.int)/\LT H ad xs/\1<=ns.length/\ns.length<=4/\row.length<=12/\
 (∀z∈ns,0<=z/\z<M)/\(∀z∈row,0<=z/\z<M)/\DL H n xs a/\n<=3/\a.length<=24/\(∀d∈a,d.ok ns.length)/\∀H',gR C H' x M ns row a->(∀b o,b≠x->H b=some o->H' b=some o)->Q .bC H'
theorem Dz(D:Dd K mg "Machine" C "Machine.__init__" pC ["self","modulus","numbers","row","deeds"])(T:Tx K mg C CN CR F FD)(gS:Def P w K mg base "refuse_deeds" 6 ["deeds","many"] BE)(fT:Def P w K mg base "refuse_machine" 4 ["modulus","numbers","row","deeds"] BD):vK P w K mg base "Machine" C 7 ["self","modulus","numbers","row","deeds"] (BH C):=by
 have sc:aB ["self","modulus","numbers","row","deeds"] ["self","modulus","numbers","row","deeds"] (ay pC):=by walk_at "s"
 symm;obtain⟨x,a,M,J,ar,ad,ns,row,r,ds,n,rfl,t,Dy,pA,u,L,j,KU,RB,nY,hb,PD,N,k,Mu,aO,q⟩:=h;have k:=hr.units;refine⟨_,(ag (bP (aJ fT hr (af (au 1) (af (au 2) (af (au 3) (af (au 4) aa))))))
  (ag (bP (aJ gS hr (af (au 4) (af (bg aN rfl T.cm W' (af (au 2) aa)) aa))))
  (ag (fw (au 0) (au 1) (gh rfl))
  (ag (fw (au 0) (bD (af (cQ bO rfl T.bX qJ (af (au 2) aa)) (af (cQ bO rfl T.bX qJ (af (au 3) aa)) aa))) (gh rfl))
  (ak (fw (au 0) (cQ bO rfl T.bX qJ (af (au 4) aa)) (gh rfl))))))),?_⟩
 try walk_at "rt"
 refine⟨M,J,ar,ad,ns,row,r,rfl,Dy,pA,u,L,j,KU,RB,nY,hb,PD,λH1 v=>?_⟩
 try walk_at "rt"
 have k:EO K (.ref J) H1 (ns.map V.int).length:=(u.same v).elim (λz=>.inl ⟨_,aP.of z,rfl⟩) (λz=>.inr ⟨_,bz.of z,rfl⟩);calc bI _ k ?_;calc ZK ad r ds _ n rfl (j.same v) (N.aG v.aM) Mu (by rw[List.length_map];calc aO) (λH2 J=>?_);have IZ:=v.trans J
 try walk_at "rt"
 have k:=IZ _ _ t;calc⟨x,C,a,[],rfl,k,T.cC,T.Mq,∅,?_⟩;have l:∀{b:Addr} {ys:List V},LT H b ys->b≠x:=λh z=>by
  subst z;rcases h with h|h<;>(rw[t]at h;cases h)
 have O:∀b o,b≠x->H b=some o->upd H2 x (.ins C a (aX "own_modulus" (.int M) [])) b=some o:=λb o d e=>by rw[av d];exact IZ _ _ e
 have m:∀{b:Addr} {ys:List V},LT H b ys->LT (upd H2 x (.ins C a (aX "own_modulus" (.int M) []))) b ys:=λh=>by
  have g:=l h;exact h.elim (λz=>.inl (O _ _ g z)) (λz=>.inr (O _ _ g z))
 have p:upd H2 x (.ins C a (aX "own_modulus" (.int M) [])) x=some (.ins C a (aX "own_modulus" (.int M) [])):=ab;generalize Ja:upd H2 x (.ins C a (aX "own_modulus" (.int M) []))=G2 at *
 try walk_at "rt"
 refine js (m u) λy k s3 xS=>?_
 try walk_at "rt"
 refine js ((m L).same s3) λB R s4 qj=>?_
 try walk_at "rt"
 calc⟨dH,λc k=>?_⟩;have S:=aq.new (.tup [.ref y,.ref B]) k;have U:=s3.trans (s4.trans S)
 try walk_at "rt"
 calc qw x C a _ rfl (U _ _ p) T.cC T.Pt (bM (n:=999) ∅) ?_;have W:HT (upd R c (.tup [.ref y,.ref B])) 2 (.ref c) (xt ns row):=dg ab (nK (S _ _ (s4 _ _ xS))) (nK (S _ _ qj));have ZX:=U _ _ p;have I:∀b o,b≠x->H b=some o->upd R c (.tup [.ref y,.ref B]) b=some o:=λb o d e=>U _ _ (O b o d e);generalize hG:upd R c (.tup [.ref y,.ref B])=G at *;have tG:cj H G:=λb ys e=>I b _ (λz=>by subst z;rw[t]at e;cases e) e;have t6:cj G (upd G x (.ins C a (aX "own_state" (.ref c) (aX "own_modulus" (.int M) [])))):=(cj.refl G).upd λys e=>by rw[ZX]at e;cases e
 have e6:LT (upd G x (.ins C a (aX "own_state" (.ref c) (aX "own_modulus" (.int M) [])))) ad r:=by
  have g:=l j;exact j.elim (λz=>.inl (by rw[av g];calc I _ _ g z)) (λz=>.inr (by rw[av g];calc I _ _ g z))
 have n6:∀b o,b≠x->H b=some o->upd G x (.ins C a (aX "own_state" (.ref c) (aX "own_modulus" (.int M) []))) b=some o:=λb o d e=>by rw[av d];exact I b o d e
 have X:upd G x (.ins C a (aX "own_state" (.ref c) (aX "own_modulus" (.int M) []))) x=some (.ins C a (aX "own_state" (.ref c) (aX "own_modulus" (.int M) []))):=ab;generalize Mv:upd G x (.ins C a (aX "own_state" (.ref c) (aX "own_modulus" (.int M) [])))=G6 at *
 try walk_at "rt"
 refine js e6 λY H7 i Z=>?_
 try walk_at "rt"
 calc qw x C a _ rfl (i _ _ X) T.cC T.Mr (bM (n:=999) (bM (n:=998) ∅)) ?_;have ne4:Y≠x:=λz=>by subst z;rw[i _ _ X]at Z;cases Z
 have t8:cj H7 (upd H7 x (.ins C a (IY M (.ref c) (.ref Y)))):=(cj.refl _).upd λys e=>by rw[i _ _ X]at e;cases e
 refine q _ ⟨a,.ref c,.ref Y,ab,(W.aG t6).aG (i.aM.trans t8),?_⟩ λb o d e=>?_
 ·calc HT.mono (n:=n+1) ?_ ();calc DL.ht (N.aG (tG.trans (t6.trans (i.aM.trans t8)))) ?_;rw[av ne4];exact Z
 ·rw[av d];calc i _ _ (n6 b o d e)
abbrev dY:Stmt:=(b8 (top 39)).getD 2 (.Pass ⟨0,0,0,0⟩)
def Gz(C:Addr):Sp:=λvs H Q _=>∃(m:Addr) (M:Int) (ns row:List Int) (a:List bf),vs=[.ref m]/\gR C H m M ns row a/\∀st,HT H 2 st (xt ns row)->Q st H
theorem j7(D:gG K C "first_state" "Machine.first_state" dY ["self"])(T:Tx K mg C CN CR F FD):ck P w K mg base C "first_state" 1 ["self"] (Gz C):=by
 have sc:aB ["self"] ["self"] (ay dY):=by walk_at "s"
 symm;obtain⟨m,M,ns,row,d,rfl,⟨a,st,dd,b,c,e⟩,q⟩:=h;have d:=hr.units;calc⟨_,(ak (aE (bF (au 0) rfl))),?_⟩;calc⟨m,C,a,_,_,rfl,b,T.cC,T.Pt,ZV,q _ c⟩
theorem UM{H:Hp}{n:Nat}{x:V}{b:List bf}(h:HT H (n+1) x (.tup (b.map bf.dv))):∃a xs,x=.ref a/\H a=some (.tup xs)/\DL H n xs b:=by
 cases h with
 | @tup _ a xs _ e l i=>
  calc⟨a,xs,rfl,e,by simpa using l,λj x d b c=>i j x _ b ?_⟩;rw[List.getElem?_map,c];rfl
def gw(H:Hp)(n:Nat)(ys:List V)(es:List DV):Prop:=ys.length=es.length/\∀(i:Nat) y e,ys[i]?=some y->es[i]?=some e->HT H n y e
theorem gw.nil{n:Nat}:gw H n [] []:=⟨rfl,λi y e h=>by simp at h⟩
theorem gw.aG{n:Nat}{es:List DV}(h:gw H n ys es)(t:cj H H'):gw H' n ys es:=⟨h.1,λi y e a b=>(h.2 i y e a b).aG t⟩
theorem gw.snoc{H:Hp}{n:Nat}{ys:List V}{es:List DV}{y:V}{e:DV}(h:gw H n ys es)(g:HT H n y e):gw H n (ys++[y]) (es++[e]):=by
 calc⟨by simp[h.1],λi c f a b=>?_⟩;by_cases c:i<ys.length
 ·rw[List.getElem?_append_left c]at a;rw[List.getElem?_append_left (by rw[<-h.1];calc c)]at b;exact h.2 i _ _ a b
 ·rw[List.getElem?_append_right ()] at a;rw[List.getElem?_append_right (by rw[<-h.1];lia),<-h.1] at b
  cases d:i-ys.length with
  |zero=>rw[d]at a b;cases a;cases b;calc g
  |succ k=>rw[d]at a;simp at a
theorem gw.dl{n:Nat}{xs:List V}{a:List bf}(h:gw H n xs (a.map bf.dv)):DL H n xs a:=⟨by simpa using h.1,λi x d a b=>h.2 i x _ a (by rw[List.getElem?_map,b];rfl)⟩
abbrev sh:Stmt:=top 45
abbrev RC(C:Addr)(H:Hp)(m:Addr)(d:MD):Prop:=gR C H m d.M d.ns d.row d.ds
def lN(w:Int×Int×Str):DV:=.tup [.int w.1,.int w.2.1,.str w.2.2]
def nZ(l:Int×Int):DV:=.tup [.int l.1,.int l.2]
def uL(m:Int)(w:Int×Int×Str):Prop:=0<=w.1/\w.1<m/\0<=w.2.1/\w.2.1<m/\(w.2.2="row"\/w.2.2="heap")
def uM(m:Int)(l:Int×Int):Prop:=0<=l.1/\l.1<m/\1-1000000000000000000000000000000000000000000000000000000000000<=l.2/\l.2<1000000000000000000000000000000000000000000000000000000000000
def xW:Sp:=λvs H Q _=>∃(x:V) (n:Nat) (a b:Int) (c:Str) (m:Int),vs=[x,.int m]/\HT H n x (lN (a,b,c))/\uL m (a,b,c)/\∀H',aq H H'->Q (.bl true) H'
theorem GB(D:cZ K mg "is_way" "is_way" sh ["thing","many"])(T:Tx K mg C CN CR F FD)(l:Def P w K mg base "is_within" 2 ["thing","low","beyond"] bY):Def P w K mg base "is_way" 3 ["thing","many"] xW:=by
 have sc:aB ["thing","many"] ["thing","many"] (ay sh):=by walk_at "s"
 symm;obtain⟨x,n,c,d,g,m,rfl,o,r,q⟩:=h;have i:=hr.units;refine⟨_,(ag (aT (PW.pt (pw_or (cb (bA (bg cS rfl T.bb wK (af (au 0) (af (cV (v:=.ty "tuple") rfl T.bX qJ rfl) aa))))) (pw_or (az (jE i) (bg aN rfl T.cm W' (af (au 0) aa)) ai (aH _)) (pw_or1 (cb (bA (bg cS rfl T.bb wK (af (aj i (au 0) ai) (af (cV (v:=.ty "str") rfl T.Bw PyProof.Rows.boot_str rfl) aa))))))))) (ak (aE je)) aI)
  (ak (aE (iI (aJ l hr (af (aj i (au 0) ai) (af ai (af (au 1) aa)))) (iI (aJ l hr (af (aj i (au 0) ai) (af ai (af (au 1) aa)))) (iH (jy Fq (aj i (au 0) ai) (bD (af aC (af aC aa))) (by with_unfolding_all rfl)))))))),?_⟩
 nofun;obtain⟨a,M,N,O,k,rfl,b,t,u,y⟩:=bT o;obtain rfl:=t.cB;obtain rfl:=u.cB;obtain rfl:=y.cI
 replace b:H a=some (.tup [.int c,.int d,.str g]):=b
 obtain⟨z,B,G,I,J⟩:0<=c/\c<m/\0<=d/\d<m/\(g="row"\/g="heap"):=r;ac_rfl;walk_at "j";refine cM _ true (.tup b) rfl ?_;simp only[Bool.not_true,Bool.false_eq_true,if_false];refine bI _ (.inr ⟨_,bz.of b,rfl⟩) ?_;rw[if_neg nofun];refine⟨_,_,.inr (bz.of b),ax (j:=2) rfl,_,true,.str _,rfl,?_⟩;simp only[Bool.not_true,Bool.false_eq_true,if_false];walk_at "j";refine cM _ _ (.inr (bz.of b)) (ax (j:=0) rfl) ?_;refine e9 (.int c) _ 0 m rfl (.int c) ?_;rw[show inR 0 m (.int c)=true by simp[inR,z,B]];walk_at "j";rw[if_pos trivial];refine cM _ _ (.inr (bz.of b)) (ax (j:=1) rfl) ?_;refine e9 (.int d) _ 0 m rfl (.int d) ?_;rw[show inR 0 m (.int d)=true by simp[inR,G,I]];walk_at "j";rw[if_pos trivial];refine tI _ _ (.inr (bz.of b)) (ax (j:=2) rfl) dH (λp L=>?_);refine Kz _ (.inr (bz.of ab)) rfl rfl ?_;have e:AU (.str g) [.str "row",.str "heap"]=true:=by
  rcases J with rfl|rfl<;>decide +kernel
 rw[e];calc q _ (aq.new _ L)
abbrev kC:Stmt:=top 46
def xX:Sp:=λvs H Q _=>∃(x:V) (n:Nat) (a b:Int) (m:Int),vs=[x,.int m]/\HT H n x (nZ (a,b))/\uM m (a,b)/\Q (.bl true) H
theorem xY(D:cZ K mg "is_letter" "is_letter" kC ["thing","many"])(T:Tx K mg C CN CR F FD)(g:Def P w K mg base "is_within" 2 ["thing","low","beyond"] bY):Def P w K mg base "is_letter" 3 ["thing","many"] xX:=by
 have sc:aB ["thing","many"] ["thing","many"] (ay kC):=by walk_at "s"
 symm;obtain⟨x,n,b,c,m,rfl,i,l,q⟩:=h;have e:=hr.units;refine⟨_,(ag (aT (PW.pt (pw_or (cb (bA (bg cS rfl T.bb wK (af (au 0) (af (cV (v:=.ty "tuple") rfl T.bX qJ rfl) aa))))) (pw_or1 (az (jE e) (bg aN rfl T.cm W' (af (au 0) aa)) ai (aH _))))) (ak (aE je)) aI)
  (ak (aE (iI (aJ g hr (af (aj e (au 0) ai) (af ai (af (au 1) aa)))) (iH (aJ g hr (af (aj e (au 0) ai) (af (aW eX ai (fz T.dN rfl)) (af (fz T.dN rfl) aa))))))))),?_⟩
 nofun;obtain⟨a,z,B,k,rfl,d,o,p⟩:=dI i;obtain rfl:=o.cB;obtain rfl:=p.cB
 replace d:H a=some (.tup [.int b,.int c]):=d
 obtain⟨r,t,u,y⟩:0<=b/\b<m/\1-1000000000000000000000000000000000000000000000000000000000000<=c/\c<1000000000000000000000000000000000000000000000000000000000000:=l;ac_rfl;walk_at "j";refine cM _ true (.tup d) rfl ?_;simp only[Bool.not_true,Bool.false_eq_true,if_false];refine bI _ (.inr ⟨_,bz.of d,rfl⟩) ?_;rw[if_neg nofun];walk_at "j";refine cM _ _ (.inr (bz.of d)) (ax (j:=0) rfl) ?_;refine e9 (.int b) _ 0 m rfl (.int b) ?_;rw[show inR 0 m (.int b)=true by simp[inR,r,t]];walk_at "j";rw[if_pos trivial];refine cM _ _ (.inr (bz.of d)) (ax (j:=1) rfl) ?_;refine e9 (.int c) _ _ _ rfl (.int c) ?_;rw[show inR (1-1000000000000000000000000000000000000000000000000000000000000) 1000000000000000000000000000000000000000000000000000000000000 (.int c)=true by simp only[inR,decide_eq_true u,decide_eq_true y,Bool.and_self]];exact q
abbrev jJ:Stmt:=top 47
def BI(C:Addr):Sp:=λvs H Q _=>∃(a b c:Addr) (ms:List Addr) (wv lv:List V) (ws:List (Int×Int×Str)) (ls:List (Int×Int)),vs=[.ref a,.ref b,.ref c]/\H a=some (.lst (ms.map V.ref))/\H b=some (.lst wv)/\H c=some (.lst lv)/\1<=ms.length/\ms.length<=5/\wv.length<=10/\lv.length<=20/\(∀m∈ms,∃d e,H m=some (.ins C d e))/\gw H 1 wv (ws.map lN)/\gw H 1 lv (ls.map nZ)/\(∀w∈ws,uL ms.length w)/\(∀l∈ls,uM wv.length l)/\∀H',aq H H'->Q .bC H'
theorem vS(D:cZ K mg "refuse_net" "refuse_net" jJ ["machines","ways","letters"])(T:Tx K mg C CN CR F FD)(kD:Def P w K mg base "is_letter" 3 ["thing","many"] xX)(M:Def P w K mg base "is_list" 1 ["things","least","most"] mn)(sk:Def P w K mg base "is_way" 3 ["thing","many"] xW):Def P w K mg base "refuse_net" 4 ["machines","ways","letters"] (BI C):=by
 have sc:aB ["machines","ways","letters"] ["machines","ways","letters"] (ay jJ):=by walk_at "s"
 symm;obtain⟨N,O,R,ms,wv,lv,ws,ls,rfl,z,S,Eo,xZ,Jc,qx,qy,UN,U,W,KY,rz,q⟩:=h;have hu:=hr.units;refine⟨_,(ag (aT (PW.pt (pw_or (cb (bA (aJ M hr (af (au 0) (af ai (af (fz T.c9 rfl) aa)))))) (pw_or1 (cb (bA (bg (jl rfl) rfl T.uG Eu (af (dy (N':=["one"]) (ix:=[none]) (bS (pv 0)) (λ_ _ _ _=>(aQ (i:=0) (show(["one"]:List Str).Nodup by decide +kernel) rfl Sort)) oI (λ_ _ _ _=>(bg (F3 (K:=K) rfl) rfl T.bb wK (af (au 0) (af (Ax (v:=.ref C) rfl T.uH rfl) aa))))) aa))))))) (ak cP) aI)
  (ag (aT (PW.pt (pw_or (cb (bA (aJ M hr (af (au 1) (af ai (af (fz T.fq rfl) aa)))))) (pw_or1 (cb (bA (bg (jl rfl) rfl T.uG Eu (af (dy (N':=["way","machines"]) (ix:=[none,some 0]) (bS (pv 1)) (λ_ _ _ _=>(aQ (i:=0) (show(["way","machines"]:List Str).Nodup by decide +kernel) rfl Sort)) oI (λ_ _ _ _=>(aJ sk hr (af (au 0) (af (bg (rH (K:=K) rfl) rfl T.cm W' (af (au 1) aa)) aa))))) aa))))))) (ak cP) aI)
  (ak (aT (PW.pt (pw_or (cb (bA (aJ M hr (af (au 2) (af ai (af (fz T.dD rfl) aa)))))) (pw_or1 (cb (bA (bg (jl rfl) rfl T.uG Eu (af (dy (N':=["letter","ways"]) (ix:=[none,some 1]) (bS (pv 2)) (λ_ _ _ _=>(aQ (i:=0) (show(["letter","ways"]:List Str).Nodup by decide +kernel) rfl Sort)) oI (λ_ _ _ _=>(aJ kD hr (af (au 0) (af (bg (rH (K:=K) rfl) rfl T.cm W' (af (au 1) aa)) aa))))) aa))))))) (ak cP) aI)))),?_⟩
 have M:(ms.map V.ref).length<=5:=by simpa using Jc
 walk_at "j";refine e9 N _ 1 _ rfl (.inl z) (λH1 X=>?_);rw[show(decide ((1:Int)<=((ms.map V.ref).length:Int))&&decide (((ms.map V.ref).length:Int)<=5))=true by simp;lia];walk_at "j"
 try simp only[Bool.not_true,Bool.false_eq_true,if_false]
 have B:=X _ _ z;refine bL ?_;walk_at "j";refine .inl ⟨⟨_,aP.of B⟩,λD p=>?_⟩;refine bq (J:=wQ K N) (n:=(ms.map V.ref).length) (λi a H'=>a=List.replicate i (V.bl true)/\aq H1 H') (S' (aA ())) ⟨rfl,aq.new _ p⟩ ?_ ?_ ?_ ?_
 ·rintro i a H' d ⟨_,l⟩;exact⟨_,(ms.map V.ref)[i],aP.of (l _ _ B),cy d⟩
 ·rintro a H' ⟨_,l⟩;exact⟨_,aP.of (l _ _ B),P' _⟩
 ·intro i a H' d c g ir x G iu;nofun;obtain⟨rfl,l⟩:=ir;obtain⟨rfl,t⟩:=iu;ac_rfl;have u:=t _ (aP.of (l _ _ B));walk_at "xf";walk_at "j";rw[if_pos trivial];have X1:∃m,x=.ref m/\m∈ms:=by
   have:=aad u;obtain⟨m,hm,rfl⟩:=List.mem_map.mp this;exact⟨m,rfl,hm⟩
  nofun;obtain⟨m,rfl,B⟩:=X1;obtain⟨N,fs,M⟩:=UN m B;ac_rfl;calc Pf _ C _ true rfl (.ins (l _ _ (X _ _ M)) T.cC T.Dq T.Ds T.uJ T.Dr) T.i_k ?_;have r:=aq.refl G;calc cn (r _ _ c) g d (S' (aA ())) ⟨jm _ _,λb o e=>?_⟩;rw[av (ao e p)];exact r _ _ (l _ _ e)
 rintro a H2 c g ⟨rfl,l⟩;walk_at "j";rw[oX]at c;refine bI _ (aP.of c) ?_;have e:(List.replicate (ms.map V.ref).length true).all id=true:=by simp
 rw[e];clear e c g;walk_at "j"
 try simp only[Bool.not_true,Bool.false_eq_true,if_false]
 have IZ:=X.trans l;have UO:=IZ _ _ S;walk_at "j";refine e9 O _ 0 _ rfl (.inl UO) (λH3 s3=>?_);rw[show(decide ((0:Int)<=(wv.length:Int))&&decide ((wv.length:Int)<=10))=true by simp;lia];walk_at "j"
 try simp only[Bool.not_true,Bool.false_eq_true,if_false]
 have I:=s3 _ _ UO;have Y:=IZ.trans s3;refine bL ?_;walk_at "j";refine .inl ⟨⟨_,aP.of I⟩,λD p=>?_⟩;refine bq (J:=wQ K O) (n:=wv.length) (λi a H'=>a=List.replicate i (V.bl true)/\aq H3 H') (S' (aA ())) ⟨rfl,aq.new _ p⟩ ?_ ?_ ?_ ?_
 ·rintro i a H' d ⟨_,j⟩;exact⟨_,wv[i],aP.of (j _ _ I),cy d⟩
 ·rintro a H' ⟨_,j⟩;exact⟨_,aP.of (j _ _ I),P' _⟩
 ·intro i a H' d c g nX x G tM;nofun;obtain⟨rfl,j⟩:=nX;obtain⟨rfl,t⟩:=tM;ac_rfl;have u:=t _ (aP.of (j _ _ I));walk_at "xf";walk_at "j";rw[if_pos trivial];have l:i < ws.length:=by have:=U.1;rw[List.length_map] at this;lia
  have Z:=(U.2 i x (lN ws[i]) u (by rw[List.getElem?_map,cy l];rfl)).aG (Y.trans j).aM;calc bI _ (.inl ⟨_,aP.of (j _ _ (Y _ _ z)),rfl⟩) ?_;refine⟨x,1,ws[i].1,ws[i].2.1,ws[i].2.2,_,rfl,Z,?_,λB r=>?_⟩
  ·have:=KY ws[i] (aae l);simpa[uL] using this
  calc cn (r _ _ c) g d (S' (aA ())) ⟨jm _ _,λb o e=>?_⟩;rw[av (ao e p)];exact r _ _ (j _ _ e)
 rintro a H4 c g ⟨rfl,j⟩;walk_at "j";rw[oX]at c;refine bI _ (aP.of c) ?_;have e:(List.replicate wv.length true).all id=true:=by simp
 rw[e];clear e c g;walk_at "j"
 try simp only[Bool.not_true,Bool.false_eq_true,if_false]
 have y:=Y.trans j;have UP:=y _ _ Eo;walk_at "j";refine e9 R _ 0 _ rfl (.inl UP) (λH5 s5=>?_);rw[show(decide ((0:Int)<=(lv.length:Int))&&decide ((lv.length:Int)<=20))=true by simp;lia];walk_at "j"
 try simp only[Bool.not_true,Bool.false_eq_true,if_false]
 have L:=s5 _ _ UP;have Z0:=y.trans s5;refine bL ?_;walk_at "j";refine .inl ⟨⟨_,aP.of L⟩,λD p=>?_⟩;refine bq (J:=wQ K R) (n:=lv.length) (λi a H'=>a=List.replicate i (V.bl true)/\aq H5 H') (S' (aA ())) ⟨rfl,aq.new _ p⟩ ?_ ?_ ?_ ?_
 ·rintro i a H' d ⟨_,k⟩;exact⟨_,lv[i],aP.of (k _ _ L),cy d⟩
 ·rintro a H' ⟨_,k⟩;exact⟨_,aP.of (k _ _ L),P' _⟩
 ·intro i a H' d c g xT x G xU;nofun;obtain⟨rfl,k⟩:=xT;obtain⟨rfl,t⟩:=xU;ac_rfl;have u:=t _ (aP.of (k _ _ L));walk_at "xf";walk_at "j";rw[if_pos trivial];have j:i < ls.length:=by have:=W.1;rw[List.length_map] at this;lia
  have Z:=(W.2 i x (nZ ls[i]) u (by rw[List.getElem?_map,cy j];rfl)).aG (Z0.trans k).aM;calc bI _ (.inl ⟨_,aP.of (k _ _ (Z0 _ _ S)),rfl⟩) ?_;refine⟨x,1,ls[i].1,ls[i].2,_,rfl,Z,?_,?_⟩
  ·have:=rz ls[i] (aae j);simpa[uM] using this
  have r:=aq.refl G;calc cn (r _ _ c) g d (S' (aA ())) ⟨jm _ _,λb o e=>?_⟩;rw[av (ao e p)];exact r _ _ (k _ _ e)
 rintro a H6 c g ⟨rfl,k⟩;walk_at "j";rw[oX]at c;refine bI _ (aP.of c) ?_;have e:(List.replicate lv.length true).all id=true:=by simp
 rw[e];clear e c g;walk_at "j"
 try simp only[Bool.not_true,Bool.false_eq_true,if_false]
 calc q _ (Z0.trans k)
abbrev kF:Stmt:=top 56
def x6:Sp:=λvs H Q _=>∃p m,vs=[.ref p,.int m]/\fF H p/\0<m/\m<=4/\∀x v H',Step p H H'->HT H' 1 x (Val.dv v)->v.ok m->Q x H'
theorem x8(D:cZ K mg "_law_value" "_law_value" kF ["_law_pot_here","_law_many"])(T:Tx K mg C CN CR F FD)(u:Def P w K mg base "_law_digit" 1 ["_law_pot_here","_law_many"] jr):Def P w K mg base "_law_value" 2 ["_law_pot_here","_law_many"] x6:=by
 have sc:aB ["_law_pot_here","_law_many","_law_kind"] ["_law_pot_here","_law_many"] (ay kF):=by walk_at "s"
 symm;obtain⟨p,m,rfl,B,G,I,q⟩:=h;have J:=hr.units;refine⟨_,(ag (aR (i:=2) sc.nd rfl Sort (aJ u hr (af (au 0) (af ai aa))))
  (ag (aT (az gu (au 2) ai (aH _)) (ak (aE (bD (af aC (af (aj J (bu (af (aW eX (aJ u hr (af (au 0) (af ai aa))) ai) (af (aW eX (aJ u hr (af (au 0) (af (aW eX (aW lG ai (aW qM ai ai)) ai) aa))) (aW eX (aW qM ai ai) ai)) aa))) (au 2)) aa))))) aI)
  (ag (aT (az gu (au 2) ai (aH _)) (ak (aE (bD (af aC (af (aJ u hr (af (au 0) (af (au 1) aa))) aa))))) aI)
  (ak (aE (aj J (bu (af (bD (af aC aa)) (af (bD (af aC aa)) (af (bD (af aC aa)) (af (bD (af aC aa)) aa))))) (aW eX (au 2) ai))))))),?_⟩
 walk_at "r";refine mf p 8 rfl B ⋯ ⋯ (λd H1 h1 h2 st=>?_);walk_at "r";split
 ·rename_i j;have j:d < 2:=by simpa using j
  refine mf p 9 rfl st.gi ⋯ ⋯ (λO H2 L I k=>?_);walk_at "r";refine⟨zS,Pw,dig k.gi UH UI λd2 H3 h5 h6 M=>?_⟩;walk_at "r";refine gI zS ∅ (λl c=>?_);have y:d=0\/d=1:=by lia
  rcases y with rfl|rfl
  ·exact⟨_,_,.inl (aP.of ab),rfl,∅,λt n=>q _ (.is _) _ ((((st.trans k).trans M).new c).new n) (dg ab (.str _) (.int _)) trivial⟩
  ·exact⟨_,_,.inl (aP.of ab),rfl,∅,λt n=>q _ (.is _) _ ((((st.trans k).trans M).new c).new n) (dg ab (.str _) (.int _)) trivial⟩
 ·rename_i j;have j:¬d < 2:=by simpa using j
  split
  ·refine⟨p,m,rfl,st.gi,G,?_,λO H2 L R k=>?_⟩
   ·have:m=1\/m=2\/m=3\/m=4:=by lia
    rcases this with rfl|rfl|rfl|rfl<;>decide +kernel
   walk_at "r";exact⟨∅,λt n=>q _ (.number _) _ ((st.trans k).new n) (dg ab (.str _) (.int _)) ⟨L,R⟩⟩
  ·rename_i r;have r:¬d < 4:=by simpa using r
   calc⟨∅,λa S=>⟨∅,λb N=>⟨∅,λe z=>⟨∅,λg v=>⟨∅,λl c=>?_⟩⟩⟩⟩⟩;have x:=((((st.new S (o:=.tup [.str "letter"])).new N (o:=.tup [.str "letter"])).new z (o:=.tup [.str "way"])).new v (o:=.tup [.str "first"])).new c (o:=.lst [.ref a,.ref b,.ref e,.ref g]);have y:d=4\/d=5\/d=6\/d=7:=by lia
   have U:=(aq.new (H:=upd H1 a (.tup [.str "letter"])) (.tup [.str "letter"]) N) a _ ab;have W:=(aq.new (.tup [.str "way"]) z) _ _ U;have X:=(aq.new (.tup [.str "first"]) v) _ _ W;have Y:=(aq.new (.lst [.ref a,.ref b,.ref e,.ref g]) c) _ _ X;have Z:=(aq.new (H:=upd (upd H1 a (.tup [.str "letter"])) b (.tup [.str "letter"])) (.tup [.str "way"]) z) b _ ab;have k3:=(aq.new (.tup [.str "first"]) v) _ _ Z;have k4:=(aq.new (.lst [.ref a,.ref b,.ref e,.ref g]) c) _ _ k3;have l3:=(aq.new (H:=upd (upd (upd H1 a (.tup [.str "letter"])) b (.tup [.str "letter"])) e (.tup [.str "way"])) (.tup [.str "first"]) v) e _ ab;have l4:=(aq.new (.lst [.ref a,.ref b,.ref e,.ref g]) c) _ _ l3;have m4:=(aq.new (H:=upd (upd (upd (upd H1 a (.tup [.str "letter"])) b (.tup [.str "letter"])) e (.tup [.str "way"])) g (.tup [.str "first"])) (.lst [.ref a,.ref b,.ref e,.ref g]) c) g _ ab;rcases y with rfl|rfl|rfl|rfl
   ·exact⟨_,_,.inl (aP.of ab),rfl,q _ .ma _ x (rN Y (.str _)) trivial⟩
   ·exact⟨_,_,.inl (aP.of ab),rfl,q _ .ma _ x (rN k4 (.str _)) trivial⟩
   ·exact⟨_,_,.inl (aP.of ab),rfl,q _ .way _ x (rN l4 (.str _)) trivial⟩
   ·calc⟨_,_,.inl (aP.of ab),rfl,q _ .first _ x (rN m4 (.str _)) trivial⟩
theorem Z2{d:Int}(a:0<=d)(h:d<10):d=0\/d=1\/d=2\/d=3\/d=4\/d=5\/d=6\/d=7\/d=8\/d=9:=by
 have:∀n:Fin 10,((n.1:Nat):Int)=0\/((n.1:Nat):Int)=1\/((n.1:Nat):Int)=2\/((n.1:Nat):Int)=3\/((n.1:Nat):Int)=4\/((n.1:Nat):Int)=5\/((n.1:Nat):Int)=6\/((n.1:Nat):Int)=7\/((n.1:Nat):Int)=8\/((n.1:Nat):Int)=9:=by decide
 rw[<-Int.toNat_of_nonneg a];calc this ⟨d.toNat,()⟩
abbrev mx:Stmt:=top 57
theorem PF{H:Hp}{n:Nat}{a:Addr}{u v w z:V}{d d' f g:DV}(e:H a=some (.tup [u,v,w,z]))(h:HT H n u d)(h':HT H n v d')(j:HT H n w f)(k:HT H n z g):HT H (n+1) (.ref a) (.tup [d,d',f,g]):=by
 refine .tup e rfl λi x y b c=>?_
 match i,b,c with
 |0,b,c=>simp at b c;subst b c;calc h
 |1,b,c=>simp at b c;subst b c;calc h'
 |2,b,c=>simp at b c;subst b c;calc j
 |3,b,c=>simp at b c;subst b c;calc k
def x9:Sp:=λvs H Q _=>∃p m,vs=[.ref p,.int m]/\fF H p/\0<m/\m<=4/\∀x d H',Step p H H'->HT H' 2 x (bf.dv d)->d.ok m->Q x H'
theorem zW(D:cZ K mg "_law_deed" "_law_deed" mx ["_law_pot_here","_law_many"])(T:Tx K mg C CN CR F FD)(M:Def P w K mg base "_law_digit" 1 ["_law_pot_here","_law_many"] jr)(I:Def P w K mg base "_law_value" 2 ["_law_pot_here","_law_many"] x6):Def P w K mg base "_law_deed" 3 ["_law_pot_here","_law_many"] x9:=by
 have sc:aB ["_law_pot_here","_law_many","_law_kind"] ["_law_pot_here","_law_many"] (ay mx):=by walk_at "s"
 symm;obtain⟨p,m,rfl,U,k,u,q⟩:=h;have N:=hr.units;refine⟨_,(ag (aR (i:=2) sc.nd rfl Sort (aJ M hr (af (au 0) (af ai aa))))
  (ag (aT (az gu (au 2) ai (aH _)) (ak (aE (bD (af (aj N (bu (af aC (af aC (af aC aa)))) (au 2)) (af (aJ M hr (af (au 0) (af (au 1) aa))) (af (aJ I hr (af (au 0) (af (au 1) aa))) aa)))))) aI)
  (ag (aT (az gu (au 2) ai (aH _)) (ak (aE (bD (af aC (af (aJ M hr (af (au 0) (af ai aa))) (af (aJ I hr (af (au 0) (af (au 1) aa))) aa)))))) aI)
  (ag (aT (az (aU N) (au 2) ai (aH _)) (ak (aE (bD (af aC (af (aJ I hr (af (au 0) (af (au 1) aa))) aa))))) aI)
  (ag (aT (az (aU N) (au 2) ai (aH _)) (ak (aE (bD (af aC (af (aJ I hr (af (au 0) (af (au 1) aa))) aa))))) aI)
  (ag (aT (az (aU N) (au 2) ai (aH _)) (ak (aE (bD (af aC aa)))) aI)
  (ak (aE (bD (af aC (af (aJ I hr (af (au 0) (af (au 1) aa))) (af (aJ I hr (af (au 0) (af (au 1) aa))) (af (aW cR ai (aJ M hr (af (au 0) (af ai aa)))) aa))))))))))))),?_⟩
 walk_at "r";refine mf p 10 rfl U ⋯ ⋯ (λd H1 I M st=>?_);have O:m.natAbs.log2<9000:=by
  have:m=1\/m=2\/m=3\/m=4:=by lia
  rcases this with rfl|rfl|rfl|rfl<;>decide +kernel
 have Y:d=0\/d=1\/d=2\/d=3\/d=4\/d=5\/d=6\/d=7\/d=8\/d=9:=Z2 (by assumption) (by assumption);rcases Y with rfl|rfl|rfl|rfl|rfl|rfl|rfl|rfl|rfl|rfl
 ·walk_at "go";refine⟨∅,λl J=>?_⟩;have B:=st.new (o:=.lst [.str "set",.str "add",.str "times"]) J;refine bt ab rfl ?_;refine dig B.gi k O λe L r y x=>?_;have b:=B.trans x;walk_at "go";refine mf p m rfl b.gi k u (λz v G c g j=>?_);walk_at "go";exact⟨∅,λt a=>q _ (.set e v) _ ((b.trans c).new a) (me ab (.str _) (.int _) (g.aG (aq.new _ a).aM)) ⟨r,y,j⟩⟩
 ·walk_at "go";refine⟨∅,λl J=>?_⟩;have B:=st.new (o:=.lst [.str "set",.str "add",.str "times"]) J;refine bt ab rfl ?_;refine dig B.gi k O λe L r y x=>?_;have b:=B.trans x;walk_at "go";refine mf p m rfl b.gi k u (λz v G c g j=>?_);walk_at "go";exact⟨∅,λt a=>q _ (.add e v) _ ((b.trans c).new a) (me ab (.str _) (.int _) (g.aG (aq.new _ a).aM)) ⟨r,y,j⟩⟩
 ·walk_at "go";refine⟨∅,λl J=>?_⟩;have B:=st.new (o:=.lst [.str "set",.str "add",.str "times"]) J;refine bt ab rfl ?_;refine dig B.gi k O λe L r y x=>?_;have b:=B.trans x;walk_at "go";refine mf p m rfl b.gi k u (λz v G c g j=>?_);walk_at "go";exact⟨∅,λt a=>q _ (.times e v) _ ((b.trans c).new a) (me ab (.str _) (.int _) (g.aG (aq.new _ a).aM)) ⟨r,y,j⟩⟩
 ·walk_at "go";refine dig st.gi ∅ ⋯ λe L r y x=>?_;have b:=st.trans x;walk_at "r";refine mf p m rfl b.gi k u (λz v G c g j=>?_);walk_at "r";exact⟨∅,λt a=>q _ (.send e v) _ ((b.trans c).new a) (me ab (.str _) (.int _) (g.aG (aq.new _ a).aM)) ⟨r,j⟩⟩
 ·walk_at "go";refine dig st.gi ∅ ⋯ λe L r y x=>?_;have b:=st.trans x;walk_at "r";refine mf p m rfl b.gi k u (λz v G c g j=>?_);walk_at "r";exact⟨∅,λt a=>q _ (.send e v) _ ((b.trans c).new a) (me ab (.str _) (.int _) (g.aG (aq.new _ a).aM)) ⟨r,j⟩⟩
 ·walk_at "go";refine dig st.gi ∅ ⋯ λe L r y x=>?_;have b:=st.trans x;walk_at "r";refine mf p m rfl b.gi k u (λz v G c g j=>?_);walk_at "r";exact⟨∅,λt a=>q _ (.send e v) _ ((b.trans c).new a) (me ab (.str _) (.int _) (g.aG (aq.new _ a).aM)) ⟨r,j⟩⟩
 ·walk_at "go";refine mf p m rfl st.gi k u (λz v G c g j=>?_);walk_at "go";exact⟨∅,λt a=>q _ (.say v) _ ((st.trans c).new a) (dg ab (.str _) (g.aG (aq.new _ a).aM)) j⟩
 ·walk_at "go";refine mf p m rfl st.gi k u (λz v G c g j=>?_);walk_at "go";exact⟨∅,λt a=>q _ (.put v) _ ((st.trans c).new a) (dg ab (.str _) (g.aG (aq.new _ a).aM)) j⟩
 ·walk_at "go";exact⟨∅,λt a=>q _ .drop _ (st.new a) (rN (n:=1) ab (.str _)) trivial⟩
 ·walk_at "go";refine mf p m rfl st.gi k u (λz v G c g j=>?_);walk_at "go";have R:=st.trans c;refine mf p m rfl R.gi k u (λZ v2 b W X2 UQ=>?_);have S:=R.trans W;walk_at "go";refine dig S.gi ∅ ⋯ λe b r y X=>?_;walk_at "go";refine⟨∅,λt a=>q _ (.skip v v2 (1+e)) _ ((S.trans X).new a) ?_ ⟨j,UQ,(),()⟩⟩;have b:=(X.aM S.gi).trans (aq.new (.tup [.str "skip",z,Z,.int (1+e)]) a).aM;exact PF ab (.str _) (g.aG ((W.aM R.gi).trans b)) (X2.aG b) (.int _)
abbrev iO:Stmt:=top 58
theorem Step.free{p b:Addr}{H H':Hp}(st:Step p H H')(h:H' b=none):H b=none:=by
 cases e:H b with
 |none=>rfl
 |some o=>
  by_cases a:b=p
  ·subst a;obtain⟨x,c,_⟩:=st.gi;rw[h]at c;cases c
  ·rw[st.rest b o e a]at h;cases h
theorem GC{m:Int}(a:0<m)(h:m<=1000000000000):m.natAbs.log2<9000:=(Nat.log2_lt ()).mpr (aaI (show m.natAbs<=1000000000000 by lia) ⋯)
def mods(d:Int):List V:=[.int 2,.int 3,.int 7,.int 10,.int 97,.int (2+d)]
theorem K1{d k:Int}(b:0<=d)(a:d<10^Int.toNat 12-1)(c:0<=k)(f:k<6):∃z:Int,ip (mods d) k=some (.int z)/\2<=z/\z<=1000000000000:=by
 have e:(10:Int)^Int.toNat 12=1000000000000:=by decide +kernel
 rw[e]at a;have:k=0\/k=1\/k=2\/k=3\/k=4\/k=5:=by lia
 rcases this with rfl|rfl|rfl|rfl|rfl|rfl
 ·exact⟨_,ax (j:=0) rfl,∅,∅⟩
 ·exact⟨_,ax (j:=1) rfl,∅,∅⟩
 ·exact⟨_,ax (j:=2) rfl,∅,∅⟩
 ·exact⟨_,ax (j:=3) rfl,∅,∅⟩
 ·exact⟨_,ax (j:=4) rfl,∅,∅⟩
 ·calc⟨_,ax (j:=5) rfl,(),()⟩
def ya:Sp:=λvs H Q _=>∃p,vs=[.ref p]/\fF H p/\∀t a b c xs M ns row d H',Step p H H'->H' t=some (.tup [.int M,.ref a,.ref b,.ref c])->H' a=some (.lst (ns.map V.int))->H' b=some (.lst (row.map V.int))->H' c=some (.lst xs)->gw H' 2 xs (d.map bf.dv)->H a=none->H b=none->H c=none->Good M ns row d->Q (.ref t) H'
theorem tO(D:cZ K mg "_law_machine" "_law_machine" iO ["_law_pot_here"])(T:Tx K mg C CN CR F FD)(my:Def P w K mg base "_law_deed" 3 ["_law_pot_here","_law_many"] x9)(j:Def P w K mg base "_law_digit" 1 ["_law_pot_here","_law_many"] jr):Def P w K mg base "_law_machine" 4 ["_law_pot_here"] ya:=by
 have sc:aB ["_law_pot_here","_law_modulus","_law_many","_law_numbers","_law_row","_law_deeds"] ["_law_pot_here"] (ay iO):=by walk_at "s"
 symm;obtain⟨p,rfl,k,q⟩:=h;have l:=hr.units;refine⟨_,(ag (aR (i:=1) sc.nd rfl Sort (aj l (bu (af ai (af ai (af ai (af ai (af ai (af (aW cR ai (aJ j hr (af (au 0) (af (aW eX (aW qM ai ai) ai) aa)))) aa))))))) (aJ j hr (af (au 0) (af ai aa)))))
  (ag (aR (i:=2) sc.nd rfl Sort (aW cR ai (aJ j hr (af (au 0) (af ai aa)))))
  (ag (gk (i:=3) sc.nd rfl Sort (N':=["_law_k","_law_pot_here","_law_modulus"]) (ix:=[none,some 0,some 1]) (c8 rfl T.eR (af (au 2) aa)) (λ_ _ _ _=>(aQ (i:=0) (show(["_law_k","_law_pot_here","_law_modulus"]:List Str).Nodup by decide +kernel) rfl Sort)) oI (λ_ _ _ _=>(aJ j hr (af (au 1) (af (au 2) aa)))))
  (ag (gk (i:=4) sc.nd rfl Sort (N':=["_law_k","_law_pot_here","_law_modulus"]) (ix:=[none,some 0,some 1]) (c8 rfl T.eR (af (aJ j hr (af (au 0) (af ai aa))) aa)) (λ_ _ _ _=>(aQ (i:=0) (show(["_law_k","_law_pot_here","_law_modulus"]:List Str).Nodup by decide +kernel) rfl Sort)) oI (λ_ _ _ _=>(aJ j hr (af (au 1) (af (au 2) aa)))))
  (ag (gk (i:=5) sc.nd rfl Sort (N':=["_law_k","_law_pot_here","_law_many"]) (ix:=[none,some 0,some 2]) (c8 rfl T.eR (af (aJ j hr (af (au 0) (af ai aa))) aa)) (λ_ _ _ _=>(aQ (i:=0) (show(["_law_k","_law_pot_here","_law_many"]:List Str).Nodup by decide +kernel) rfl Sort)) oI (λ_ _ _ _=>(aJ my hr (af (au 1) (af (au 2) aa)))))
  (ak (aE (bD (af (au 1) (af (au 3) (af (au 4) (af (au 5) aa)))))))))))),?_⟩
 walk_at "r";refine⟨Pu,?_⟩;refine dig k UJ Pz λd0 H1 Mx Z3 UG=>?_;walk_at "r";refine⟨∅,λl t=>?_⟩;have j:=UG.new (o:=.lst (mods d0)) t;have Z4:l≠p:=Step.ne UG.gi t;refine dig j.gi ∅ ⋯ λk H3 Z5 Z6 c=>?_;have UR:=j.trans c;obtain⟨M,eM,Dy,pA⟩:=K1 Mx Z3 Z5 Z6;walk_at "r";refine bt (c.rest _ _ ab Z4) eM ?_;walk_at "r";refine dig UR.gi ∅ ⋯ λm H4 j k qQ=>?_;have N:=UR.trans qQ;walk_at "r";refine bL ?_;walk_at "r";refine gI () () (λD O=>?_);have y:D≠p:=Step.ne N.gi O;refine bq (J:=CA 0 (1+m).toNat) (n:=(1+m).toNat) (λi ys H'=>∃ns:List Int,ys=ns.map V.int/\ns.length=i/\Step p H4 H'/\(∀z∈ns,0<=z/\z<M)) (S' (aA ())) ⟨[],rfl,rfl,(Step.refl N.gi).new O,λz r=>by simp at r⟩ (λi ys H' a _=>a) (λys H' _=>P' _) ?_ ?_
 ·intro i ys H' a B t ir x H2 iu;nofun;obtain⟨ns,rfl,G,st,hb⟩:=ir;obtain⟨rfl,rfl⟩:=iu;ac_rfl;walk_at "xf";walk_at "r";rw[if_pos trivial];refine dig st.gi () (GC () pA) λd H3 h3 h4 c=>?_;refine cn (c.rest _ _ B y) t a (S' (aA ())) ⟨ns++[d],nofun,by simp[G],?_,λz r=>?_⟩
  ·exact⟨c.gi.upd (Ne.symm y),λb o e ne=>by rw[av (ao e O)];calc c.rest _ _ (st.rest _ _ e ne) ne⟩
  ·rcases List.mem_append.mp r with g | g
   ·exact hb z g
   ·simp at g;subst g;exact⟨h3,h4⟩
 intro ys H5 en hl5 nX;obtain⟨ns,rfl,G,lP,Je⟩:=nX;have fD:H D=none:=N.free O;have US:=N.trans lP;refine bL ?_;walk_at "r";refine dig US.gi ∅ ⋯ λm6 H6 j k Mw=>?_;have R:=US.trans Mw;have en6:=Mw.rest _ _ en y;walk_at "r";refine gI () () (λS U=>?_);have W:S≠p:=Step.ne R.gi U;refine bq (J:=CA 0 m6.toNat) (n:=m6.toNat) (λi ys H'=>∃ns:List Int,ys=ns.map V.int/\ns.length=i/\Step p H6 H'/\(∀z∈ns,0<=z/\z<M)) (S' (aA ())) ⟨[],rfl,rfl,(Step.refl R.gi).new U,λz r=>by simp at r⟩ (λi ys H' a _=>a) (λys H' _=>P' _) ?_ ?_
 ·intro i ys H' a B t tM x H2 xT;nofun;obtain⟨ns,rfl,G,st,hb⟩:=tM;obtain⟨rfl,rfl⟩:=xT;ac_rfl;walk_at "xf";walk_at "r";rw[if_pos trivial];refine dig st.gi () (GC () pA) λd H3 h3 h4 c=>?_;refine cn (c.rest _ _ B W) t a (S' (aA ())) ⟨ns++[d],nofun,by simp[G],?_,λz r=>?_⟩
  ·exact⟨c.gi.upd (Ne.symm W),λb o e ne=>by rw[av (ao e U)];calc c.rest _ _ (st.rest _ _ e ne) ne⟩
  ·rcases List.mem_append.mp r with g | g
   ·exact hb z g
   ·simp at g;subst g;exact⟨h3,h4⟩
 intro ys H7 er hl7 xU;obtain⟨row,rfl,c,PJ,PD⟩:=xU;have UT:H S=none:=R.free U;have UU:=R.trans PJ;have en7:=PJ.rest _ _ en6 y;refine bL ?_;walk_at "r";refine dig UU.gi ∅ ⋯ λm8 H8 c g Jf=>?_;have X:=UU.trans Jf;have en8:=Jf.rest _ _ en7 y;have er8:=Jf.rest _ _ er W;walk_at "r";refine gI () () (λI Y=>?_);have UW:I≠p:=Step.ne X.gi Y;have UX:H I=none:=X.free Y;refine bq (J:=CA 0 m8.toNat) (n:=m8.toNat) (λi ys H'=>∃u:List bf,gw H' 2 ys (u.map bf.dv)/\u.length=i/\(∀Z∈u,Z.ok (1+m))/\Step p H8 H') (S' (aA ())) ⟨[],gw.nil,rfl,λZ ue=>by simp at ue,(Step.refl X.gi).new Y⟩ (λi ys H' a _=>a) (λys H' _=>P' _) ?_ ?_
 ·intro i ys H' a B uN GD x H9 K6;nofun;obtain⟨u,tN,L,PK,v⟩:=GD;obtain⟨rfl,rfl⟩:=K6;ac_rfl;walk_at "xf";walk_at "r";rw[if_pos trivial];refine⟨p,1 + m,rfl,v.gi,(),(),λg dd c K7 UY UZ=>?_⟩;have U3:=K7.rest _ _ B UW;have t10:cj c (upd c I (.lst (ys++[g]))):=(cj.refl _).upd λc e=>by rw[U3] at e;cases e
  refine cn U3 uN a (S' (aA ())) ⟨u++[dd],?_,by simp[L],?_,?_⟩
  ·rw[List.map_append];exact((tN.aG (K7.aM v.gi)).snoc UY).aG t10
  ·intro Z ue;rcases List.mem_append.mp ue with z | z
   ·exact PK Z z
   ·simp at z;subst z;exact UZ
  ·exact⟨K7.gi.upd (Ne.symm UW),λb o e ne=>by rw[av (ao e Y)];calc K7.rest _ _ (v.rest _ _ e ne) ne⟩
 intro ys H9 ed a c;obtain⟨u,tN,L,PK,v⟩:=c;have Z7:=X.trans v;walk_at "r";refine⟨by show 4<=sizeLine;decide,λt c=>?_⟩;have a:=aq.new (.tup [.int M,.ref D,.ref S,.ref I]) c;refine q t D S I ys M ns row u _ (Z7.new c) ab (a _ _ (v.rest _ _ en8 y)) (a _ _ (v.rest _ _ er8 W)) (a _ _ ed) (tN.aG a.aM) fD UT UX ⟨Dy,pA,(),(),(),Je,PD,(),λd g=>?_⟩;rw[G];have e:(((1+m).toNat:Nat):Int)=1+m:=by lia
 rw[e];calc PK d g
theorem Z8{l:List Int}(h:l.length=1):∃a,l=[a]:=List.length_eq_one_iff.mp h
abbrev iP:Stmt:=top 20
inductive uO(K:W.Frag)(vs:List V)(H:Hp)(Q:VK):Prop
 |mk (x:_) (st:_) (way:_) (said:_) (v:_) (ns:_) (row:_) (n:_) (h0:vs=[x,st,.int way,.int said]) (h1:HT H n x (Val.dv v)) (h2:xy K H st ns row) (h3:v.ok ns.length) (h4:Q (.int (rM ns row way said v)) H):uO K vs H Q
def yc(K:W.Frag):Sp:=λvs H Q _=>uO K vs H Q
theorem tP(D:cZ K mg "plain_worth" "plain_worth" iP ["value","state","way","said"])(T:Tx K mg C CN CR F FD):Def P w K mg base "plain_worth" 1 ["value","state","way","said"] (yc K):=by
 have sc:aB ["value","state","way","said","word"] ["value","state","way","said"] (ay iP):=by walk_at "s"
 symm;obtain⟨x,st,way,g,v,ns,row,n,rfl,k,y,o,q⟩:=h;have b:=hr.units;refine⟨_,(ag (aR (i:=4) sc.nd rfl Sort (aj b (au 0) ai))
  (ag (aT (az (aU b) (au 4) aC (aH _)) (ak (aE (aj b (au 0) ai))) aI)
  (ag (aT (az (aU b) (au 4) aC (aH _)) (ak (aE (aj b (aj b (au 1) ai) (aj b (au 0) ai)))) aI)
  (ag (aT (az (aU b) (au 4) aC (aH _)) (ak (aE (au 3))) aI)
  (ag (aT (az (aU b) (au 4) aC (aH _)) (ak (aE (au 2))) aI)
  (ak (aE (ED (az oT (bg aN rfl T.cm W' (af (aj b (au 1) ai) aa)) ai (aH _)) (aj b (aj b (au 1) ai) ai) ai)))))))),?_⟩
 obtain⟨a,L,M,rfl,t,I,B⟩:=y
 cases v with
 |is z=>
  nofun;obtain⟨p,l,J,m,rfl,c,d,u⟩:=dI k;obtain rfl:=d.cI;obtain rfl:=u.cB;ac_rfl;walk_at "jd";refine cM _ _ (.inr (bz.of c)) rfl ?_;walk_at "jd"
  try rw[if_pos ⋯]
  calc⟨_,_,.inr (bz.of c),rfl,q⟩
 |number i=>
  nofun;obtain⟨p,l,J,m,rfl,c,d,u⟩:=dI k;obtain rfl:=d.cI;obtain rfl:=u.cB;obtain⟨j,rfl⟩:=aao o.1;ac_rfl;have G:j<ns.length:=by have:=o.2;lia
  walk_at "jd";refine cM _ _ (.inr (bz.of c)) rfl ?_;walk_at "jd"
  try rw[if_neg ⋯]
  walk_at "j"
  try rw[if_pos ⋯]
  calc⟨_,_,.inr (bz.of t),rfl,_,_,.inr (bz.of c),rfl,?_⟩;calc⟨_,.int ns[j],I,ax (by rw[List.getElem?_map,cy G];rfl),?_⟩;have e:rM ns row way g (.number j)=ns[j]:=by
   show ns.getD (j:Int).toNat 0=ns[j];simp[List.getD_eq_getElem?_getD,cy G]
  rw[e]at q;calc q
 |ma=>
  nofun;obtain⟨p,l,m,rfl,c,d⟩:=iL k;obtain rfl:=d.cI;ac_rfl;walk_at "jd";refine cM _ _ (.inr (bz.of c)) rfl ?_;walk_at "jd"
  try rw[if_neg ⋯]
  walk_at "j"
  try rw[if_neg ⋯]
  walk_at "j"
  try rw[if_pos ⋯]
  calc q
 |way=>
  nofun;obtain⟨p,l,m,rfl,c,d⟩:=iL k;obtain rfl:=d.cI;ac_rfl;walk_at "jd";refine cM _ _ (.inr (bz.of c)) rfl ?_;walk_at "jd"
  try rw[if_neg ⋯]
  walk_at "j"
  try rw[if_neg ⋯]
  walk_at "j"
  try rw[if_neg ⋯]
  walk_at "j"
  try rw[if_pos ⋯]
  calc q
 |first=>
  nofun;obtain⟨p,l,m,rfl,c,d⟩:=iL k;obtain rfl:=d.cI;ac_rfl;walk_at "jd";refine cM _ _ (.inr (bz.of c)) rfl ?_;walk_at "jd"
  try rw[if_neg ⋯]
  walk_at "j"
  try rw[if_neg ⋯]
  walk_at "j"
  try rw[if_neg ⋯]
  walk_at "j"
  try rw[if_neg ⋯]
  calc cM _ _ (.inr (bz.of t)) rfl ?_;refine bI _ (B.elim (λz=>.inl ⟨_,z,rfl⟩) (λz=>.inr ⟨_,z,rfl⟩)) ?_
  cases row with
  |nil=>
   walk_at "j";rw[if_neg nofun];exact q
  |cons r b=>
   walk_at "j";rw[if_pos nofun];exact⟨_,_,.inr (bz.of t),rfl,_,_,B,ax (j:=0) rfl,q⟩
abbrev mz:Stmt:=top 21
inductive uP(K:W.Frag)(vs:List V)(H:Hp)(Q:VK):Prop
 |mk (x:_) (st:_) (way:_) (said:_) (m:_) (v:_) (ns:_) (row:_) (n:_) (h0:vs=[x,st,.int way,.int said,.int m]) (h1:HT H n x (Val.dv v)) (h2:xy K H st ns row) (h3:v.ok ns.length) (h4:0<m) (h5:Q (.int (rM ns row way said v%m)) H):uP K vs H Q
def yd(K:W.Frag):Sp:=λvs H Q _=>uP K vs H Q
theorem zY(D:cZ K mg "worth_of" "worth_of" mz ["value","state","way","said","modulus"])(T:Tx K mg C CN CR F FD)(i:Def P w K mg base "plain_worth" 1 ["value","state","way","said"] (yc K)):Def P w K mg base "worth_of" 2 ["value","state","way","said","modulus"] (yd K):=by
 have sc:aB ["value","state","way","said","modulus"] ["value","state","way","said","modulus"] (ay mz):=by walk_at "s"
 symm;obtain⟨x,st,b,a,m,v,ns,row,n,rfl,c,d,e,g,q⟩:=h;have j:=hr.units;refine⟨_,(ak (aE (aW eP (aJ i hr (af (au 0) (af (au 1) (af (au 2) (af (au 3) aa))))) (au 4)))),?_⟩;walk_at "jd";exact⟨x,st,b,a,v,ns,row,n,rfl,c,d,e,g,q⟩
abbrev kH:Stmt:=top 28
inductive VL(H:Hp)(n:Nat):List V->List Val->Prop
 |nil:VL H n [] []
 |cons {x v xs vs}:HT H n x (Val.dv v)->VL H n xs vs->VL H n (x::xs) (v::vs)
theorem VL.same{H H':Hp}{n:Nat}(s:cj H H'){xs:List V}{vs:List Val}(h:VL H n xs vs):VL H' n xs vs:=by
 induction h with
 |nil=>calc .nil
 |cons a _ b=>calc .cons (a.aG s) b
theorem VL.snoc{H:Hp}{n:Nat}{xs:List V}{vs:List Val}{x:V}{v:Val}(h:VL H n xs vs)(a:HT H n x v.dv):VL H n (xs++[x]) (vs++[v]):=by
 induction h with
 |nil=>calc .cons a .nil
 |cons a _ b=>calc .cons a b
theorem VL.len{H:Hp}{n:Nat}{xs:List V}{vs:List Val}(h:VL H n xs vs):xs.length=vs.length:=by
 induction h with
 |nil=>rfl
 |cons _ _ a=>simp[a]
inductive PL(H:Hp)(n:Nat):List V->List (Option Val)->Prop
 |nil:PL H n [] []
 |str {w xs os}:PL H n xs os->PL H n (.str w::xs) (none::os)
 |int {i xs os}:PL H n xs os->PL H n (.int i::xs) (none::os)
 |val {x v xs os}:HT H n x (Val.dv v)->PL H n xs os->PL H n (x::xs) (some v::os)
theorem PL.get{H:Hp}{n:Nat}{xs:List V}{b:List (Option Val)}(h:PL H n xs b):∀{i:Nat}{x:V},xs[i]?=some x->∃o,b[i]?=some o/\((o=none/\((∃w,x=.str w)\/∃j,x=.int j))\/∃v,o=some v/\HT H n x (Val.dv v)):=by
 induction h with
 |nil=>intro i x h;simp at h
 |str _ a=>
  intro i x h
  cases i with
  |zero=>cases h;calc⟨none,rfl,.inl ⟨rfl,.inl ⟨_,rfl⟩⟩⟩
  |succ i=>calc a h
 |int _ a=>
  intro i x h
  cases i with
  |zero=>cases h;calc⟨none,rfl,.inl ⟨rfl,.inr ⟨_,rfl⟩⟩⟩
  |succ i=>calc a h
 |val c _ a=>
  intro i x h
  cases i with
  |zero=>cases h;calc⟨some _,rfl,.inr ⟨_,rfl,c⟩⟩
  |succ i=>calc a h
theorem PL.len{H:Hp}{n:Nat}{xs:List V}{a:List (Option Val)}(h:PL H n xs a):xs.length=a.length:=by
 induction h with
 |nil=>rfl
 |str _ a=>simp[a]
 |int _ a=>simp[a]
 |val _ _ a=>simp[a]
theorem BJ{H:Hp}{n:Nat}{x:V}{d:bf}(h:HT H n x d.dv):∃a xs j b,x=.ref a/\H a=some (.tup xs)/\PL H b xs j/\j.filterMap id=d.vals/\xs.length<=4:=by
 cases d with
 |set i v=>
  nofun;obtain⟨a,k,l,m,b,rfl,c,e,f,g⟩:=bT h;obtain rfl:=e.cI;obtain rfl:=f.cB;ac_rfl;calc⟨a,_,_,b,rfl,c,.str (.int (.val g .nil)),rfl,nofun⟩
 |add i v=>
  nofun;obtain⟨a,k,l,m,b,rfl,c,e,f,g⟩:=bT h;obtain rfl:=e.cI;obtain rfl:=f.cB;ac_rfl;calc⟨a,_,_,b,rfl,c,.str (.int (.val g .nil)),rfl,nofun⟩
 |times i v=>
  nofun;obtain⟨a,k,l,m,b,rfl,c,e,f,g⟩:=bT h;obtain rfl:=e.cI;obtain rfl:=f.cB;ac_rfl;calc⟨a,_,_,b,rfl,c,.str (.int (.val g .nil)),rfl,nofun⟩
 |put v=>
  nofun;obtain⟨a,k,l,b,rfl,c,e,f⟩:=dI h;obtain rfl:=e.cI;ac_rfl;calc⟨a,_,_,b,rfl,c,.str (.val f .nil),rfl,nofun⟩
 |drop=>
  nofun;obtain⟨a,k,b,rfl,c,e⟩:=iL h;obtain rfl:=e.cI;ac_rfl;calc⟨a,_,_,b,rfl,c,.str (.nil),rfl,nofun⟩
 |send j v=>
  nofun;obtain⟨a,k,l,m,b,rfl,c,e,f,g⟩:=bT h;obtain rfl:=e.cI;obtain rfl:=f.cB;ac_rfl;calc⟨a,_,_,b,rfl,c,.str (.int (.val g .nil)),rfl,nofun⟩
 |say v=>
  nofun;obtain⟨a,k,l,b,rfl,c,e,f⟩:=dI h;obtain rfl:=e.cI;ac_rfl;calc⟨a,_,_,b,rfl,c,.str (.val f .nil),rfl,nofun⟩
 |skip v i j=>
  nofun;obtain⟨a,k,l,m,p,b,rfl,c,e,f,g,o⟩:=nO h;obtain rfl:=e.cI;obtain rfl:=o.cB;ac_rfl;calc⟨a,_,_,b,rfl,c,.str (.val f (.val g (.int .nil))),rfl,nofun⟩
inductive ye(vs:List V)(H:Hp)(Q:VK):Prop
 |mk (x:_) (n:_) (d:_) (h0:vs=[x]) (h1:HT H n x (bf.dv d)) (h2:∀l zs k0 H',aq H H'->H l=none->H' l=some (.lst zs)->VL H' k0 zs d.vals->Q (.ref l) H'):ye vs H Q
def BK:Sp:=λvs H Q _=>ye vs H Q
theorem yf(D:cZ K mg "values_of" "values_of" kH ["deed"])(T:Tx K mg C CN CR F FD):Def P w K mg base "values_of" 1 ["deed"] BK:=by
 have sc:aB ["deed"] ["deed"] (ay kH):=by walk_at "s"
 symm;obtain⟨x,n,d,rfl,I,q⟩:=h;have hu:=hr.units;refine⟨_,(ak (aE (dy (N':=["part"]) (ix:=[none]) (bS (pv 0)) (λ_ _ _ _=>(aQ (i:=0) (show(["part"]:List Str).Nodup by decide +kernel) rfl Sort)) (λ_ _ _ _=>(jA (bA (bg (uB (K:=K) rfl) rfl T.bb wK (af (au 0) (af (cV (v:=.ty "tuple") rfl T.bX qJ rfl) aa)))))) (λ_ _ _ _=>(au 0))))),?_⟩;obtain⟨a,k,u,L,rfl,p,M,U,T⟩:=BJ I;walk_at "j";refine bL ?_;walk_at "j";refine .inr ⟨⟨_,bz.of p⟩,λD y=>?_⟩;refine bq (J:=Rp K a) (n:=k.length) (λi ys H'=>aq H H'/\VL H' L ys ((u.take i).filterMap id)) (S' (aA ())) ⟨aq.new _ y,.nil⟩ ?_ ?_ ?_ ?_
 ·rintro i ys H' z ⟨g,_⟩;exact⟨k,k[i],bz.of (g _ _ p),cy z⟩
 ·rintro ys H' ⟨g,_⟩;exact⟨k,bz.of (g _ _ p),P' _⟩
 ·intro i ys H' z l N X x r Y;nofun;obtain⟨g,m⟩:=X;obtain⟨rfl,n⟩:=Y;have I:=n k (bz.of (g _ _ p));obtain⟨o,T,Z⟩:=M.get I;ac_rfl;have O:u.take (i+1)=u.take i++[o]:=by
   rw[List.take_add_one,T];rfl
  walk_at "xf";walk_at "j";rcases Z with⟨rfl,hc⟩|⟨v,rfl,B⟩
  ·have G:∃t,gs K r x t/\W.kitOne K t (.type "tuple")=some false:=by
    rcases hc with⟨w,rfl⟩|⟨j,rfl⟩
    ·exact⟨_,.str w,rfl⟩
    ·exact⟨_,.int j,rfl⟩
   obtain⟨t,i,j⟩:=G;refine cM t false i j ?_
   first|calc⟨false,rfl,?_⟩|skip
   walk_at "j"
   try rw[if_neg Bool.false_ne_true]
   exact⟨ys,l,(),g,by rw[O];simpa using m⟩
  ·have R:=B.aG g.aM;obtain⟨b,zs,rfl,i⟩:=Bg R;refine cM _ true (.tup i) rfl ?_
   first|calc⟨true,rfl,?_⟩|skip
   walk_at "j"
   try first|rw[if_pos rfl]|rw[if_pos trivial]
   calc cn l N z (S' (aA ())) ⟨λc o e=>by rw[av (ao e y)];calc g _ _ e,?_⟩;rw[O,List.filterMap_append];have S:cj r (upd r D (.lst (ys++[.ref b]))):=(cj.refl r).upd λzs e=>by rw[l]at e;cases e
   exact(m.same S).snoc (R.aG S)
 ·rintro ys H' l N ⟨g,m⟩;rw[M.len,List.take_length,U]at m;calc q _ ys L _ g y l m
theorem vT{H:Hp}{n:Nat}{x:V}{d:bf}(f:HT H n x d.dv):∃a l,x=.ref a/\H a=some (.tup (.str d.word::l)):=by
  cases d with
  |drop=>
    obtain⟨g,h,i,b,c,e⟩:=iL f;obtain rfl:=e.cI;calc⟨_,_,b,c⟩
  |skip v l n=>
    obtain⟨g,h,j,m,l,i,b,c,e,k,o,n⟩:=nO f;obtain rfl:=e.cI;calc⟨_,_,b,c⟩
  |_=>
    first
    | (obtain⟨g,h,j,m,i,b,c,e,k,o⟩:=bT f
       obtain rfl:=e.cI;calc⟨_,_,b,c⟩)
    | (obtain⟨g,h,j,i,b,c,e,k⟩:=dI f
       obtain rfl:=e.cI;calc⟨_,_,b,c⟩)
theorem GJ(e:d.word="put"):d.vals.length=1/\∀row x,nL row x d=if row.length<12 then row++[x] else row:=by
 cases d<;>first|calc absurd e (by simp only[bf.word];decide)|calc⟨rfl,λ_ _=>rfl⟩
theorem DG(e:d.word="drop"):∀row x,nL row x d=row.tail:=by
 cases d<;>first|calc absurd e (by simp only[bf.word];decide)|calc λ_ _=>rfl
theorem GK(e:¬d.word="put")(a:¬d.word="drop"):∀row x,nL row x d=row:=by
 cases d<;>first|calc λ_ _=>rfl|calc absurd rfl e|calc absurd rfl a
theorem DH{n:Nat}(b:HT H n (.ref a) d.dv)(e:d.word="skip"):∃u v k,H a=some (.tup [.str "skip",u,v,.int k])/\d.vals.length=2/\∀x y,nM x y d=if x<y then k else 0:=by
 cases d<;>first|calc absurd e (by simp only[bf.word];decide)|skip
 obtain⟨i,j,k,l,m,n,c,f,g,o,p,h⟩:=nO b;obtain rfl:=V.ref.inj c;obtain rfl:=g.cI;obtain rfl:=h.cB;calc⟨_,_,_,f,rfl,λ_ _=>rfl⟩
theorem yh(e:¬d.word="skip"):∀x y,nM x y d=0:=by
 cases d<;>first|calc λ_ _=>rfl|calc absurd rfl e
theorem gT{n k:Nat}(h:k<n):zf n (k:Int)=some k:=by
 unfold zf;rw[if_pos (),if_pos ()];simp
theorem gU{ws:List Int}{j:Nat}(h:j<ws.length):ip (ws.map V.int) ((j:Nat):Int)=some (.int (ws.getD j 0)):=ax (by rw[List.getElem?_map,aY (d:=0) h];rfl)
theorem BL{M:Int}{l:List Int}(h:∀z∈l,0<=z/\z<M){j:Nat}(a:j<l.length):0<=l.getD j 0/\l.getD j 0<M:=h _ (DD.getD_mem a)
def sm(M:Int)(ns row:List Int)(x y:Int)(d:bf):List Int×List Int×List (Int×Int)×List Int×Int:=(jo M ns x d,nL row x d,gN x d,fR x d,nM x y d)
inductive U4(H:Hp)(a:Addr)(m:Int)(d:bf):Prop
 |set (j:Nat) (u:V) (hj:(j:Int)<m) (h:H a=some (.tup [.str "set",.int j,u])) (hl:d.vals.length=1) (e:∀M ns row x y,sm M ns row x y d=(ns.set j x,row,[],[],0))
 |add (j:Nat) (u:V) (hj:(j:Int)<m) (h:H a=some (.tup [.str "add",.int j,u])) (hl:d.vals.length=1) (e:∀M ns row x y,sm M ns row x y d=(ns.set j ((ns.getD j 0+x)%M),row,[],[],0))
 |times (j:Nat) (u:V) (hj:(j:Int)<m) (h:H a=some (.tup [.str "times",.int j,u])) (hl:d.vals.length=1) (e:∀M ns row x y,sm M ns row x y d=(ns.set j ((ns.getD j 0*x)%M),row,[],[],0))
 |put (u:V) (h:H a=some (.tup [.str "put",u])) (hl:d.vals.length=1) (e:∀M ns row x y,sm M ns row x y d=(ns,if row.length<12 then row++[x] else row,[],[],0))
 |drop (h:H a=some (.tup [.str "drop"])) (e:∀M ns row x y,sm M ns row x y d=(ns,row.tail,[],[],0))
 |send (j:Int) (u:V) (h:H a=some (.tup [.str "send",.int j,u])) (hl:d.vals.length=1) (e:∀M ns row x y,sm M ns row x y d=(ns,row,[(j,x)],[],0))
 |say (u:V) (h:H a=some (.tup [.str "say",u])) (hl:d.vals.length=1) (e:∀M ns row x y,sm M ns row x y d=(ns,row,[],[x],0))
 |skip (u v:V) (k:Nat) (h:H a=some (.tup [.str "skip",u,v,.int k])) (hl:d.vals.length=2) (e:∀M ns row x y,sm M ns row x y d=(ns,row,[],[],if x<y then(k:Int) else 0))
theorem uQ{H:Hp}{n:Nat}{a:Addr}{d:bf}{m:Int}(k:HT H n (.ref a) d.dv)(l:d.ok m):U4 H a m d:=by
 cases d with
 |set i v=>
  obtain⟨o,p,g,h,q,b,c,e,f,s⟩:=bT k;obtain rfl:=V.ref.inj b;obtain rfl:=e.cI;obtain rfl:=f.cB;obtain⟨r,rfl⟩:=aao l.1;calc .set r h l.2.1 c rfl λ_ _ _ _ _=>rfl
 |add i v=>
  obtain⟨o,p,g,h,q,b,c,e,f,s⟩:=bT k;obtain rfl:=V.ref.inj b;obtain rfl:=e.cI;obtain rfl:=f.cB;obtain⟨r,rfl⟩:=aao l.1;calc .add r h l.2.1 c rfl λ_ _ _ _ _=>rfl
 |times i v=>
  obtain⟨o,p,g,h,q,b,c,e,f,s⟩:=bT k;obtain rfl:=V.ref.inj b;obtain rfl:=e.cI;obtain rfl:=f.cB;obtain⟨r,rfl⟩:=aao l.1;calc .times r h l.2.1 c rfl λ_ _ _ _ _=>rfl
 |put v=>
  obtain⟨o,p,g,q,b,c,e,f⟩:=dI k;obtain rfl:=V.ref.inj b;obtain rfl:=e.cI;calc .put g c rfl λ_ _ _ _ _=>rfl
 |drop=>
  obtain⟨o,p,q,b,c,e⟩:=iL k;obtain rfl:=V.ref.inj b;obtain rfl:=e.cI;calc .drop c λ_ _ _ _ _=>rfl
 |send j v=>
  obtain⟨o,p,g,h,q,b,c,e,f,s⟩:=bT k;obtain rfl:=V.ref.inj b;obtain rfl:=e.cI;obtain rfl:=f.cB;calc .send j h c rfl λ_ _ _ _ _=>rfl
 |say v=>
  obtain⟨o,p,g,q,b,c,e,f⟩:=dI k;obtain rfl:=V.ref.inj b;obtain rfl:=e.cI;calc .say g c rfl λ_ _ _ _ _=>rfl
 |skip v i j=>
  obtain⟨o,p,g,h,i,q,b,c,e,f,s,t⟩:=nO k;obtain rfl:=V.ref.inj b;obtain rfl:=e.cI;obtain rfl:=t.cB;obtain⟨r,rfl⟩:=aao (Int.le_trans ∅ l.2.2.1);calc .skip g h r c rfl λ_ _ _ _ _=>rfl
abbrev fU:Stmt:=top 36
inductive BM(vs:List V)(H:Hp)(Q:VK):Prop
 |mk (an:Addr) (x:V) (l:Addr) (ns ws:List Int) (M:Int) (n:Nat) (d:bf) (h0:vs=[.ref an,x,.ref l,.int M]) (h1:H an=some (.lst (ns.map V.int))) (h2:HT H n x d.dv) (h3:H l=some (.lst (ws.map V.int))) (h4:ws.length=d.vals.length) (h5:d.ok ns.length) (h6:0<M) (h7:M<=1000000000000) (h8:(∀z∈ns,0<=z/\z<M)) (h9:∀H',H' an=some (.lst ((jo M ns (ws.getD 0 0) d).map V.int))->(∀b o,b≠an->H b=some o->H' b=some o)->Q .bC H'):BM vs H Q
def GL:Sp:=λvs H Q _=>BM vs H Q
theorem pD(D:cZ K mg "change_numbers" "change_numbers" fU ["numbers","deed","worths","modulus"])(T:Tx K mg C CN CR F FD):Def P w K mg base "change_numbers" 1 ["numbers","deed","worths","modulus"] GL:=by
 have sc:aB ["numbers","deed","worths","modulus"] ["numbers","deed","worths","modulus"] (ay fU):=by walk_at "s"
 symm;obtain⟨o,x,l,ns,ws,M,n,d,rfl,p,v,y,R,z,B,S,G,q⟩:=h;have g:=hr.units;calc⟨_,(ak (aT (az (aU g) (aj g (au 1) ai) aC (aH _)) (ak (dU (aj g (au 2) ai) (fO (au 0) (aj g (au 1) ai) cL))) (ak (aT (az (aU g) (aj g (au 1) ai) aC (aH _)) (ak (dU (aW eP (aW cR (aj g (au 0) (aj g (au 1) ai)) (aj g (au 2) ai)) (au 3)) (fO (au 0) (aj g (au 1) ai) cL))) (ak (aT (az (aU g) (aj g (au 1) ai) aC (aH _)) (ak (dU (aW eP (aW lG (aj g (au 0) (aj g (au 1) ai)) (aj g (au 2) ai)) (au 3)) (fO (au 0) (aj g (au 1) ai) cL))) aI)))))),?_⟩;nofun;obtain⟨a,W,rfl,i⟩:=vT v;have U:=uQ v z;have I:∀c:Nat,((c:Nat):Int) < ns.length->zf (ns.map V.int).length ((c:Nat):Int)=some c/\ip (ns.map V.int) ((c:Nat):Int)=some (.int (ns.getD c 0))/\0<=ns.getD c 0/\ns.getD c 0 < M:=λc k=>⟨gT (by rw[List.length_map];lia),gU (),BL G ()⟩
 have J:∀c y,jo M ns (ws.getD 0 0) d=ns.set c y->Q .bC (upd H o (.lst ((ns.map V.int).set c (.int y)))):=λc y E=>q _ (by rw[ab,E,List.map_set]) λb o g e=>by rw[av g];exact e
 have r:jo M ns (ws.getD 0 0) d=ns->Q .bC H:=λE=>q H (by rw[E];calc p) λ_ _ _ e=>e;calc hZ ?_;clear hZ gZ v z i G q
 cases U with
 |set c u k i m E=>
  have L:=gU (ws:=ws) (j:=0) ();obtain⟨t,N,O⟩:=I c k;walk_at "jg";exact cM _ c p t (J _ _ (congrArg Prod.fst (E M ns [] (ws.getD 0 0) 0)))
 |add c u k i m E=>
  have L:=gU (ws:=ws) (j:=0) ();obtain⟨t,N,O⟩:=I c k;walk_at "jg";refine⟨B,?_⟩;walk_at "jg";exact cM _ c p t (J _ _ (congrArg Prod.fst (E M ns [] (ws.getD 0 0) 0)))
 |times c u k i m E=>
  have L:=gU (ws:=ws) (j:=0) ();obtain⟨t,N,O⟩:=I c k;walk_at "jg";refine gI (.inl ⟨(),()⟩) B ?_;walk_at "jg";exact cM _ c p t (J _ _ (congrArg Prod.fst (E M ns [] (ws.getD 0 0) 0)))
 |put u i m E=>walk_at "jg";exact r (congrArg Prod.fst (E M ns [] (ws.getD 0 0) 0))
 |drop i E=>walk_at "jg";exact r (congrArg Prod.fst (E M ns [] (ws.getD 0 0) 0))
 |send j u i m E=>walk_at "jg";exact r (congrArg Prod.fst (E M ns [] (ws.getD 0 0) 0))
 |say u i m E=>walk_at "jg";exact r (congrArg Prod.fst (E M ns [] (ws.getD 0 0) 0))
 |skip u v k i m E=>walk_at "jg";exact r (congrArg Prod.fst (E M ns [] (ws.getD 0 0) 0))
abbrev jK:Stmt:=top 37
inductive BO(vs:List V)(H:Hp)(Q:VK):Prop
 |mk (an:Addr) (x:V) (l:Addr) (row ws:List Int) (n:Nat) (d:bf) (h0:vs=[.ref an,x,.ref l]) (h1:H an=some (.lst (row.map V.int))) (h2:HT H n x d.dv) (h3:H l=some (.lst (ws.map V.int))) (h4:ws.length=d.vals.length) (h5:row.length<=12) (h6:∀H',H' an=some (.lst ((nL row (ws.getD 0 0) d).map V.int))->(∀b o,b≠an->H b=some o->H' b=some o)->Q .bC H'):BO vs H Q
def GN:Sp:=λvs H Q _=>BO vs H Q
theorem vU(D:cZ K mg "change_row" "change_row" jK ["row","deed","worths"])(T:Tx K mg C CN CR F FD):Def P w K mg base "change_row" 1 ["row","deed","worths"] GN:=by
 have sc:aB ["row","deed","worths"] ["row","deed","worths"] (ay jK):=by walk_at "s"
 symm;obtain⟨G,x,l,row,ws,n,d,rfl,c,u,I,B,g,q⟩:=h;have i:=hr.units;calc⟨_,(ak (aT (PW.pt (pw_and (az (aU i) (aj i (au 1) ai) aC (aH _)) (pw_and1 (az gu (bg aN rfl T.cm W' (af (au 0) aa)) (fz T.fb rfl) (aH _))))) (ak (bP (cY oE qH qI bZ (au 0) (af (aj i (au 2) ai) aa)))) (ak (aT (PW.pt (pw_and (az (aU i) (aj i (au 1) ai) aC (aH _)) (pw_and1 (az oT (bg aN rfl T.cm W' (af (au 0) aa)) ai (aH _))))) (ak (Kk (au 0) ai)) aI)))),?_⟩;obtain⟨a,J,rfl,t⟩:=vT u;by_cases k:d.word="put"
 ·obtain⟨g,v⟩:=GJ k;rw[k] at t;have g:=gU (ws:=ws) (j:=0) ();rw[v] at q;walk_at "jg";refine bI _ (.inl ⟨_,aP.of c,rfl⟩) ?_;rw[List.length_map];by_cases m:row.length < 12
  ·rw[if_pos m]at q;walk_at "j";rw[if_pos (by simp;lia)];walk_at "jg";refine⟨.inl ⟨rfl,_,aP.of c⟩,?_⟩;walk_at "jg";refine gJ _ c (aaI (by simp;lia) (aA (n:=100) ())) ?_;exact q _ (by rw[ab,List.map_append];rfl) λb o y e=>by rw[av y];exact e
  ·rw[if_neg m]at q;walk_at "j";rw[if_neg (by simp;lia)];walk_at "jg";exact q H c λ_ _ _ e=>e
 by_cases p:d.word="drop"
 ·rw[p] at t;rw[DG p] at q;walk_at "jg";refine bI _ (.inl ⟨_,aP.of c,rfl⟩) ?_;clear k p u B
  cases row with
  |nil=>
   walk_at "j"
   try rw[if_neg nofun]
   calc q H c λ_ _ _ e=>e
  |cons r g=>
   walk_at "j";rw[if_pos nofun];walk_at "jg";refine ZI _ _ _ 0 rfl rfl c ∅ ∅ (by simp[seqIndex?]) ?_;exact q _ ab λb o y e=>by rw[av y];exact e
 ·rw[GK k p]at q;walk_at "j";refine cX t (ax (j:=0) rfl) ?_;walk_at "j";rw[if_neg λz=>k (of_decide_eq_true z)];walk_at "j";refine cX t (ax (j:=0) rfl) ?_;walk_at "j";rw[if_neg λz=>p (of_decide_eq_true z)];walk_at "j";exact q H c λ_ _ _ e=>e
abbrev mB:Stmt:=top 38
inductive yi(vs:List V)(H:Hp)(Q:VK):Prop
 |mk (x:V) (l:Addr) (ws:List Int) (n:Nat) (d:bf) (h0:vs=[x,.ref l]) (h1:HT H n x d.dv) (h2:H l=some (.lst (ws.map V.int))) (h3:ws.length=d.vals.length) (h4:Q (.int (nM (ws.getD 0 0) (ws.getD 1 0) d)) H):yi vs H Q
def BP:Sp:=λvs H Q _=>yi vs H Q
theorem Aa(D:cZ K mg "left_out" "left_out" mB ["deed","worths"])(T:Tx K mg C CN CR F FD):Def P w K mg base "left_out" 1 ["deed","worths"] BP:=by
 have sc:aB ["deed","worths"] ["deed","worths"] (ay mB):=by walk_at "s"
 symm;obtain⟨x,l,ws,n,d,rfl,c,b,i,q⟩:=h;have b:=hr.units;refine⟨_,(ag (aT (PW.pt (pw_and (az (aU b) (aj b (au 0) ai) aC (aH _)) (pw_and1 (az gu (aj b (au 1) ai) (aj b (au 1) ai) (aH _))))) (ak (aE (aj b (au 0) ai))) aI)
  (ak (aE ai))),?_⟩
 obtain⟨a,o,rfl,k⟩:=vT c;by_cases e:d.word="skip"
 ·obtain⟨u,v,b,k,l,m⟩:=DH c e;rw[m] at q;have b:=gU (ws:=ws) (j:=0) ();have b:=gU (ws:=ws) (j:=1) ();clear c i m e;walk_at "jg";by_cases g:ws.getD 0 0 < ws.getD 1 0
  ·rw[if_pos g]at q;walk_at "j";rw[if_pos (decide_eq_true g)];walk_at "jg";exact q
  ·rw[if_neg g]at q;walk_at "j";rw[if_neg λz=>g (of_decide_eq_true z)];walk_at "j";exact q
 ·rw[yh e]at q;walk_at "j";refine cX k (ax (j:=0) rfl) ?_;walk_at "j";rw[if_neg λz=>e (of_decide_eq_true z)];walk_at "j";exact q
theorem GO{d:TT}{f:TS}{D:Ends}(e:St->Hp->Prop)(μ:St->Nat)(h:e σ H)
  (i:∀σ H,e σ H->d σ H λb H1=>if b=true then ∃N:St->Hp->Prop,(∀a H',N a H'->e a H'/\μ a<μ σ)/\f {D with nx:=N,ct:=N,bk:=D.nx} σ H1 else D.nx σ H1)
  (c:∀σ H (Q g:Bool->Hp->Prop),(∀b H1,Q b H1->g b H1)->d σ H Q->d σ H g):vj d f D σ H:=by
 calc⟨λm σ H=>m=μ σ/\e σ H,⟨_,rfl,h⟩,?_⟩;rintro m σ H ⟨rfl,p⟩;refine c σ H _ _ (λb H1 q=>?_) (i σ H p)
 cases b with
 |true=>
  obtain⟨N,c,d⟩:=q;calc⟨N,λa H' n=>⟨_,(c a H' n).2,rfl,(c a H' n).1⟩,d⟩
 |false=>calc q
def SL(H:Hp)(a:List V)(b:List (Int×Int)):Prop:=a.length=b.length/\∀(i:Nat) z p,a[i]?=some z->b[i]?=some p->HT H 1 z (.tup [.int p.1,.int p.2])
theorem SL.aG(s:cj H H'){a:List V}{b:List (Int×Int)}(h:SL H a b):SL H' a b:=⟨h.1,λi z p a b=>(h.2 i z p a b).aG s⟩
theorem SL.snoc{H:Hp}{c:List V}{d:List (Int×Int)}{z:V}{j w:Int}(h:SL H c d)(hz:HT H 1 z (.tup [.int j,.int w])):SL H (c++[z]) (d++[(j,w)]):=by
 calc⟨by simp[h.1],λi g p a b=>?_⟩;by_cases e:i<c.length
 ·rw[List.getElem?_append_left e]at a;rw[List.getElem?_append_left (by rw[<-h.1];calc e)]at b;exact h.2 i g p a b
 ·rw[List.getElem?_append_right ()] at a;rw[List.getElem?_append_right (by rw[<-h.1];lia)] at b;rw[h.1] at a
  cases f:i-d.length with
  |zero=>rw[f]at a b;cases a;cases b;calc hz
  |succ k=>rw[f]at a;simp at a
structure Res(H H':Hp)(x:V)(s:WS):Prop where
 ex:∃p st l1 l2 zs,x=.ref p/\H' p=some (.tup [st,.ref l1,.ref l2])/\HT H' 2 st (xt s.ns s.row)/\H' l1=some (.lst zs)/\SL H' zs s.cA/\H' l2=some (.lst (s.words.map V.int))/\H l1=none/\H l2=none/\l1≠l2
theorem BQ{M w:Int}(e:0<M)(b:∀z∈ns,0<=z/\z<M)(f:0<=w/\w<M):∀z∈jo M ns w d,0<=z/\z<M:=by
 have a:∀(j:Nat) (y:Int),(0<=y/\y<M)->∀z∈ns.set j y,0<=z/\z<M:=λj y g z i=>by
  rcases List.mem_or_eq_of_mem_set i with h|h
  ·exact b z h
  ·rw[h];exact g
 have c:∀y:Int,0<=y%M/\y%M<M:=λy=>⟨aaK _ (),aaD _ e⟩
 cases d with
 |set i v=>calc a _ _ f
 |add i v=>calc a _ _ (c _)
 |times i v=>calc a _ _ (c _)
 |_=>calc b
theorem GP{w:Int}{row:List Int}{d:bf}(h:row.length<=12):(nL row w d).length<=12:=by
 cases d with
 |put v=>
  show(if row.length<12 then row++[w] else row).length<=12;split
  ·simp;lia
  ·calc h
 |drop=>show row.tail.length<=12;simp;lia
 |_=>calc h
theorem GQ{m w w':Int}{d:bf}(h:d.ok m):0<=nM w w' d:=by
 cases d with
 |skip v u k=>
  show 0<=(if w<w' then k else 0)
  split
  ·exact Int.le_trans ∅ h.2.2.1
  ·calc Int.le_refl _
 |_=>calc Int.le_refl _
theorem oa{m:Int}(h:d.ok m):∀v∈d.vals,v.ok m:=by
 intro v a
 cases d<;>simp only[bf.vals,List.mem_cons,List.not_mem_nil,or_false]at a
 case set=>subst a;exact h.2.2
 case add=>subst a;exact h.2.2
 case times=>subst a;exact h.2.2
 case put=>subst a;exact h
 case send=>subst a;exact h.2
 case say=>subst a;exact h
 case skip=>rcases a with rfl|rfl;calc h.1;calc h.2.1
theorem VL.get{H:Hp}{n:Nat}{xs:List V}{vs:List Val}(h:VL H n xs vs):∀{i:Nat}{x:V},xs[i]?=some x->∃v,vs[i]?=some v/\HT H n x (Val.dv v):=by
 induction h with
 |nil=>intro i x h;simp at h
 |cons a _ b=>
  intro i x h
  cases i with
  |zero=>cases h;calc⟨_,rfl,a⟩
  |succ i=>calc b h
theorem yj:d.vals.length<=2:=by cases d<;>simp[bf.vals]
theorem uR{M way said:Int}{ns row:List Int}{vs:List Val}{i:Nat}(a:0<M):0<=(vs.map (fB M way said ns row)).getD i 0/\(vs.map (fB M way said ns row)).getD i 0<M:=by
 rw[List.getD_eq_getElem?_getD,List.getElem?_map]
 cases vs[i]? with
 |none=>calc⟨Int.le_refl _,a⟩
 |some v=>calc⟨aaK _ (),aaD _ a⟩
theorem sk1{a:Nat}{k:Int}(h:0<=k):(a:Int)+(1+k)=((a+1+k.toNat:Nat):Int):=by lia
theorem sk2{α:Type}{x:α}{xs:List α}{a k f:Nat}(h:(x::xs.drop (a+1)).length<=f+1):(xs.drop (a+1+k)).length<=f:=by
 rw[List.length_drop];rw[List.length_cons,List.length_drop]at h;lia
theorem sk3{n a:Nat}{k:Int}(b:a<n)(h:0<=k):n-((a:Int)+(1+k)).toNat<n-a:=by lia
theorem K9{n:Nat}{w:Int}(h:HT H n (.ref a) d.dv)(e:d.word="send"):∃j u,H a=some (.tup [.str "send",.int j,u])/\gN w d=[(j,w)]/\fR w d=[]/\d.vals.length=1:=by
 cases d<;>first|calc absurd e (by simp only[bf.word];decide)|skip
 obtain⟨g,i,j,k,l,z,b,c,f,m⟩:=bT h;obtain rfl:=L2.V.ref.inj z;obtain rfl:=f.cB;obtain rfl:=c.cI;calc⟨_,_,b,rfl,rfl,rfl⟩
theorem PM{w:Int}(e:d.word="say"):fR w d=[w]/\d.vals.length=1:=by
 cases d<;>first|calc absurd e (by simp only[bf.word];decide)|calc⟨rfl,rfl⟩
theorem yk{w:Int}:(gN w d).length<=1/\(fR w d).length<=1:=by cases d<;>simp[gN,fR]
theorem La{w:Int}(e:¬d.word="send"):gN w d=[]:=by cases d<;>first|rfl|exact absurd rfl e
theorem GR{w:Int}(e:¬d.word="say"):fR w d=[]:=by cases d<;>first|rfl|exact absurd rfl e
theorem yl{l:List Int}(h:0<l.length):l[0]?=some (l.getD 0 0):=by
 cases l with
 |nil=>simp at h
 |cons a r=>rfl
abbrev fV:Stmt:=(b8 (top 39)).getD 4 (.Pass ⟨0,0,0,0⟩)
def muW(n:Nat)(σ:St):Nat:=match σ[8]? with
 |some (some (V.int i))=>n-i.toNat
 |_=>0
inductive sr(K:W.Frag)(C:Addr)(vs:List V)(H:Hp)(Q:VK):Prop
 |mk (m:Addr) (st:V) (way said M:Int) (ns0 Dh:List Int) (ds:List bf) (ns row:List Int) (h0:vs=[.ref m,st,.int way,.int said]) (h1:gR C H m M ns0 Dh ds) (h2:xy K H st ns row) (h3:2<=M) (h4:M<=1000000000000) (h5:(∀z∈ns,0<=z/\z<M)) (h6:row.length<=12) (h7:ds.length<=24) (h8:(∀d∈ds,d.ok ns.length)) (h9:∀x H',aq H H'->Res H H' x (nN M way said ds ns row)->Q x H'):sr K C vs H Q
def uS(K:W.Frag)(C:Addr):Sp:=λvs H Q _=>sr K C vs H Q
inductive PN(H:Hp)(m:Addr)(st:V)(way said M:Int)(ds:List bf)(ns row:List Int)(σ:St)(H':Hp):Prop
 |mk (an ar gF aw:Addr) (zs:List V) (z9 qR:Option V) (at_:Nat) (s:WS) (f:Nat) (h0:σ=[some (.ref m),some st,some (.int way),some (.int said),some (.ref an),some (.ref ar),some (.ref gF),some (.ref aw),some (.int at_),z9,qR]) (h1:aq H H') (h2:H an=none) (h3:H ar=none) (h4:H gF=none) (h5:H aw=none) (h6:an≠ar) (h7:an≠gF) (h8:an≠aw) (h9:ar≠gF) (Mx:ar≠aw) (Z3:gF≠aw) (h12:H' an=some (.lst (s.ns.map V.int))) (h13:H' ar=some (.lst (s.row.map V.int))) (h14:H' gF=some (.lst zs)) (h15:SL H' zs s.cA) (h16:H' aw=some (.lst (s.words.map V.int))) (h17:s.ns.length=ns.length) (h18:(∀z∈s.ns,0<=z/\z<M)) (h19:s.row.length<=12) (h20:s.cA.length<=at_) (h21:s.words.length<=at_) (h22:xu M way said f (ds.drop at_) s=nN M way said ds ns row) (h23:(ds.drop at_).length<=f):PN H m st way said M ds ns row σ H'
theorem pE(D:gG K C "worked" "Machine.worked" fV ["self","state","way","said"])(T:Tx K mg C CN CR F FD)(fW:Def P w K mg base "change_numbers" 1 ["numbers","deed","worths","modulus"] GL)(jL:Def P w K mg base "change_row" 1 ["row","deed","worths"] GN)(mC:Def P w K mg base "left_out" 1 ["deed","worths"] BP)(kI:Def P w K mg base "values_of" 1 ["deed"] BK)(mD:Def P w K mg base "worth_of" 2 ["value","state","way","said","modulus"] (yd K)):ck P w K mg base C "worked" 3 ["self","state","way","said"] (uS K C):=by
  have sc:aB ["self","state","way","said","numbers","row","sent","words","at","deed","worths"] ["self","state","way","said"] (ay fV):=by walk_at "s"
  symm;obtain⟨m,st,k,c,M,ns0,Dh,t,ns,row,rfl,hm,j6,Dy,pA,hb,nY,Mu,aO,q⟩:=h;have O:=hr.units;refine⟨_,(ag (aR (i:=4) sc.nd rfl Sort (cQ cf rfl T.dX ke (af (aj O (au 1) ai) aa)))
    (ag (aR (i:=5) sc.nd rfl Sort (cQ cf rfl T.dX ke (af (aj O (au 1) ai) aa)))
    (ag (aR (i:=6) sc.nd rfl Sort (bu aa))
    (ag (aR (i:=7) sc.nd rfl Sort (bu aa))
    (ag (aR (i:=8) sc.nd rfl Sort ai)
    (ag (EI PassesOwn.never (AI gu (pv 8) (bg aN rfl T.cm W' (af (bF (pv 0) rfl) aa)) (aH _))
    (ag (aR (i:=9) sc.nd rfl Sort (aj O (bF (au 0) rfl) (au 8)))
    (ag (gk (i:=10) sc.nd rfl Sort (N':=["value","way","said","numbers","row","self"]) (ix:=[none,some 2,some 3,some 4,some 5,some 0]) (bS (aJ kI hr (af (au 9) aa))) (λ_ _ _ _=>(aQ (i:=0) (show(["value","way","said","numbers","row","self"]:List Str).Nodup by decide +kernel) rfl Sort)) oI (λ_ _ _ _=>(aJ mD hr (af (au 0) (af (bD (af (au 3) (af (au 4) aa))) (af (au 1) (af (au 2) (af (Kn (K:=K) rfl (au 5) rfl) aa))))))))
    (ag (bP (aJ fW hr (af (au 4) (af (au 9) (af (au 10) (af (bF (au 0) rfl) aa))))))
    (ag (bP (aJ jL hr (af (au 5) (af (au 9) (af (au 10) aa)))))
    (ag (aT (az (aU O) (aj O (au 9) ai) aC (aH _)) (ak (bP (cY oE qH qI bZ (au 6) (af (bD (af (aj O (au 9) ai) (af (aj O (au 10) ai) aa))) aa)))) (ak (aT (az (aU O) (aj O (au 9) ai) aC (aH _)) (ak (bP (cY oE qH qI bZ (au 7) (af (aj O (au 10) ai) aa)))) aI)))
    (ak (NW (i:=8) sc.nd rfl Sort (aW cR ai (aJ mC hr (af (au 9) (af (au 10) aa)))) NX))))))))
    (ak (aE (bD (af (bD (af (cQ bO rfl T.bX qJ (af (au 4) aa)) (af (cQ bO rfl T.bX qJ (af (au 5) aa)) aa))) (af (au 6) (af (au 7) aa)))))))))))),?_⟩
  nofun;obtain⟨dx,stm,dd,xZ,hm2,hm3⟩:=hm;obtain⟨ad,xs,rfl,U5,tN⟩:=UM hm3;obtain⟨sa,sb,U6,rfl,U7,Uz,hsc⟩:=j6;ac_rfl;walk_at "j";refine cM _ _ (.inr (bz.of U7)) rfl ?_;walk_at "j";refine bI _ Uz (λB PQ=>?_);have Z:=aq.new (.lst (ns.map V.int)) PQ;walk_at "j";refine cM _ _ (.inr (bz.of (Z _ _ U7))) rfl ?_;walk_at "j";have PR:aP K (upd H B (.lst (ns.map V.int))) U6 (row.map V.int)\/bz K (upd H B (.lst (ns.map V.int))) U6 (row.map V.int):=hsc.elim (λz=>.inl (Z.seq z)) (λz=>.inr (Z.Rx z));refine bI _ PR (λI DI=>?_);have R:=aq.new (.lst (row.map V.int)) DI;walk_at "j";refine⟨Y' _,λu pF=>?_⟩;have r:=aq.new (.lst []) pF;walk_at "j";refine⟨Y' _,λG Y=>?_⟩;have W:=aq.new (.lst []) Y;walk_at "j";have nra:I≠B:=λz=>by subst z;rw[ab]at DI;cases DI
  have hrH:H I=none:=Z.free DI;have hsH:H u=none:=(Z.trans R).free pF;have hwH:H G=none:=(Z.trans (R.trans r)).free Y;have nsa:u≠B:=λz=>by subst z;rw[R _ _ ab]at pF;cases pF
  have nsr:u≠I:=λz=>by subst z;rw[ab]at pF;cases pF
  have nwa:G≠B:=λz=>by subst z;rw[r _ _ (R _ _ ab)]at Y;cases Y
  have nwr:G≠I:=λz=>by subst z;rw[r _ _ ab]at Y;cases Y
  have nws:G≠u:=λz=>by subst z;rw[ab]at Y;cases Y
  have Ab:=Z.trans (R.trans (r.trans W));have Jh:0<M:=by lia
  refine GO (PN H m (.ref sa) k c M t ns row) (muW t.length) ?_ ?_ ?_
  · refine⟨B,I,u,G,[],none,none,0,⟨ns,row,[],[]⟩,t.length,rfl,Ab,PQ,hrH,hsH,hwH,Ne.symm nra,Ne.symm nsa,Ne.symm nwa,Ne.symm nsr,Ne.symm nwr,Ne.symm nws,W _ _ (r _ _ (R _ _ ab)),W _ _ (r _ _ ab),W _ _ ab,⟨rfl,λi z p e=>by simp at e⟩,ab,rfl,hb,nY,P' _,P' _,rfl,P' _⟩
  · intro σ H1 ir;obtain⟨B,I,u,G,zs,z9,qR,g,s,f,rfl,sH,a1,a2,a3,a4,n1,n2,n3,n4,n5,n6,e1,e2,e3,DJ,e5,Ji,Je,ym,DK,X3,S,Mz⟩:=ir;have Lb:=sH _ _ xZ;have U8:=sH _ _ U5;have aap:=tN.aG sH.aM;walk_at "j";refine fv Lb T.cC T.Mr UL ?_;walk_at "j";refine bI _ (.inr ⟨_,bz.of U8,rfl⟩) ?_;by_cases iz:g < t.length
    · have U9:g < xs.length:=by rw[tN.1];exact iz
      walk_at "j";rw[if_pos (by simpa using U9)];refine⟨λσ' H'=>PN H m (.ref sa) k c M t ns row σ' H'/\muW t.length σ'<t.length-g,λσ' H' h=>h,?_⟩;have tQ:=aO t[g] (aae iz);have hx:=aap.2 g xs[g] t[g] (cy U9) (cy iz);have RF:t.drop g=t[g]::t.drop (g+1):=List.drop_eq_getElem_cons iz;nofun;generalize Bk:t[g]=d at tQ hx RF;generalize hxx:xs[g]=x at hx;have exx:xs[g]?=some x:=by rw[cy U9,hxx]
      obtain⟨f',rfl⟩:∃f',f=f'+1:=⟨f-1,by rw[RF]at Mz;simp at Mz;lia⟩
      rw[RF]at S Mz
      replace S:xu M k c f' ((t.drop (g+1)).drop (lU M k c d s).toNat) (fC M k c d s)=nN M k c t ns row:=S
      ac_rfl;rw[List.drop_drop]at S;walk_at "j";refine fv Lb T.cC T.Mr UL ?_;walk_at "j";refine cM _ x (.inr (bz.of U8)) (ax exx) ?_;walk_at "j";refine bL ?_;walk_at "j";refine⟨x,3,d,rfl,hx,λl zv k0 H2 R Va hl GG=>?_⟩;refine .inl ⟨⟨_,aP.of hl⟩,λD hD=>?_⟩;have Jj:=GG.len;have JV:=yj (d:=d);refine bq (J:=wQ K l) (n:=zv.length) (λi ys H'=>ys=((d.vals.take i).map (fB M k c s.ns s.row)).map V.int/\aq H2 H') (S' (aA ())) ⟨rfl,aq.new _ hD⟩ ?_ ?_ ?_ ?_
      · rintro i ys H' hi ⟨_,r⟩;exact⟨_,zv[i],aP.of (r _ _ hl),cy hi⟩
      · rintro ys H' ⟨_,r⟩;exact⟨_,aP.of (r _ _ hl),P' _⟩
      · intro i ys H3 hi bx uN iu y H4 nX;nofun;obtain⟨rfl,r⟩:=iu;obtain⟨rfl,hy⟩:=nX;have ey:=hy _ (aP.of (r _ _ hl));obtain⟨v,ev,hv⟩:=GG.get ey;ac_rfl;have iN:=oa tQ v (aad ev);walk_at "xf";walk_at "j";rw[if_pos trivial];refine⟨dH,λp hp=>?_⟩;have W:=aq.new (.tup [.ref B,.ref I]) hp;have Vb:=R.trans (r.trans W);refine fv (Vb _ _ Lb) T.cC T.Mq UK ?_;refine⟨y,.ref p,k,c,M,v,s.ns,s.row,k0,rfl,(hv.aG (r.trans W).aM),⟨p,B,I,rfl,ab,.inl (aP.of (Vb _ _ e1)),.inl (aP.of (Vb _ _ e2))⟩,by rw[Ji];exact iN,Jh,?_⟩;refine cn (W _ _ bx) uN hi (S' (aA ())) ⟨?_,λb o e=>?_⟩
        · rw[List.take_add_one,ev];simp[fB]
        · rw[av (ao e hD)];exact W _ _ (r _ _ e)
      rintro ys H3 bx uN ⟨rfl,r⟩;rw[Jj,List.take_length]at bx;have X:=R.trans r;have yO:H1 D=none:=R.free hD;generalize qP:d.vals.map (fB M k c s.ns s.row)=ws at bx;have kd:ws.length=d.vals.length:=by rw[<-qP];simp
      have Vc:0<=ws.getD 0 0/\ws.getD 0 0<M:=by rw[<-qP];exact uR Jh
      have BR:fC M k c d s=⟨jo M s.ns (ws.getD 0 0) d,nL s.row (ws.getD 0 0) d,s.cA++gN (ws.getD 0 0) d,s.words++fR (ws.getD 0 0) d⟩:=by rw[<-qP];rfl
      have BS:lU M k c d s=nM (ws.getD 0 0) (ws.getD 1 0) d:=by rw[<-qP];rfl
      rw[BR,BS]at S;have wG:∀{b:Addr} {o:HO},H1 b=some o->b≠D:=λe=>ao e yO;walk_at "j";refine fv (X _ _ Lb) T.cC T.Mq UK ?_;refine⟨B,x,D,s.ns,ws,M,3,d,rfl,X _ _ e1,hx.aG X.aM,bx,kd,by rw[Ji];exact tQ,Jh,pA,Je,λH4 e14 k4=>?_⟩;have t4:cj H3 H4:=λb ys e=>k4 b _ (λz=>by subst z;rw[X _ _ e1]at e;cases e) e;walk_at "j";refine⟨I,x,D,s.row,ws,3,d,rfl,k4 _ _ (Ne.symm n1) (X _ _ e2),hx.aG (X.aM.trans t4),k4 _ _ (Ne.symm (wG e1)) bx,kd,ym,λL e25 k5=>?_⟩;have t5:cj H4 L:=λb ys e=>k5 b _ (λz=>by subst z;rw[k4 _ _ (Ne.symm n1) (X _ _ e2)]at e;cases e) e;have t15:cj H1 L:=X.aM.trans (t4.trans t5);have kk:∀b o,b≠B->b≠I->H1 b=some o->L b=some o:=λb o ne1 ne2 e=>k5 b o ne2 (k4 b o ne1 (X _ _ e));have e15:=k5 _ _ n1 e14;have RG:=kk _ _ (Ne.symm n2) (Ne.symm n4) e3;have Vd:=kk _ _ (Ne.symm n3) (Ne.symm n5) e5;have BC:L D=some (.lst (ws.map V.int)):=k5 _ _ (Ne.symm (wG e2)) (k4 _ _ (Ne.symm (wG e1)) bx);have PU:=DJ.aG t15;have PV:aq H L:=λb o e=>kk b o (ao e a1) (ao e a2) (sH _ _ e);have Es:=hx.aG t15;have MA:=GQ (w:=ws.getD 0 0) (w':=ws.getD 1 0) tQ;obtain⟨a,us,rfl,ha,-⟩:=r8 Es tQ;walk_at "j";rename_i N1 hN1 T1 U1 Lc hU1;have fin:∀U Jk,aq H U->U B=some (.lst ((jo M s.ns (ws.getD 0 0) d).map V.int))->U I=some (.lst ((nL s.row (ws.getD 0 0) d).map V.int))->U u=some (.lst Jk)->SL U Jk (s.cA++gN (ws.getD 0 0) d)->U G=some (.lst ((s.words++fR (ws.getD 0 0) d).map V.int))->HT U 3 (.ref a) d.dv->U D=some (.lst (ws.map V.int))->N1 [some (V.ref m),some (V.ref sa),some (V.int k),some (V.int c),some (V.ref B),some (V.ref I),some (V.ref u),some (V.ref G),some (V.int (g:Nat)),some (V.ref a),some (V.ref D)] U:=by
        intro U Jk f0 f1 f2 f3 f4 f5 f6 f7;walk_at "j";refine⟨.ref a,D,ws,_,_,rfl,f6,f7,kd,?_⟩;walk_at "j";refine cM _ _ rfl rfl ?_;have l1:=yk (w:=ws.getD 0 0) (d:=d);refine⟨⟨B,I,u,G,Jk,some (.ref a),some (.ref D),g+1+(nM (ws.getD 0 0) (ws.getD 1 0) d).toNat,⟨jo M s.ns (ws.getD 0 0) d,nL s.row (ws.getD 0 0) d,s.cA++gN (ws.getD 0 0) d,s.words++fR (ws.getD 0 0) d⟩,f',?_,f0,a1,a2,a3,a4,n1,n2,n3,n4,n5,n6,f1,f2,f3,f4,f5,by rw[oY];exact Ji,BQ (d:=d) Jh Je Vc,GP (w:=ws.getD 0 0) (d:=d) ym,(by rw[List.length_append];lia),(by rw[List.length_append];lia),S,?_⟩,?_⟩
        · first|rfl|rw[sk1 MA]
        · exact sk2 Mz
        · exact sk3 iz MA
      calc cX ha (ax (j:=0) rfl) ?_;walk_at "j";by_cases k1:d.word="send"
      · rw[if_pos (decide_eq_true k1)];obtain⟨j,u2,ha',es,X4,X2⟩:=K9 (w:=ws.getD 0 0) Es k1;have BN:ip (ws.map V.int) 0=some (.int (ws.getD 0 0)):=ax (j:=0) (by rw[List.getElem?_map,yl ()];rfl);generalize ws.getD 0 0=w0 at *
        · skip
          walk_at "j";refine⟨.inl ⟨rfl,_,aP.of RG⟩,?_⟩;refine cX ha' (ax (j:=1) rfl) ?_;walk_at "j";refine bt BC BN ?_;refine⟨dH,λtp Jl=>?_⟩;have s6:=aq.new (.tup [.int j,.int w0]) Jl;refine gJ _ (s6 _ _ RG) (aaI (by have:=DJ.1;lia) (aA (n:=100) ())) ?_;have htn:tp≠u:=λz=>by subst z;rw[RG]at Jl;cases Jl
          have t6:cj (upd L tp (.tup [.int j,.int w0])) (upd (upd L tp (.tup [.int j,.int w0])) u (.lst (zs++[.ref tp]))):=(cj.refl _).upd λys e=>by rw[s6 _ _ RG]at e;cases e
          have N:∀b o,b≠u->L b=some o->upd (upd L tp (.tup [.int j,.int w0])) u (.lst (zs++[.ref tp])) b=some o:=λb o ne e=>by rw[av ne];exact s6 _ _ e
          exact fin _ _ (λb o e=>N b o (ao e a3) (PV _ _ e)) (N _ _ n2 e15) (N _ _ n4 e25) ab (by rw[es];calc(PU.aG (s6.aM.trans t6)).snoc (dg (n:=0) (by rw[av htn];calc ab) (.int _) (.int _))) (by rw[X4,List.append_nil];calc N _ _ (Ne.symm n6) Vd) (Es.aG (s6.aM.trans t6)) (N _ _ (Ne.symm (wG e3)) BC)
      · rw[if_neg λz=>k1 (of_decide_eq_true z)];have es:=La (w:=ws.getD 0 0) k1;walk_at "j";refine cX ha (ax (j:=0) rfl) ?_;walk_at "j";by_cases k2:d.word="say"
        · rw[if_pos (decide_eq_true k2)];obtain⟨ew,X4⟩:=PM (w:=ws.getD 0 0) k2;have BN:ip (ws.map V.int) 0=some (.int (ws.getD 0 0)):=ax (j:=0) (by rw[List.getElem?_map,yl ()];rfl);generalize ws.getD 0 0=w0 at *
          · skip
            walk_at "j";refine⟨.inl ⟨rfl,_,aP.of Vd⟩,?_⟩;walk_at "j";refine bt BC BN ?_;refine gJ _ Vd (aaI (by simp;lia) (aA (n:=100) ())) ?_;have t6:cj L (upd L G (.lst (s.words.map V.int++[.int w0]))):=(cj.refl _).upd λys e=>by rw[Vd]at e;cases e
            have N:∀b o,b≠G->L b=some o->upd L G (.lst (s.words.map V.int++[.int w0])) b=some o:=λb o ne e=>by rw[av ne];exact e
            exact fin _ zs (λb o e=>N b o (ao e a4) (PV _ _ e)) (N _ _ n3 e15) (N _ _ n5 e25) (N _ _ n6 RG) (by rw[es,List.append_nil];calc PU.aG t6) (by rw[ab,ew,List.map_append];rfl) (Es.aG t6) (N _ _ (Ne.symm (wG e5)) BC)
        · rw[if_neg λz=>k2 (of_decide_eq_true z)];have ew:=GR (w:=ws.getD 0 0) k2;calc L2.cH (by assumption) ?_;exact fin _ _ PV e15 e25 RG (by rw[es,List.append_nil];calc PU) (by rw[ew,List.append_nil];calc Vd) Es BC
    · have U9:¬g < xs.length:=by rw[tN.1];exact iz
      walk_at "j";rw[if_neg (by simpa using U9)];rw[List.drop_eq_nil_of_le (),Bf]at S;walk_at "j";refine .inl ⟨_,aP.of e1,λt1 xS=>?_⟩;have r1:=aq.new (.tup (s.ns.map V.int)) xS;walk_at "j";refine .inl ⟨_,aP.of (r1 _ _ e2),λt2 qj=>?_⟩;have r2:=aq.new (.tup (s.row.map V.int)) qj;walk_at "j";refine⟨dH,λt3 xV=>?_⟩;have r3:=aq.new (.tup [.ref t1,.ref t2]) xV;walk_at "j";refine⟨by show 3<=sizeLine;decide,λt4 zV=>?_⟩;have r4:=aq.new (.tup [.ref t3,.ref u,.ref G]) zV;have Ld:=r1.trans (r2.trans (r3.trans r4));refine q _ _ (sH.trans Ld) ⟨_,_,u,G,zs,rfl,ab,?_,Ld _ _ e3,?_,?_,a3,a4,n6⟩
      · rw[<-S];exact(dg ab (nK (r3 _ _ (r2 _ _ ab))) (nK (r3 _ _ ab))).aG r4.aM
      · rw[<-S];exact DJ.aG Ld.aM
      · rw[<-S];exact Ld _ _ e5
  · intro σ H1 Q Q' hq hc;obtain⟨x,h1,x0,h0,a,C',wC,fs,v,h2,h3,h4,h5,h6,n,h7,h8⟩:=hc;refine⟨x,h1,x0,h0,a,C',wC,fs,v,h2,h3,h4,h5,h6,n,h7,?_⟩
    cases x<;>first
      |calc(show False from h8).elim
      | (obtain⟨k',h9,Mx⟩:=h8
         calc⟨k',h9,hq _ _ Mx⟩)
abbrev kJ:Stmt:=top 60
inductive GS(vs:List V)(H:Hp)(Q:VK):Prop
 |mk (x:V) (st an ar:Addr) (way said M:Int) (v:Val) (ns row:List Int) (n:Nat) (h0:vs=[x,.ref st,.int way,.int said,.int M]) (h1:HT H n x (Val.dv v)) (h2:H st=some (.tup [.ref an,.ref ar])) (h3:H an=some (.lst (ns.map V.int))) (h4:H ar=some (.lst (row.map V.int))) (h5:v.ok ns.length) (h6:0<M) (h7:row.length<=12) (h8:∀H',aq H H'->Q (.int (fB M way said ns row v)) H'):GS vs H Q
def BU:Sp:=λvs H Q _=>GS vs H Q
theorem yn(D:cZ K mg "_law_worth" "_law_worth" kJ ["_law_value_here","_law_state","_law_way","_law_said","_law_modulus"])(T:Tx K mg C CN CR F FD):Def P w K mg base "_law_worth" 1 ["_law_value_here","_law_state","_law_way","_law_said","_law_modulus"] BU:=by
 have sc:aB ["_law_value_here","_law_state","_law_way","_law_said","_law_modulus","_law_worth_here"] ["_law_value_here","_law_state","_law_way","_law_said","_law_modulus"] (ay kJ):=by walk_at "s"
 symm;obtain⟨x,st,a,z,way,c,M,v,ns,row,n,rfl,g,R,Y,o,S,k,Z,q⟩:=h;have a:=hr.units;refine⟨_,(ag (aR (i:=5) sc.nd rfl Sort (au 2))
  (ag (aT (az (aU a) (aj a (au 0) ai) aC (aH _)) (ak (aR (i:=5) sc.nd rfl Sort (aj a (au 0) ai))) aI)
  (ag (aT (az (aU a) (aj a (au 0) ai) aC (aH _)) (ak (aR (i:=5) sc.nd rfl Sort (aj a (aj a (au 1) ai) (aj a (au 0) ai)))) aI)
  (ag (aT (az (aU a) (aj a (au 0) ai) aC (aH _)) (ak (aR (i:=5) sc.nd rfl Sort (au 3))) aI)
  (ag (aT (az (aU a) (aj a (au 0) ai) aC (aH _)) (ak (aR (i:=5) sc.nd rfl Sort (aj a (aW cR (dy (N':=["_law_k","_law_state"]) (ix:=[none,some 1]) (c8 rfl T.eR (af (bg aN rfl T.cm W' (af (aj a (au 1) ai) aa)) aa)) (λ_ _ _ _=>(aQ (i:=0) (show(["_law_k","_law_state"]:List Str).Nodup by decide +kernel) rfl Sort)) oI (λ_ _ _ _=>(fA (K:=K) rfl a (fA (K:=K) rfl a (au 1) ai) (au 0)))) (bu (af ai aa))) ai))) aI)
  (ak (aE (aW eP (au 5) (au 4))))))))),?_⟩
 walk_at "j"
 cases v with
 |is z=>
  nofun;obtain⟨p,t,w2,u,rfl,y,d,I⟩:=dI g;obtain rfl:=d.cI;obtain rfl:=I.cB;ac_rfl;walk_at "jg";exact⟨k,q H (aq.refl H)⟩
 |number i=>
  nofun;obtain⟨p,t,w2,u,rfl,y,d,I⟩:=dI g;obtain rfl:=d.cI;obtain rfl:=I.cB;obtain⟨L,a⟩:=S;obtain⟨j,rfl⟩:=aao L;ac_rfl;have U:j<ns.length:=by lia
  have a:ip (ns.map V.int) (j:Int)=some (.int ns[j]):=ax (by rw[List.getElem?_map,cy U];rfl);walk_at "jg";have a:=q H (aq.refl H);have N:fB M way c ns row (.number j)=ns[j]%M:=by
   show ns.getD (j:Int).toNat 0%M=_;simp[List.getD_eq_getElem?_getD,cy U]
  rw[N]at a;calc⟨k,a⟩
 |first=>
  nofun;obtain⟨p,t,u,rfl,y,d⟩:=iL g;obtain rfl:=d.cI;ac_rfl;walk_at "jg"
  skip
  walk_at "jg";refine bI _ (.inl ⟨_,aP.of o,rfl⟩) ?_;walk_at "j";have a:(row.map V.int).length=row.length:=by simp
  rw[a];calc gI () () (λD W=>?_);refine bq (J:=CA 0 row.length) (n:=row.length) (λi ys H'=>ys=(row.take i).map V.int/\aq H H') (S' (aA ())) ⟨rfl,aq.new _ W⟩ (λi ys H' l _=>l) (λys H' _=>P' _) ?_ ?_
  ·intro i ys H' l B G ir x H2 iu;nofun;obtain⟨rfl,m⟩:=ir;obtain⟨rfl,rfl⟩:=iu;ac_rfl;walk_at "xf";have a:=m _ _ R;have O:=m _ _ o;walk_at "jg"
   try rw[if_pos trivial]
   calc bt O (show ip (row.map V.int) (0+(i:Int))=some (.int row[i]) from by rw[Int.zero_add];calc ax (by rw[List.getElem?_map,cy l];rfl)) ?_;calc cn B G l (S' (aA ())) ⟨?_,λb o e=>by rw[av (ao e W)];calc m _ _ e⟩;rw[List.take_succ,cy l,List.map_append];rfl
  rintro ys H1 B G ⟨rfl,m⟩;rw[List.take_length]at B;walk_at "jg";refine⟨∅,λl G=>?_⟩;have X:=aq.new (.lst [.int 0]) G;walk_at "jg";refine .inl ⟨_,_,X _ _ B,ab,S' (aA (by simp;lia)),λi a=>?_⟩;have s3:=aq.new (.lst (row.map V.int++[.int 0])) a;have N:ip (row.map V.int++[.int 0]) 0=some (.int (rM ns row way c .first)):=by
   cases row with
   |nil=>calc ax (j:=0) rfl
   |cons r a=>exact ax (j:=0) rfl
  walk_at "j";refine bt ab N ?_;walk_at "jg";exact⟨k,q _ (m.trans (X.trans s3))⟩
 |ma=>
  nofun;obtain⟨p,t,u,rfl,y,d⟩:=iL g;obtain rfl:=d.cI;ac_rfl;walk_at "jg";exact⟨k,q _ (aq.refl H)⟩
 |way=>
  nofun;obtain⟨p,t,u,rfl,y,d⟩:=iL g;obtain rfl:=d.cI;ac_rfl;walk_at "jg";exact⟨k,q _ (aq.refl H)⟩
abbrev GU:Stmt:=(b8 (top 48)).getD 0 (.Pass ⟨0,0,0,0⟩)
def Lf(a b c:V):List (Str×V):=aX "own_letters" c (aX "own_ways" b (aX "own_machines" a []))
theorem Vf{a b c:V}:(Lf a b c).lookup ("own_machines":Str)=some a:=by
 unfold Lf;rw[bc,if_neg ⋯,bc,if_neg ⋯,bc,if_pos rfl]
theorem Vg{a b c:V}:(Lf a b c).lookup ("own_ways":Str)=some b:=by
 unfold Lf;rw[bc,if_neg ⋯,bc,if_pos rfl]
theorem aat{a b c:V}:(Lf a b c).lookup ("own_letters":Str)=some c:=by
 unfold Lf;rw[bc,if_pos rfl]
theorem eB{a b c:V}(d:f≠"own_machines")(e:f≠"own_ways")(g:f≠"own_letters"):(Lf a b c).lookup f=none:=by
 unfold Lf;rw[bc,if_neg g,bc,if_neg e,bc,if_neg d];rfl
def kK(CN:Addr)(H:Hp)(x:Addr)(ms:List Addr)(wv lv:List V):Prop:=∃d a b c,H x=some (.ins CN d (Lf (.ref a) (.ref b) (.ref c)))/\H a=some (.tup (ms.map V.ref))/\H b=some (.tup wv)/\H c=some (.tup lv)
theorem kK.same{CN:Addr}{x:Addr}(s:aq H H')(h:kK CN H x ms wv lv):kK CN H' x ms wv lv:=by
 obtain⟨d,a,b,c,e,f,g,i⟩:=h;calc⟨d,a,b,c,s _ _ e,s _ _ f,s _ _ g,s _ _ i⟩
def yo(C CN:Addr):Sp:=λvs H Q _=>∃(x a c d e:Addr) (ms:List Addr) (wv lv:List V) (ws:List (Int×Int×Str)) (ls:List (Int×Int)),vs=[.ref x,.ref c,.ref d,.ref e]/\H x=some (.ins CN a [])/\H c=some (.lst (ms.map V.ref))/\H d=some (.lst wv)/\H e=some (.lst lv)/\1<=ms.length/\ms.length<=5/\wv.length<=10/\lv.length<=20/\(∀m∈ms,∃a f,H m=some (.ins C a f))/\gw H 1 wv (ws.map lN)/\gw H 1 lv (ls.map nZ)/\(∀w∈ws,uL ms.length w)/\(∀l∈ls,uM wv.length l)/\∀H',kK CN H' x ms wv lv->(∀b o,b≠x->H b=some o->H' b=some o)->Q .bC H'
theorem Vh(D:Dd K mg "Net" CN "Net.__init__" GU ["self","machines","ways","letters"])(T:Tx K mg C CN CR F FD)(jM:Def P w K mg base "refuse_net" 4 ["machines","ways","letters"] (BI C)):vK P w K mg base "Net" CN 7 ["self","machines","ways","letters"] (yo C CN):=by
 have sc:aB ["self","machines","ways","letters"] ["self","machines","ways","letters"] (ay GU):=by walk_at "s"
 symm;obtain⟨x,a,y,B,G,ms,wv,lv,ws,ls,rfl,g,j,k,l,W,X,Y,Z,UN,qP,KW,KY,rz,q⟩:=h;have hu:=hr.units;refine⟨_,(ag (bP (aJ jM hr (af (au 1) (af (au 2) (af (au 3) aa)))))
  (ag (fw (au 0) (cQ bO rfl T.bX qJ (af (au 1) aa)) (gh rfl))
  (ag (fw (au 0) (cQ bO rfl T.bX qJ (af (au 2) aa)) (gh rfl))
  (ak (fw (au 0) (cQ bO rfl T.bX qJ (af (au 3) aa)) (gh rfl)))))),?_⟩
 try walk_at "rt"
 calc⟨y,B,G,ms,wv,lv,ws,ls,rfl,j,k,l,W,X,Y,Z,UN,qP,KW,KY,rz,λH1 I=>?_⟩;have W:=I _ _ g;have W:y≠x:=λz=>by subst z;rw[g]at j;cases j
 have Vi:B≠x:=λz=>by subst z;rw[g]at k;cases k
 have PX:G≠x:=λz=>by subst z;rw[g]at l;cases l
 try walk_at "rt"
 refine js (.inl (I _ _ j)) λc H2 s2 J=>?_
 try walk_at "rt"
 have m:=I.trans s2;have DA:=m _ _ g;calc⟨x,CN,a,[],rfl,DA,T.cD,T.xN,∅,?_⟩;have L:c≠x:=λz=>by subst z;rw[DA]at J;cases J
 have p:∀b o,b≠x->H2 b=some o->upd H2 x (.ins CN a (aX "own_machines" (.ref c) [])) b=some o:=λb o d e=>by rw[av d];exact e
 have Jm:upd H2 x (.ins CN a (aX "own_machines" (.ref c) [])) x=some (.ins CN a (aX "own_machines" (.ref c) [])):=ab;generalize PY:upd H2 x (.ins CN a (aX "own_machines" (.ref c) []))=G3 at *;have M:=p _ _ L J;have DB:=p _ _ Vi (m _ _ k);have N:=p _ _ PX (m _ _ l)
 try walk_at "rt"
 refine js (.inl DB) λi r t O=>?_
 try walk_at "rt"
 have PZ:=t _ _ Jm;calc qw x CN a _ rfl PZ T.cD T.xO (bM (n:=999) ∅) ?_;have n2:i≠x:=λz=>by subst z;rw[PZ]at O;cases O
 have u:∀b o,b≠x->r b=some o->upd r x (.ins CN a (aX "own_ways" (.ref i) (aX "own_machines" (.ref c) []))) b=some o:=λb o d e=>by rw[av d];exact e
 have Es:upd r x (.ins CN a (aX "own_ways" (.ref i) (aX "own_machines" (.ref c) []))) x=some (.ins CN a (aX "own_ways" (.ref i) (aX "own_machines" (.ref c) []))):=ab;generalize RH:upd r x (.ins CN a (aX "own_ways" (.ref i) (aX "own_machines" (.ref c) [])))=G5 at *;have R:=u _ _ L (t _ _ M);have S:=u _ _ n2 O;have DC:=u _ _ PX (t _ _ N)
 try walk_at "rt"
 refine js (.inl DC) λt3 g v U=>?_
 try walk_at "rt"
 have Vj:=v _ _ Es;calc qw x CN a _ rfl Vj T.cD T.zQ (bM (n:=999) (bM (n:=998) ∅)) ?_;have n3:t3≠x:=λz=>by subst z;rw[Vj]at U;cases U
 refine q _ ⟨a,c,i,t3,ab,?_,?_,?_⟩ λb o d e=>?_
 ·rw[av L];exact v _ _ R
 ·rw[av n2];exact v _ _ S
 ·rw[av n3];exact U
 ·rw[av d];calc v _ _ (u _ _ d (t _ _ (p _ _ d (m _ _ e))))
abbrev gV:Stmt:=(b8 (top 48)).getD 1 (.Pass ⟨0,0,0,0⟩)
def fG(CN:Addr):Sp:=λvs H Q _=>∃(x:Addr) (ms:List Addr) (wv lv:List V),vs=[.ref x]/\kK CN H x ms wv lv/\∀l,H l=none->Q (.ref l) (upd H l (.lst (ms.map V.ref)))
theorem su(D:gG K CN "machines" "Net.machines" gV ["self"])(T:Tx K mg C CN CR F FD):ck P w K mg base CN "machines" 1 ["self"] (fG CN):=by
 have sc:aB ["self"] ["self"] (ay gV):=by walk_at "s"
 symm;obtain⟨x,ms,wv,lv,rfl,⟨e,a,b,g,c,d,i,j⟩,q⟩:=h;have e:=hr.units;refine⟨_,(ak (aE (cQ cf rfl T.dX ke (af (bF (au 0) rfl) aa)))),?_⟩;refine fld c T.cD T.xN Vf ?_;walk_at "r";exact⟨_,.inr (bz.of d),λl e=>q l e⟩
abbrev mE:Stmt:=(b8 (top 48)).getD 2 (.Pass ⟨0,0,0,0⟩)
def oe(CN:Addr):Sp:=λvs H Q _=>∃(x:Addr) (ms:List Addr) (wv lv:List V),vs=[.ref x]/\kK CN H x ms wv lv/\∀l,H l=none->Q (.ref l) (upd H l (.lst wv))
theorem Ac(D:gG K CN "ways" "Net.ways" mE ["self"])(T:Tx K mg C CN CR F FD):ck P w K mg base CN "ways" 1 ["self"] (oe CN):=by
 have sc:aB ["self"] ["self"] (ay mE):=by walk_at "s"
 symm;obtain⟨x,ms,wv,lv,rfl,⟨e,a,b,g,c,i,d,j⟩,q⟩:=h;have e:=hr.units;refine⟨_,(ak (aE (cQ cf rfl T.dX ke (af (bF (au 0) rfl) aa)))),?_⟩;refine fld c T.cD T.xO Vg ?_;walk_at "r";exact⟨_,.inr (bz.of d),λl e=>q l e⟩
abbrev iR:Stmt:=(b8 (top 48)).getD 3 (.Pass ⟨0,0,0,0⟩)
def qk(CN:Addr):Sp:=λvs H Q _=>∃(x:Addr) (ms:List Addr) (wv lv:List V),vs=[.ref x]/\kK CN H x ms wv lv/\∀l,H l=none->Q (.ref l) (upd H l (.lst lv))
theorem tR(D:gG K CN "letters" "Net.letters" iR ["self"])(T:Tx K mg C CN CR F FD):ck P w K mg base CN "letters" 1 ["self"] (qk CN):=by
 have sc:aB ["self"] ["self"] (ay iR):=by walk_at "s"
 symm;obtain⟨x,ms,wv,lv,rfl,⟨e,a,b,g,c,i,j,d⟩,q⟩:=h;have e:=hr.units;refine⟨_,(ak (aE (cQ cf rfl T.dX ke (af (bF (au 0) rfl) aa)))),?_⟩;refine fld c T.cD T.zQ aat ?_;walk_at "r";exact⟨_,.inr (bz.of d),λl e=>q l e⟩
def MB(M way said:Int):Nat->List bf->WS->WS
 |_,[],s=>s
 |l+1,_::r,s=>MB M way said l r s
 |0,d::r,s=>MB M way said (lU M way said d s).toNat r (fC M way said d s)
theorem vV{M way said:Int}:∀(b:List bf) (l:Nat) (s:WS) (f:Nat),b.length<=f->MB M way said l b s=xu M way said f (b.drop l) s
 | [],l,s,f,_=>by rw[List.drop_nil,Bf];cases l<;>rfl
 |d::r,l+1,s,f,h=>by
  show MB M way said l r s=xu M way said f (r.drop l) s;calc vV r l s f (by simp at h;lia)
 |d::r,0,s,f,h=>by
  obtain⟨a,rfl⟩:∃a,f=a+1:=⟨f-1,by simp at h;lia⟩
  show MB M way said (lU M way said d s).toNat r (fC M way said d s)=xu M way said a (r.drop (lU M way said d s).toNat) (fC M way said d s);calc vV r _ _ a (by simp at h;lia)
theorem GV{M way said:Int}{a:List bf}:MB M way said 0 a ⟨ns,row,[],[]⟩=nN M way said a ns row:=vV a 0 _ _ (P' _)
inductive Lh(H:Hp)(mt:Addr)(st:V)(way said M:Int)(ds:List bf)(ns row:List Int)(i:Nat)(σ:St)(H':Hp):Prop
 |mk (an ar gF aw:Addr) (zs:List V) (z9 qR:Option V) (l:Nat) (s:WS) (h0:σ=[some (.ref mt),some st,some (.int way),some (.int said),some (.ref an),some (.ref ar),some (.ref gF),some (.ref aw),some (.int ((l:Nat):Int)),z9,qR]) (h1:aq H H') (a1:H an=none) (a2:H ar=none) (a3:H gF=none) (a4:H aw=none) (n1:an≠ar) (n2:an≠gF) (n3:an≠aw) (n4:ar≠gF) (n5:ar≠aw) (n6:gF≠aw) (e1:H' an=some (.lst (s.ns.map V.int))) (e2:H' ar=some (.lst (s.row.map V.int))) (e3:H' gF=some (.lst zs)) (DJ:SL H' zs s.cA) (e5:H' aw=some (.lst (s.words.map V.int))) (Ji:s.ns.length=ns.length) (Je:∀z∈s.ns,0<=z/\z<M) (ym:s.row.length<=12) (DK:s.cA.length<=i) (X3:s.words.length<=i) (nB:MB M way said l (ds.drop i) s=nN M way said ds ns row):Lh H mt st way said M ds ns row i σ H'
inductive GW(K:W.Frag)(vs:List V)(H:Hp)(Q:VK):Prop
 |mk (mt ln lr ld:Addr) (st:V) (way said M:Int) (xs:List V) (ds:List bf) (ns row:List Int) (h0:vs=[.ref mt,st,.int way,.int said]) (Vk:H mt=some (.tup [.int M,.ref ln,.ref lr,.ref ld])) (h1:H ld=some (.lst xs)) (h2:gw H 2 xs (ds.map bf.dv)) (h3:xy K H st ns row) (h5:2<=M) (h6:M<=1000000000000) (h7:∀z∈ns,0<=z/\z<M) (h9:row.length<=12) (Mx:ds.length<=24) (Z3:∀d∈ds,d.ok ns.length) (h13:∀x H',aq H H'->Res H H' x (nN M way said ds ns row)->Q x H'):GW K vs H Q
theorem P0{xs:List V}:dG xs none (some 12)=xs.take 12:=by
 unfold dG;have a:HT.d9 xs.length 0 none=0:=rfl;rw[a];have b:HT.d9 xs.length xs.length (some 12)=min 12 xs.length:=by
  unfold HT.d9;simp
 rw[b,List.drop_zero,Nat.sub_zero];by_cases h:xs.length<=12
 ·rw[Nat.min_eq_right h,List.take_length,List.take_of_length_le h]
 ·rw[Nat.min_eq_left ()]
theorem Vl{xs:List V}:dG xs (some 1) none=xs.tail:=by
 unfold dG;have b:HT.d9 xs.length xs.length none=xs.length:=rfl;rw[b]
 cases xs with
 |nil=>simp
 |cons a r=>
  have b:HT.d9 (a::r).length 0 (some 1)=1:=by
   unfold HT.d9;simp
  rw[b];simp
theorem BV{α:Type}{l m:List α}{i:Nat}(h:l.length<=i)(h':m.length<=1):(l++m).length<=i+1:=by rw[List.length_append];lia
theorem Li{x:Int}(h:row.length<=12):dG (row.map V.int++[x].map V.int) none (some 12)=(if row.length<12 then row++[x] else row).map V.int:=by
 rw[P0,<-List.map_append,<-List.map_take];split
 ·rw[List.take_of_length_le (by simp;lia)]
 ·rw[List.take_append_of_le_length (),List.take_of_length_le h]
abbrev jN:Stmt:=top 61
def BW(K:W.Frag):Sp:=λvs H Q _=>GW K vs H Q
theorem vW(D:cZ K mg "_law_worked" "_law_worked" jN ["_law_machine_here","_law_state","_law_way","_law_said"])(T:Tx K mg C CN CR F FD)(kL:Def P w K mg base "_law_worth" 1 ["_law_value_here","_law_state","_law_way","_law_said","_law_modulus"] BU):Def P w K mg base "_law_worked" 2 ["_law_machine_here","_law_state","_law_way","_law_said"] (BW K):=by
 have sc:aB ["_law_machine_here","_law_state","_law_way","_law_said","_law_numbers","_law_row","_law_sent","_law_words","_law_left","_law_deed_here","_law_worths"] ["_law_machine_here","_law_state","_law_way","_law_said"] (ay jN):=by walk_at "s"
 symm;obtain⟨mt,g,lr,ld,st,k,a,M,xs,U,ns,row,rfl,Vk,U5,tN,j6,Dy,pA,hb,nY,Mu,aO,q⟩:=h;have g:=hr.units;refine⟨_,(ag (aR (i:=4) sc.nd rfl Sort (cQ cf rfl T.dX ke (af (aj g (au 1) ai) aa)))
  (ag (aR (i:=5) sc.nd rfl Sort (cQ cf rfl T.dX ke (af (aj g (au 1) ai) aa)))
  (ag (aR (i:=6) sc.nd rfl Sort (bu aa))
  (ag (aR (i:=7) sc.nd rfl Sort (bu aa))
  (ag (aR (i:=8) sc.nd rfl Sort ai)
  (ag (df PassesOwn.never rfl (bS (aj g (au 0) ai)) (aQ (i:=9) sc.nd rfl Sort)
  (ag (gk (i:=10) sc.nd rfl Sort (N':=["_law_one","_law_way","_law_said","_law_numbers","_law_row","_law_machine_here"]) (ix:=[none,some 2,some 3,some 4,some 5,some 0]) (bS (pv 9)) (λ_ _ _ _=>(aQ (i:=0) (show(["_law_one","_law_way","_law_said","_law_numbers","_law_row","_law_machine_here"]:List Str).Nodup by decide +kernel) rfl Sort)) (λ_ _ _ _=>(jA (bA (bg (uB (K:=K) rfl) rfl T.bb wK (af (au 0) (af (cV (v:=.ty "tuple") rfl T.bX qJ rfl) aa)))))) (λ_ _ _ _=>(aJ kL hr (af (au 0) (af (bD (af (au 3) (af (au 4) aa))) (af (au 1) (af (au 2) (af (fA (K:=K) rfl g (au 5) ai) aa))))))))
  (ak (aT (az oT (au 8) ai (aH _)) (ak (aR (i:=8) sc.nd rfl Sort (aW eX (au 8) ai))) (ak (aT (az (aU g) (aj g (au 9) ai) aC (aH _)) (ak (dU (aj g (au 10) ai) (fO (au 4) (aj g (au 9) ai) cL))) (ak (aT (az (aU g) (aj g (au 9) ai) aC (aH _)) (ak (dU (aW eP (aW cR (aj g (au 4) (aj g (au 9) ai)) (aj g (au 10) ai)) (aj g (au 0) ai)) (fO (au 4) (aj g (au 9) ai) cL))) (ak (aT (az (aU g) (aj g (au 9) ai) aC (aH _)) (ak (dU (aW eP (aW lG (aj g (au 4) (aj g (au 9) ai)) (aj g (au 10) ai)) (aj g (au 0) ai)) (fO (au 4) (aj g (au 9) ai) cL))) (ak (aT (az (aU g) (aj g (au 9) ai) aC (aH _)) (ak (aR (i:=5) sc.nd rfl Sort (rG (aW cR (au 5) (au 10)) nv (jz ai)))) (ak (aT (az (aU g) (aj g (au 9) ai) aC (aH _)) (ak (aR (i:=5) sc.nd rfl Sort (rG (au 5) (jz ai) nv))) (ak (aT (az (aU g) (aj g (au 9) ai) aC (aH _)) (ak (bP (cY oE qH qI bZ (au 6) (af (bD (af (aj g (au 9) ai) (af (aj g (au 10) ai) aa))) aa)))) (ak (aT (az (aU g) (aj g (au 9) ai) aC (aH _)) (ak (bP (cY oE qH qI bZ (au 7) (af (aj g (au 10) ai) aa)))) (ak (aT (az gu (aj g (au 10) ai) (aj g (au 10) ai) (aH _)) (ak (aR (i:=8) sc.nd rfl Sort (aj g (au 9) ai))) aI))))))))))))))))))))
  (ak (aE (bD (af (bD (af (cQ bO rfl T.bX qJ (af (au 4) aa)) (af (cQ bO rfl T.bX qJ (af (au 5) aa)) aa))) (af (au 6) (af (au 7) aa)))))))))))),?_⟩
 obtain⟨sa,sb,U6,rfl,U7,Uz,hsc⟩:=j6;have Jh:0<M:=by lia
 walk_at "j";refine cX U7 rfl ?_;walk_at "j";refine bI _ Uz (λB PQ=>?_);have s1:=aq.new (.lst (ns.map V.int)) PQ;walk_at "j";refine cX (s1 _ _ U7) rfl ?_;walk_at "j";have g:aP K (upd H B (.lst (ns.map V.int))) U6 (row.map V.int)\/bz K (upd H B (.lst (ns.map V.int))) U6 (row.map V.int):=hsc.elim (λz=>.inl (s1.seq z)) (λz=>.inr (s1.Rx z));refine bI _ g (λN DI=>?_);have s2:=aq.new (.lst (row.map V.int)) DI;walk_at "j";refine⟨Y' _,λG pF=>?_⟩;have m:=aq.new (.lst []) pF;walk_at "j";refine⟨Y' _,λI mr=>?_⟩;have s4:=aq.new (.lst []) mr;walk_at "j";have nra:N≠B:=λz=>by subst z;rw[ab]at DI;cases DI
 have hrH:H N=none:=s1.free DI;have hsH:H G=none:=(s1.trans s2).free pF;have hwH:H I=none:=(s1.trans (s2.trans m)).free mr;have nsa:G≠B:=λz=>by subst z;rw[s2 _ _ ab]at pF;cases pF
 have nsr:G≠N:=λz=>by subst z;rw[ab]at pF;cases pF
 have nwa:I≠B:=λz=>by subst z;rw[m _ _ (s2 _ _ ab)]at mr;cases mr
 have nwr:I≠N:=λz=>by subst z;rw[m _ _ ab]at mr;cases mr
 have nws:I≠G:=λz=>by subst z;rw[ab]at mr;cases mr
 have g:=s1.trans (s2.trans (m.trans s4));have exs:xs.length=U.length:=by simpa using tN.1
 refine cX (g _ _ Vk) (ax (j:=3) rfl) (.inl ⟨⟨_,aP.of (g _ _ U5)⟩,eU (K:=K) (xs:=xs) (Lh H mt (.ref sa) k a M U ns row) ?_ ?_ ?_ ?_⟩)
 ·refine⟨B,N,G,I,[],none,none,0,⟨ns,row,[],[]⟩,rfl,g,PQ,hrH,hsH,hwH,Ne.symm nra,Ne.symm nsa,Ne.symm nwa,Ne.symm nsr,Ne.symm nwr,Ne.symm nws,s4 _ _ (m _ _ (s2 _ _ ab)),s4 _ _ (m _ _ ab),s4 _ _ ab,⟨rfl,λi z p e=>by simp at e⟩,ab,rfl,hb,nY,P' _,P' _,GV⟩
 ·intro i σ H1 hi ir;obtain⟨B,N,G,I,zs,z9,qR,l,s,rfl,sH,_⟩:=ir;exact aP.of (sH _ _ U5)
 ·intro i x σ H1 hxi iu;nofun;obtain⟨B,N,G,I,zs,z9,qR,l,s,rfl,sH,a1,a2,a3,a4,n1,n2,n3,n4,n5,n6,L,X,O,DJ,R,Ji,Je,ym,DK,X3,Y⟩:=iu;have qz:i < U.length:=by rw[<-exs];exact(List.getElem?_eq_some_iff.mp hxi).1
  have tQ:=aO U[i] (aae qz);have hx:=(tN.2 i x (bf.dv U[i]) hxi (by rw[List.getElem?_map,cy qz];rfl)).aG sH.aM;have RF:U.drop i=U[i]::U.drop (i+1):=List.drop_eq_getElem_cons qz;generalize Bk:U[i]=d at tQ hx RF;rw[RF]at Y;obtain⟨pa,xp,os,k0,rfl,X5,vn,Qa,DM⟩:=BJ hx;ac_rfl;walk_at "j";refine bL ?_;walk_at "j";refine .inr ⟨⟨_,bz.of X5⟩,λD hD=>?_⟩;have JV:=yj (d:=d);refine bq (J:=Rp K pa) (n:=xp.length) (λi ys H'=>ys=(((os.take i).filterMap id).map (fB M k a s.ns s.row)).map V.int/\aq H1 H') (S' (aA ())) ⟨rfl,aq.new _ hD⟩ ?_ ?_ ?_ ?_
  ·rintro i ys H' hi ⟨_,m⟩;exact⟨_,xp[i],bz.of (m _ _ X5),cy hi⟩
  ·rintro ys H' ⟨_,m⟩;exact⟨_,bz.of (m _ _ X5),P' _⟩
  ·intro i ys S hi bx uN nX y H4 tM;nofun;obtain⟨rfl,m⟩:=nX;obtain⟨rfl,g⟩:=tM;have T:=g _ (bz.of (m _ _ X5));obtain⟨o,ho,GH⟩:=vn.get T;ac_rfl;have yg:os.take (i+1)=os.take i++[o]:=by
    rw[List.take_add_one,ho];rfl
   walk_at "xf";walk_at "j";rcases GH with⟨rfl,hc⟩|⟨v,rfl,hvx⟩
   ·have ety:∃t,gs K H4 y t/\W.kitOne K t (.type "tuple")=some false:=by
     rcases hc with⟨w,rfl⟩|⟨j,rfl⟩
     ·exact⟨_,.str w,rfl⟩
     ·exact⟨_,.int j,rfl⟩
    obtain⟨t,h1,h2⟩:=ety;refine cM t false h1 h2 ?_
    first|calc⟨false,rfl,?_⟩|skip
    walk_at "j"
    try rw[if_neg Bool.false_ne_true]
    exact⟨_,bx,(),by rw[yg];simp,m⟩
   ·have GI:=hvx.aG m.aM;obtain⟨b,Jk,rfl,gQq⟩:=Bg GI;refine cM _ true (.tup gQq) rfl ?_
    first|calc⟨true,rfl,?_⟩|skip
    walk_at "j"
    try first|rw[if_pos rfl]|rw[if_pos trivial]
    have iN:v.ok ns.length:=oa tQ v (by rw[<-Qa];exact List.mem_filterMap.mpr ⟨some v,aad ho,rfl⟩);walk_at "j";refine⟨dH,λy t=>?_⟩;have g:=aq.new (.tup [.ref B,.ref N]) t;refine cX (g _ _ (m _ _ (sH _ _ Vk))) (ax (j:=0) rfl) ?_;refine⟨.ref b,y,B,N,k,a,M,v,s.ns,s.row,k0,rfl,GI.aG g.aM,ab,g _ _ (m _ _ L),g _ _ (m _ _ X),by rw[Ji];exact iN,Jh,ym,λT t=>?_⟩;refine cn (t _ _ (g _ _ bx)) uN hi (S' (aA ())) ⟨?_,λc o e=>by rw[av (ao e hD)];exact t _ _ (g _ _ (m _ _ e))⟩;rw[yg,List.filterMap_append,List.map_append,List.map_append];rfl
  rintro ys S bx uN ⟨rfl,m⟩;rw[vn.len,List.take_length,Qa]at bx;have yO:H1 D=none:=hD;nofun;generalize g:d.vals.map (fB M k a s.ns s.row)=ws at bx;have kd:ws.length=d.vals.length:=by rw[<-g];simp
  have Vc:0<=ws.getD 0 0/\ws.getD 0 0<M:=by rw[<-g];exact uR Jh
  have BR:fC M k a d s=⟨jo M s.ns (ws.getD 0 0) d,nL s.row (ws.getD 0 0) d,s.cA++gN (ws.getD 0 0) d,s.words++fR (ws.getD 0 0) d⟩:=by rw[<-g];rfl
  have BS:lU M k a d s=nM (ws.getD 0 0) (ws.getD 1 0) d:=by rw[<-g];rfl
  have g:∀{b:Addr} {o:HO},H1 b=some o->b≠D:=λe=>ao e yO;have oJ:aq H S:=sH.trans m;have Jm:=hx.aG m.aM;have vX:=DJ.aG m.aM;have t:B≠D:=g L;have t:N≠D:=g X;have t:G≠D:=g O;have t:I≠D:=g R;have nPs:∀{b:Addr} {ys zs:List V},S b=some (.tup ys)->∀{c:Addr},S c=some (.lst zs)->b≠c:=λh1 _ h2 z=>by subst z;rw[h1]at h2;cases h2
  have aay:=oJ _ _ Vk
  replace L:=m _ _ L
  replace X:=m _ _ X
  replace O:=m _ _ O
  replace R:=m _ _ R
  ac_rfl;clear vn Qa DM JV uN hx
  cases l with
  |succ l=>
   walk_at "j";rw[if_pos nofun];walk_at "j";refine⟨B,N,G,I,zs,some (.ref pa),some (.ref D),l,s,?_,oJ,a1,a2,a3,a4,n1,n2,n3,n4,n5,n6,L,X,O,vX,R,Ji,Je,ym,(),(),Y⟩;have:((l+1:Nat):Int)-1=((l:Nat):Int):=by lia
   rw[this]
  |zero=>
  replace Y:MB M k a (lU M k a d s).toNat (U.drop (i+1)) (fC M k a d s)=nN M k a U ns row:=Y
  rw[BR,BS]at Y;walk_at "j"
  try rw[if_neg nofun]
  have g:((ns.length:Nat):Int)=s.ns.length:=by rw[Ji]
  have Z:∀H6 MC Jk n' r' sn' w' (k':Nat),sm M s.ns s.row (ws.getD 0 0) (ws.getD 1 0) d=(n',r',sn',w',((k':Nat):Int))->aq H H6->H MC=none->B≠MC->MC≠G->MC≠I->H6 B=some (.lst (n'.map V.int))->H6 MC=some (.lst (r'.map V.int))->H6 G=some (.lst Jk)->SL H6 Jk (s.cA++sn')->H6 I=some (.lst ((s.words++w').map V.int))->Lh H mt (.ref sa) k a M U ns row (i+1) [some (.ref mt),some (.ref sa),some (.int k),some (.int a),some (.ref B),some (.ref MC),some (.ref G),some (.ref I),some (.int ((k':Nat):Int)),some (.ref pa),some (.ref D)] H6:=by
   clear bx Jm vX L X O R aay nPs;intro H6 MC Jk n' r' sn' w' k' E f0 f1 f2 f3 f4 f5 f6 f7 f8 f9;simp only[sm,Prod.mk.injEq]at E;obtain⟨rfl,rfl,rfl,rfl,E⟩:=E;rw[E,Int.toNat_natCast]at Y;have g:=yk (w:=ws.getD 0 0) (d:=d);exact⟨B,MC,G,I,Jk,_,_,k',⟨_,_,_,_⟩,rfl,f0,a1,f1,a3,a4,f2,n2,n3,f3,f4,n6,f5,f6,f7,f8,f9,oY.trans Ji,BQ (d:=d) Jh Je Vc,GP (d:=d) ym,BV DK g.1,BV X3 g.2,Y⟩
  have zZ:∀r x,sm M s.ns s.row (ws.getD 0 0) (ws.getD 1 0) d=(s.ns.set r x,s.row,[],[],0)->Lh H mt (.ref sa) k a M U ns row (i+1) [some (.ref mt),some (.ref sa),some (.int k),some (.int a),some (.ref B),some (.ref N),some (.ref G),some (.ref I),some (.int 0),some (.ref pa),some (.ref D)] (upd S B (.lst ((s.ns.map V.int).set r (.int x)))):=λr x E=>by
   have t6:cj S (upd S B (.lst ((s.ns.map V.int).set r (.int x)))):=(cj.refl _).upd λys e=>by rw[L]at e;cases e
   exact Z _ N zs _ _ _ _ 0 E (λb o e=>by rw[av (ao e a1)];calc oJ _ _ e) a2 n1 n4 n5 (by rw[ab,List.map_set]) (by rw[av (Ne.symm n1)];calc X) (by rw[av (Ne.symm n2)];calc O) (by rw[List.append_nil];calc vX.aG t6) (by rw[av (Ne.symm n3),List.append_nil];calc R)
  have L9:=uQ Jm tQ;clear Jm tQ Y BR BS;have My:∀r:Nat,((r:Nat):Int)<ns.length->zf (s.ns.map V.int).length ((r:Nat):Int)=some r/\ip (s.ns.map V.int) ((r:Nat):Int)=some (.int (s.ns.getD r 0)):=λr hj=>⟨gT (by rw[List.length_map];lia),gU ()⟩
  cases L9 with
  |set r u hj ha hl E=>
   have BN:=gU (ws:=ws) (j:=0) ();obtain⟨x1,x2⟩:=My r hj;walk_at "jg";refine cM _ r L x1 ?_;exact zZ _ _ (E _ _ _ _ _)
  |add r u hj ha hl E=>
   have BN:=gU (ws:=ws) (j:=0) ();obtain⟨x1,x2⟩:=My r hj;walk_at "jg";refine⟨Jh,?_⟩;walk_at "jg";refine cM _ r L x1 ?_;exact zZ _ _ (E _ _ _ _ _)
  |times r u hj ha hl E=>
   have BN:=gU (ws:=ws) (j:=0) ();obtain⟨x1,x2⟩:=My r hj;walk_at "jg";have g:=BL Je (j:=r) ();refine⟨.inl ⟨(),()⟩,?_⟩;walk_at "jg";refine⟨Jh,?_⟩;walk_at "jg";refine cM _ r L x1 ?_;exact zZ _ _ (E _ _ _ _ _)
  |put u ha hl E=>
   obtain⟨g,aaA⟩:=Z8 (kd.trans hl);walk_at "jg";refine .inl ⟨_,_,X,bx,S' (aA (by simp;lia)),λg AV=>?_⟩;have s6:=aq.new (.lst (s.row.map V.int++ws.map V.int)) AV;walk_at "jg";refine .inl ⟨_,ab,λl3 Jn=>?_⟩;have s7:=aq.new (.lst (dG (s.row.map V.int++ws.map V.int) none (some 12))) Jn;have g:=s6.trans s7;have f3:S l3=none:=s6.free Jn;exact Z _ l3 zs _ _ _ _ 0 (E _ _ _ _ _) (oJ.trans g) (oJ.free f3) (ao L f3) (Ne.symm (ao O f3)) (Ne.symm (ao R f3)) (g _ _ L) (by rw[ab,aaA];exact congrArg (λz=>some (HO.lst z)) (Li ym)) (g _ _ O) (by rw[List.append_nil];exact vX.aG g.aM) (by rw[List.append_nil];exact g _ _ R)
  |drop ha E=>
   walk_at "jg";refine .inl ⟨_,X,λl3 Jn=>?_⟩;have s7:=aq.new (.lst (dG (s.row.map V.int) (some 1) none)) Jn;exact Z _ l3 zs _ _ _ _ 0 (E _ _ _ _ _) (oJ.trans s7) (oJ.free Jn) (ao L Jn) (Ne.symm (ao O Jn)) (Ne.symm (ao R Jn)) (s7 _ _ L) (by rw[ab,Vl,List.map_tail]) (s7 _ _ O) (by rw[List.append_nil];exact vX.aG s7.aM) (by rw[List.append_nil];exact s7 _ _ R)
  |send j u ha hl E=>
   have BN:=gU (ws:=ws) (j:=0) ();walk_at "jg";refine⟨.inl ⟨rfl,_,aP.of O⟩,?_⟩;walk_at "jg";refine⟨dH,λtp Jl=>?_⟩;have s6:=aq.new (.tup [.int j,.int (ws.getD 0 0)]) Jl;walk_at "jg";refine gJ _ (s6 _ _ O) (aaI (by have:=DJ.1;lia) (aA (n:=100) ())) ?_;have t6:cj (upd S tp (.tup [.int j,.int (ws.getD 0 0)])) (upd (upd S tp (.tup [.int j,.int (ws.getD 0 0)])) G (.lst (zs++[.ref tp]))):=(cj.refl _).upd λys e=>by rw[s6 _ _ O]at e;cases e
   have q6:∀b o,b≠G->S b=some o->upd (upd S tp (.tup [.int j,.int (ws.getD 0 0)])) G (.lst (zs++[.ref tp])) b=some o:=λb o ne e=>by rw[av ne];exact s6 _ _ e
   calc Z _ N _ _ _ _ _ 0 (E _ _ _ _ _) (λb o e=>q6 b o (ao e a3) (oJ _ _ e)) a2 n1 n4 n5 (q6 _ _ n2 L) (q6 _ _ n4 X) ab ((vX.aG (s6.aM.trans t6)).snoc (dg (n:=0) (t6 _ _ ab) (.int _) (.int _))) (by rw[List.append_nil];calc q6 _ _ (Ne.symm n6) R)
  |say u ha hl E=>
   have BN:=gU (ws:=ws) (j:=0) ();walk_at "jg";refine⟨.inl ⟨rfl,_,aP.of R⟩,?_⟩;walk_at "jg";refine gJ _ R (aaI (by simp;lia) (aA (n:=100) ())) ?_;have t6:cj S (upd S I (.lst (s.words.map V.int++[.int (ws.getD 0 0)]))):=(cj.refl _).upd λys e=>by rw[R]at e;cases e
   have q6:∀b o,b≠I->S b=some o->upd S I (.lst (s.words.map V.int++[.int (ws.getD 0 0)])) b=some o:=λb o ne e=>by rw[av ne];exact e
   calc Z _ N zs _ _ _ _ 0 (E _ _ _ _ _) (λb o e=>q6 b o (ao e a4) (oJ _ _ e)) a2 n1 n4 n5 (q6 _ _ n3 L) (q6 _ _ n5 X) (q6 _ _ n6 O) (by rw[List.append_nil];calc vX.aG t6) (by rw[ab,List.map_append];rfl)
  |skip u v kk ha hl E=>
   have BN:=gU (ws:=ws) (j:=0) ();have g:=gU (ws:=ws) (j:=1) ();have E:=E M s.ns s.row (ws.getD 0 0) (ws.getD 1 0);walk_at "jg";by_cases Lj:ws.getD 0 0<ws.getD 1 0
   ·rw[if_pos Lj]at E;walk_at "j";rw[if_pos (decide_eq_true Lj)];walk_at "jg";exact Z _ N zs _ _ _ _ kk E oJ a2 n1 n4 n5 L X O (by rw[List.append_nil];exact vX) (by rw[List.append_nil];exact R)
   ·rw[if_neg Lj]at E;walk_at "j";rw[if_neg λz=>Lj (of_decide_eq_true z)];walk_at "jg";exact Z _ N zs _ _ _ _ 0 E oJ a2 n1 n4 n5 L X O (by rw[List.append_nil];exact vX) (by rw[List.append_nil];exact R)
 ·intro σ H1 xT;obtain⟨B,N,G,I,zs,z9,qR,l,s,rfl,sH,a1,a2,a3,a4,n1,n2,n3,n4,n5,n6,L,X,O,DJ,R,Ji,Je,ym,DK,X3,Y⟩:=xT;rw[exs,List.drop_length] at Y;have Y:s=nN M k a U ns row:=by rw[<-Y];cases l <;> rfl
  walk_at "j";refine .inl ⟨_,aP.of L,λt1 xS=>?_⟩;have r1:=aq.new (.tup (s.ns.map V.int)) xS;walk_at "j";refine .inl ⟨_,aP.of (r1 _ _ X),λt2 qj=>?_⟩;have r2:=aq.new (.tup (s.row.map V.int)) qj;walk_at "j";refine⟨dH,λt3 xV=>?_⟩;have r3:=aq.new (.tup [.ref t1,.ref t2]) xV;walk_at "j";refine⟨by show 3<=sizeLine;decide,λa i=>?_⟩;have g:=aq.new (.tup [.ref t3,.ref G,.ref I]) i;have a:=r1.trans (r2.trans (r3.trans g));refine q _ _ (sH.trans a) ⟨_,_,G,I,zs,rfl,ab,?_,a _ _ O,?_,?_,a3,a4,n6⟩
  ·rw[<-Y];exact(dg ab (nK (r3 _ _ (r2 _ _ ab))) (nK (r3 _ _ ab))).aG g.aM
  ·rw[<-Y];exact DJ.aG a.aM
  ·rw[<-Y];calc a _ _ R
def lY(n:Nat->Nat)(ad:Nat->Nat->Addr)(t:Nat):List V:=(List.range (n t)).map λi=>V.ref (ad t i)
theorem yp{n:Nat->Nat}{t:Nat}:(lY n ad t).length=n t:=by simp[lY]
theorem aZ{n:Nat->Nat}{t i:Nat}(h:i<n t):ip (lY n ad t) (i:Int)=some (.ref (ad t i)):=ax (by simp[lY,h])
def BX(ba:V)(p:Addr)(o:Nat->Addr):List (Str×V):=[("own_net",ba),("picks_done",.ref p),("states_had",.ref (o 1)),("words_had",.ref (o 2)),("words_said",.ref (o 3)),("letters_say",.ref (o 4)),("senders",.ref (o 5)),("workers",.ref (o 6))]
section
variable {ba:V}{p:Addr}{o:Nat->Addr}
theorem pG:(BX ba p o).lookup ("own_net":Str)=some ba:=by kernel_rfl
theorem Vm:(BX ba p o).lookup ("picks_done":Str)=some (.ref p):=by kernel_rfl
theorem GX:(BX ba p o).lookup ("states_had":Str)=some (.ref (o 1)):=by kernel_rfl
theorem aaB:(BX ba p o).lookup ("words_had":Str)=some (.ref (o 2)):=by kernel_rfl
theorem Vn:(BX ba p o).lookup ("words_said":Str)=some (.ref (o 3)):=by kernel_rfl
theorem Ll:(BX ba p o).lookup ("letters_say":Str)=some (.ref (o 4)):=by kernel_rfl
theorem Vo:(BX ba p o).lookup ("senders":Str)=some (.ref (o 5)):=by kernel_rfl
theorem GY:(BX ba p o).lookup ("workers":Str)=some (.ref (o 6)):=by kernel_rfl
end
structure sx(C CN:Addr)(H:Hp)(ba:Addr)(nt:NT):Prop where
 ex:∃ms wv lv,kK CN H ba ms wv lv/\ms.length=nt.ms.length/\(∀(i:Nat) m d,ms[i]?=some m->nt.ms[i]?=some d->RC C H m d)/\gw H 1 wv (nt.ws.map lN)
 ok:nt.Ok
theorem RC.fr{C:Addr}{d:MD}(f:Fr Z H H')(h:RC C H m d):RC C H' m d:=by
 obtain⟨a,st,dd,b,c,e⟩:=h;calc⟨a,st,dd,f.lM b id,c.aG f.aM,e.aG f.aM⟩
theorem kK.fr{CN:Addr}{x:Addr}(f:Fr Z H H')(h:kK CN H x ms wv lv):kK CN H' x ms wv lv:=by
 obtain⟨d,a,b,c,e,g,i,j⟩:=h;calc⟨d,a,b,c,f.lM e id,f.lM g id,f.lM i id,f.lM j id⟩
theorem sx.fr{C CN:Addr}{nt:NT}(f:Fr Z H H')(h:sx C CN H ba nt):sx C CN H' ba nt:=by
 obtain⟨⟨ms,wv,lv,c,e,g,j⟩,k⟩:=h;calc⟨⟨ms,wv,lv,c.fr f,e,λi m d a b=>(g i m d a b).fr f,j.aG f.aM⟩,k⟩
structure bJ(C CN CR:Addr)(F:Addr->Prop)(H:Hp)(x ba:Addr)(nt:NT)(r:RS)(ad:Nat->Nat->Addr):Prop where
 ins:∃dx o,H x=some (.ins CR dx (BX (.ref ba) (ad 0 0) o))/\∀t,1<=t->t<=6->H (o t)=some (.lst (lY nt.n ad t))/\¬F (o t)/\¬FP nt.n ad (o t)
 bN:dz F H nt.n ad r.ct
 DN:sx C CN H ba nt
section
variable {C CN CR:Addr}{F:Addr->Prop}{H H':Hp}{x ba:Addr}{nt:NT}{r:RS}{ad:Nat->Nat->Addr}
theorem bJ.keep(h:bJ C CN CR F H x ba nt r ad)(f:Fr F H H'):bJ C CN CR F H' x ba nt r ad:=by
 obtain⟨⟨d,o,e,c⟩,g,i⟩:=h;calc⟨⟨d,o,f.lM e id,λt a b=>⟨f.at (c t a b).1 (c t a b).2.1,(c t a b).2⟩⟩,g.keep f,i.fr f⟩
theorem bJ.same(h:bJ C CN CR F H x ba nt r ad)(s:aq H H'):bJ C CN CR F H' x ba nt r ad:=h.keep s.fr
theorem bJ.own{c:RS}(h:bJ C CN CR F H x ba nt r ad)(f:Fr (FP nt.n ad) H H')(b:dz F H' nt.n ad c.ct):bJ C CN CR F H' x ba nt c ad:=by
 obtain⟨⟨d,o,e,c⟩,i,g⟩:=h;calc⟨⟨d,o,f.lM e id,λt a b=>⟨f.at (c t a b).1 (c t a b).2.2,(c t a b).2⟩⟩,b,g.fr f⟩
end
abbrev iS:Stmt:=(b8 (top 48)).getD 6 (.Pass ⟨0,0,0,0⟩)
def sy(nt:NT)(e j:Nat):Int:=if e=0 then(nt.w j).1 else(nt.w j).2.1
def tS(nt:NT)(e m:Nat):List Nat:=(List.range nt.ws.length).filter λj=>decide (sy nt e j=m)
def Ad(C CN:Addr):Sp:=λvs H Q _=>∃(x:Addr) (nt:NT) (m e:Nat),vs=[.ref x,.int m,.int e]/\sx C CN H x nt/\m<nt.ms.length/\e<2/\∀l H',aq H H'->H l=none->H' l=some (.lst ((tS nt e m).map λi=>.int (i:Nat)))->Q (.ref l) H'
theorem tU(D:gG K CN "ways_at" "Net.ways_at" iS ["self","m","end"])(T:Tx K mg C CN CR F FD)(S:Def P w K mg base "is_within" 2 ["thing","low","beyond"] bY):ck P w K mg base CN "ways_at" 3 ["self","m","end"] (Ad C CN):=by
 have sc:aB ["self","m","end"] ["self","m","end"] (ay iS):=by walk_at "s"
 symm;obtain⟨x,d,m,e,rfl,z,B,I,q⟩:=h;have I:=hr.units;refine⟨_,(ag (aT (cb (bA (aJ S hr (af (au 1) (af ai (af (bg aN rfl T.cm W' (af (bF (au 0) rfl) aa)) aa)))))) (ak cP) aI)
  (ak (aE (dy (N':=["number","way","m","end"]) (ix:=[none,none,some 1,some 2]) (jB rfl T.dE (af (bF (au 0) rfl) aa)) (λ_ _ _ _=>(lH (K:=K) rfl (i:=0) (j:=1) rfl (show(["number","way","m","end"]:List Str).Nodup by decide +kernel) rfl rfl Sort Sort)) (λ_ _ _ _=>(jA (az (nU (K:=K) rfl I) (fA (K:=K) rfl I (au 1) (au 3)) (au 2) (aH _)))) (λ_ _ _ _=>(au 0)))))),?_⟩
 nofun;obtain⟨⟨ms,wv,lv,U,W,I,L⟩,X⟩:=id z;obtain⟨Y,a,b,I,M,Z,l,S⟩:=id U;ac_rfl;walk_at "j";refine⟨x,CN,Y,_,_,rfl,M,T.cD,T.xN,Vf,_,.inr ⟨_,bz.of Z,rfl⟩,?_⟩;refine e9 (.int m) _ 0 _ rfl (.int _) ?_;rw[show inR 0 (((ms.map V.ref).length:Nat):Int) (.int (m:Int))=true by simp[inR,W,B]];refine zJ ?_;rw[if_neg ∅];walk_at "j";refine bL ?_;walk_at "j";refine fv M T.cD T.xO Vg ?_;walk_at "j";refine F7 false wv (Sq.t l) (λD r=>?_);have kd:wv.length=d.ws.length:=by simpa using L.1
 have x:=X.F6;refine bq (J:=OZ false K b) (n:=wv.length) (λi ys H'=>aq H H'/\ys=((List.range i).filter λj=>decide (sy d e j=m)).map λj=>V.int (j:Nat)) (S' (aA ())) ⟨aq.new _ r,rfl⟩ ?_ ?_ ?_ ?_
 ·rintro i ys H' u ⟨g,_⟩;exact⟨wv,wv[i],Sq.t (g _ _ l),cy u⟩
 ·rintro ys H' ⟨g,_⟩;exact⟨wv,Sq.t (g _ _ l),rfl⟩
 ·intro i ys H' u p N ir xx H4 iu;nofun;obtain⟨g,rfl⟩:=ir;obtain⟨t,ht,rfl,y⟩:=iu;obtain⟨k,ex,rfl⟩:=y wv (Sq.t (g _ _ l));have x:i < d.ws.length:=by lia
  have o:=(L.2 i k (lN (d.w i)) ex (by rw[List.getElem?_map,show d.ws[i]?=some (d.w i) from aY x];rfl)).aG g.aM;have v:=aq.new (.tup [.int (i:Nat),k]) ht
  replace o:=o.aG v.aM
  have qj:upd H' t (.tup [.int (i:Nat),k]) t=some (.tup [.int (i:Nat),k]):=ab;have O:=v _ _ p;have R:=g.trans v;generalize hG:upd H' t (.tup [.int (i:Nat),k])=G at *;obtain⟨ta,u1,u2,u3,kk,rfl,tW,g1,g2,g3⟩:=bT o;obtain rfl:=g1.cB;obtain rfl:=g2.cB;obtain rfl:=g3.cI;ac_rfl;calc wD (bz.of qj) ⟨Ext.set (Ext.set (Ext.refl _) rfl) rfl,?_⟩;walk_at "j";have Vp:ip [V.int (d.w i).1,V.int (d.w i).2.1,V.str (d.w i).2.2] (e:Int)=some (.int (sy d e i)):=by
   have:e=0\/e=1:=by lia
   rcases this with rfl|rfl
   ·exact ax (j:=0) rfl
   ·exact ax (j:=1) rfl
  calc cX tW Vp ?_;walk_at "j";have k:(List.range (i+1)).filter (λj=>decide (sy d e j=m))=(List.range i).filter (λj=>decide (sy d e j=m))++(if sy d e i=m then[i] else[]):=by
   rw[List.range_succ,List.filter_append];congr 1;by_cases z:sy d e i=m<;>simp[z]
  by_cases z:sy d e i=m
  ·rw[if_pos (by simp[z])];calc cn O N u (S' (aA ())) ⟨λc o e=>by rw[av (ao e r)];calc R _ _ e,?_⟩;rw[k,if_pos z,List.map_append];rfl
  ·rw[if_neg (by simp[z])];exact⟨_,O,(),R,by rw[k,if_neg z,List.append_nil]⟩
 ·rintro ys H' p N ⟨g,rfl⟩;rw[kd]at p;calc q _ _ g r p
abbrev gW:Stmt:=(b8 (top 48)).getD 4 (.Pass ⟨0,0,0,0⟩)
def ql(C CN:Addr):Sp:=λvs H Q _=>∃(x:Addr) (nt:NT) (m:Nat),vs=[.ref x,.int m]/\sx C CN H x nt/\m<nt.ms.length/\∀l H',aq H H'->H l=none->H' l=some (.lst ((tS nt 0 m).map λi=>.int (i:Nat)))->Q (.ref l) H'
theorem sC(D:gG K CN "ways_out" "Net.ways_out" gW ["self","m"])(T:Tx K mg C CN CR F FD)(g:ck P w K mg base CN "ways_at" 3 ["self","m","end"] (Ad C CN)):ck P w K mg base CN "ways_out" 4 ["self","m"] (ql C CN):=by
 have sc:aB ["self","m"] ["self","m"] (ay gW):=by walk_at "s"
 symm;obtain⟨x,d,m,rfl,c,e,q⟩:=h;have k:=hr.units;refine⟨_,(ak (aE (eW g T.cD hr (au 0) (af (au 1) (af ai aa))))),?_⟩;nofun;obtain⟨⟨ms,wv,lv,i,k,l,n⟩,o⟩:=id c;obtain⟨g,a,b,k,j,l,n,o⟩:=id i;ac_rfl;walk_at "j";refine gm j (eB ⋯ ⋯ ⋯) ?_;exact⟨x,d,m,0,rfl,c,e,∅,q⟩
abbrev iT:Stmt:=(b8 (top 48)).getD 5 (.Pass ⟨0,0,0,0⟩)
def sD(C CN:Addr):Sp:=λvs H Q _=>∃(x:Addr) (nt:NT) (m:Nat),vs=[.ref x,.int m]/\sx C CN H x nt/\m<nt.ms.length/\∀l H',aq H H'->H l=none->H' l=some (.lst ((tS nt 1 m).map λi=>.int (i:Nat)))->Q (.ref l) H'
theorem tX(D:gG K CN "ways_in" "Net.ways_in" iT ["self","m"])(T:Tx K mg C CN CR F FD)(g:ck P w K mg base CN "ways_at" 3 ["self","m","end"] (Ad C CN)):ck P w K mg base CN "ways_in" 4 ["self","m"] (sD C CN):=by
 have sc:aB ["self","m"] ["self","m"] (ay iT):=by walk_at "s"
 symm;obtain⟨x,d,m,rfl,c,e,q⟩:=h;have k:=hr.units;refine⟨_,(ak (aE (eW g T.cD hr (au 0) (af (au 1) (af ai aa))))),?_⟩;nofun;obtain⟨⟨ms,wv,lv,i,k,l,n⟩,o⟩:=id c;obtain⟨g,a,b,k,j,l,n,o⟩:=id i;ac_rfl;walk_at "j";refine gm j (eB ⋯ ⋯ ⋯) ?_;exact⟨x,d,m,1,rfl,c,e,∅,q⟩
def FS(F:Addr->Prop)(H:Hp):Prop:=∀b,F b->∃o,H b=some o/\soft o
theorem FS.fr{F:Addr->Prop}(h:FS F H)(f:Fr Z H H')(hz:∀b,F b->¬Z b):FS F H':=λb a=>by
 obtain⟨o,e,s⟩:=h b a;calc⟨o,f.at e (hz b a),s⟩
theorem _root_.DD.dz.vZ{F:Addr->Prop}{n:Nat->Nat}{ct:Nat->Nat->CO}(h:dz F H n ad ct):∀b,F b->¬FP n ad b:=λb a ⟨t,i,c,e⟩=>h.out t i c (e▸a)
theorem small{n:Nat}(h:n<=20000):n<sizeLine:=by rw[sizeLine_eq];lia
theorem Qc{r:RS}{n:NT}{w:Nat}{x:Int}{s:Option (Int×Int)}:∀t i,i<n.n t->setC (setC (setC r.ct 4 w (.l ((r.ww w).say.map .int++[.int x]))) 5 w (.l ((r.ww w).snd.map ni++[ni s]))) 6 w (.l ((r.ww w).eC.map ni++[.bC])) t i=(r.put w x s).ct t i:=by
 intro t i a;unfold setC
 match t,a with
 |0,_=>simp[RS.ct,RS.put]
 |1,_=>simp[RS.ct,RS.put]
 |2,_=>simp[RS.ct,RS.put]
 |3,_=>simp[RS.ct,RS.put]
 |4,_=>by_cases e:i=w<;>simp[RS.ct,RS.put,e]
 |5,_=>by_cases e:i=w<;>simp[RS.ct,RS.put,e]
 |6,_=>by_cases e:i=w<;>simp[RS.ct,RS.put,e,ni]
 |(t+7),a=>calc absurd a (Nat.not_lt_zero i)
abbrev fX:Stmt:=(b8 (top 50)).getD 1 (.Pass ⟨0,0,0,0⟩)
inductive BY(C CN CR:Addr)(vs:List V)(H:Hp)(Q:VK):Prop
 |mk (F:Addr->Prop) (x ba:Addr) (nt:NT) (r:RS) (ad:Nat->Nat->Addr) (wy:Nat) (said:Int) (sv:V) (s:Option (Int×Int)) (h0:vs=[.ref x,.int (wy:Nat),.int said,sv]) (h1:bJ C CN CR F H x ba nt r ad) (h2:FS F H) (h3:wy<nt.ws.length) (h4:HT H 4 sv (ni s)) (h5:r.sZ nt 19999) (h6:∀H',Fr (FP nt.n ad) H H'->bJ C CN CR F H' x ba nt (r.put wy said s) ad->Q .bC H'):BY C CN CR vs H Q
def sF(C CN CR:Addr):Sp:=λvs H Q _=>BY C CN CR vs H Q
theorem pH(D:gG K CR "put_letter" "Run.put_letter" fX ["self","way","said","sender"])(T:Tx K mg C CN CR F FD):ck P w K mg base CR "put_letter" 1 ["self","way","said","sender"] (sF C CN CR):=by
 have sc:aB ["self","way","said","sender"] ["self","way","said","sender"] (ay fX):=by walk_at "s"
 symm;obtain⟨F,x,ba,g,r,ad,a,c,y,s,rfl,j,O,b,R,k,q⟩:=h;have o:=hr.units;refine⟨_,(ag (bP (cY oE qH qI bZ (aj o (bF (au 0) rfl) (au 1)) (af (au 2) aa)))
  (ag (bP (cY oE qH qI bZ (aj o (bF (au 0) rfl) (au 1)) (af (au 3) aa)))
  (ak (bP (cY oE qH qI bZ (aj o (bF (au 0) rfl) (au 1)) (af kg aa)))))),?_⟩
 nofun;obtain⟨x,o,z,d⟩:=j.ins;have B:=j.bN;have W:=(d 4 ∅ ∅).1;have X:=(d 5 ∅ ∅).2.2;have Y:=(d 6 ∅ ∅).2.2;have o:=k.bs a b;have o:=k.ls a b;have o:=k.lk a b;obtain⟨l,m,o⟩:=B.lst (t:=4) (i:=a) b rfl;ac_rfl;have k:l.length=(r.ww a).say.length:=by simpa using o.1
 walk_at "j";refine fv z T.aS T.bV Ll ?_;walk_at "j";refine bt W (aZ b) ?_;refine⟨.inl ⟨rfl,_,aP.of m⟩,?_⟩;walk_at "j";refine gJ l m (small ()) ?_;have G:=B.app (t:=4) (i:=a) b rfl m (eJ.one (.int c));have e:Fr (FP g.n ad) H (upd H (ad 4 a) (.lst (l++[.int c]))):=Fr.refl.upd ⟨4,a,b,rfl⟩ m trivial;generalize X6:upd H (ad 4 a) (.lst (l++[.int c]))=S at *;walk_at "j";have Z:=e.lM z id;have I:=e.at (d 5 ∅ ∅).1 X;obtain⟨p,u,c⟩:=G.lst (t:=5) (i:=a) b rfl;have k:p.length=(r.ww a).snd.length:=by simpa using c.1
 have J:=O.fr e B.vZ;walk_at "j";refine fv Z T.aS T.eN Vo ?_;walk_at "j";refine bt I (aZ b) ?_;refine⟨.inl ⟨rfl,_,aP.of u⟩,?_⟩;walk_at "j";refine gJ p u (small ()) ?_;have U:=G.app (t:=5) (i:=a) b rfl u (eJ.one (G.ht J (R.aG e.aM)));have L:Fr (FP g.n ad) H (upd S (ad 5 a) (.lst (p++[y]))):=e.upd ⟨5,a,b,rfl⟩ u trivial;generalize Ja:upd S (ad 5 a) (.lst (p++[y]))=G2 at *;walk_at "j";have DA:=L.lM z id;have M:=L.at (d 6 ∅ ∅).1 Y;obtain⟨N,v,c⟩:=U.lst (t:=6) (i:=a) b rfl;have d:N.length=(r.ww a).eC.length:=by simpa using c.1
 walk_at "j";refine fv DA T.aS T.cT GY ?_;walk_at "j";refine bt M (aZ b) ?_;refine⟨.inl ⟨rfl,_,aP.of v⟩,?_⟩;walk_at "j";refine gJ N v (small ()) ?_;have d:=U.app (t:=6) (i:=a) b rfl v (eJ.one (.bC));have c:Fr (FP g.n ad) H (upd G2 (ad 6 a) (.lst (N++[.bC]))):=L.upd ⟨6,a,b,rfl⟩ v trivial;exact q _ c (j.own c (d.congr Qc))
abbrev fc:Stmt:=(b8 (top 50)).getD 2 (.Pass ⟨0,0,0,0⟩)
def G8(C CN CR:Addr):Sp:=λvs H Q _=>∃(F:Addr->Prop) (x ba:Addr) (nt:NT) (r:RS) (ad:Nat->Nat->Addr) (m:Nat),vs=[.ref x,.int m]/\bJ C CN CR F H x ba nt r ad/\m<nt.ms.length/\Q .bC H
theorem mF(D:gG K CR "need_machine" "Run.need_machine" fc ["self","m"])(T:Tx K mg C CN CR F FD)(d:Def P w K mg base "is_within" 2 ["thing","low","beyond"] bY):ck P w K mg base CR "need_machine" 3 ["self","m"] (G8 C CN CR):=by
 have sc:aB ["self","m"] ["self","m"] (ay fc):=by walk_at "s"
 symm;obtain⟨F,x,ba,a,r,ad,m,rfl,b,c,q⟩:=h;have k:=hr.units;refine⟨_,(ak (aT (cb (bA (aJ d hr (af (au 1) (af ai (af (bg aN rfl T.cm W' (af (bF (au 0) rfl) aa)) aa)))))) (ak cP) aI)),?_⟩;obtain⟨e,o,g,i⟩:=b.ins;have j:=(i 1 ∅ ∅).1;walk_at "j";refine⟨x,CR,e,_,_,rfl,g,T.aS,T.bU,GX,_,.inl ⟨_,aP.of j,rfl⟩,?_⟩;refine e9 (.int m) _ 0 _ rfl (.int _) ?_;rw[yp];rw[show inR 0 ((a.n 1:Nat):Int) (.int (m:Int))=true by simp[inR];exact c];refine zJ ?_;rw[if_neg ∅];walk_at "j";exact q
abbrev gX:Stmt:=(b8 (top 50)).getD 4 (.Pass ⟨0,0,0,0⟩)
def ME(C CN CR:Addr):Sp:=λvs H Q _=>∃(F:Addr->Prop) (x ba:Addr) (nt:NT) (r:RS) (ad:Nat->Nat->Addr) (m:Nat) (a:V),vs=[.ref x,.int m,a]/\bJ C CN CR F H x ba nt r ad/\m<nt.ws.length/\Q .bC H
theorem sI(D:gG K CR "need_way" "Run.need_way" gX ["self","way","at"])(T:Tx K mg C CN CR F FD)(e:Def P w K mg base "is_within" 2 ["thing","low","beyond"] bY):ck P w K mg base CR "need_way" 3 ["self","way","at"] (ME C CN CR):=by
 have sc:aB ["self","way","at"] ["self","way","at"] (ay gX):=by walk_at "s"
 symm;obtain⟨F,x,ba,b,r,ad,m,a,rfl,c,d,q⟩:=h;have l:=hr.units;refine⟨_,(ak (aT (cb (bA (aJ e hr (af (au 1) (af ai (af (bg aN rfl T.cm W' (af (bF (au 0) rfl) aa)) aa)))))) (ak cP) aI)),?_⟩;obtain⟨g,o,i,j⟩:=c.ins;have k:=(j 4 ∅ ∅).1;walk_at "j";refine⟨x,CR,g,_,_,rfl,i,T.aS,T.bV,Ll,_,.inl ⟨_,aP.of k,rfl⟩,?_⟩;refine e9 (.int m) _ 0 _ rfl (.int _) ?_;rw[yp];rw[show inR 0 ((b.n 4:Nat):Int) (.int (m:Int))=true by simp[inR];exact d];refine zJ ?_;rw[if_neg ∅];walk_at "j";exact q
abbrev fH:Stmt:=(b8 (top 50)).getD 5 (.Pass ⟨0,0,0,0⟩)
theorem fI{ba:V}{o:Nat->Addr}(h:f∉(["own_net","picks_done","states_had","words_had","words_said","letters_say","senders","workers"]:List Str)):(BX ba p o).lookup f=none:=by
 simp only[List.mem_cons,List.not_mem_nil,or_false,not_or]at h;unfold BX;simp[List.lookup,beq_eq_false_iff_ne.mpr h.1,beq_eq_false_iff_ne.mpr h.2.1,beq_eq_false_iff_ne.mpr h.2.2.1,beq_eq_false_iff_ne.mpr h.2.2.2.1,beq_eq_false_iff_ne.mpr h.2.2.2.2.1,beq_eq_false_iff_ne.mpr h.2.2.2.2.2.1,beq_eq_false_iff_ne.mpr h.2.2.2.2.2.2.1,beq_eq_false_iff_ne.mpr h.2.2.2.2.2.2.2]
def BZ(C CN CR:Addr):Sp:=λvs H Q _=>∃(F:Addr->Prop) (x ba:Addr) (nt:NT) (r:RS) (ad:Nat->Nat->Addr) (m k:Nat) (a:V),vs=[.ref x,.int m,.int k,a]/\bJ C CN CR F H x ba nt r ad/\m<nt.ws.length/\k<(r.ww m).say.length/\Q .bC H
theorem og(D:gG K CR "need_letter" "Run.need_letter" fH ["self","way","number","at"])(T:Tx K mg C CN CR F FD)(j:Def P w K mg base "is_within" 2 ["thing","low","beyond"] bY)(l:ck P w K mg base CR "need_way" 3 ["self","way","at"] (ME C CN CR)):ck P w K mg base CR "need_letter" 4 ["self","way","number","at"] (BZ C CN CR):=by
 have sc:aB ["self","way","number","at"] ["self","way","number","at"] (ay fH):=by walk_at "s"
 symm;obtain⟨F,x,ba,d,r,ad,m,k,a,rfl,b,c,n,q⟩:=h;have n:=hr.units;refine⟨_,(ag (bP (eW l T.aS hr (au 0) (af (au 1) (af (au 3) aa))))
  (ak (aT (cb (bA (aJ j hr (af (au 2) (af ai (af (bg aN rfl T.cm W' (af (aj n (bF (au 0) rfl) (au 1)) aa)) aa)))))) (ak cP) aI))),?_⟩
 nofun;obtain⟨l,o,e,j⟩:=b.ins;have p:=(j 4 ∅ ∅).1;obtain⟨g,u,l⟩:=b.bN.lst (t:=4) (i:=m) c rfl;ac_rfl;have j:g.length=(r.ww m).say.length:=by simpa using l.1
 walk_at "j";refine gm e (fI ⋯) ?_;refine⟨_,x,ba,d,r,ad,m,_,rfl,b,c,?_⟩;walk_at "j";refine fv e T.aS T.bV Ll ?_;walk_at "j";refine bt p (aZ c) ?_;refine bI _ (.inl ⟨_,aP.of u,rfl⟩) ?_;refine e9 (.int k) _ 0 _ rfl (.int _) ?_;rw[show inR 0 ((g.length:Nat):Int) (.int (k:Int))=true by simp[inR];lia];refine zJ ?_;rw[if_neg ∅];walk_at "j";exact q
structure _root_.DD.RS.Jo(nt:NT)(r:RS)(w k:Nat):Prop where
 lt:w<nt.ws.length
 lies:(r.ww w).eC[k]?=some none
 row:(nt.w w).2.2="row"->0<k->∃e,(r.ww w).eC[k-1]?=some (some e)
theorem Ae{n:Nat}{v:V}(h:HD H n v (ni none)):v=.bC:=by
 have h:HD H n v .bC:=h
 cases h;rfl
theorem qS{H:Hp}{n:Nat}{v:V}{e:Int×Int}(h:HD H n v (ni (some e))):∃a,v=.ref a/\H a=some (.tup [.int e.1,.int e.2]):=by
 have h:HD H n v (.tup [.int e.1,.int e.2]):=h
 cases h with
 | @tup n a b _ e l i=>
  match b,l,e,i with
  | [u,v],_,e,i=>
   have c:=i 0 u _ rfl rfl;have d:=i 1 v _ rfl rfl;obtain rfl:=c.cB;obtain rfl:=d.cB;calc⟨a,rfl,e⟩
theorem uU{H:Hp}{n:Nat}{v:V}{e:Option (Int×Int)}(h:HD H n v (ni e)):HT H 1 v (ni e):=by
 cases e with
 |none=>rw[Ae h];calc .bC
 |some e=>obtain⟨a,rfl,b⟩:=qS h;calc dg b (.int _) (.int _)
theorem oh{vs:List V}{v:V}(h:1<=vs.length)(e:vs[vs.length-1]?=some v):ip vs (-1)=some v:=by
 obtain⟨ys,z,rfl⟩:∃ys z,vs=ys++[z]:=⟨vs.dropLast,vs.getLast (by intro a;rw[a]at h;simp at h),(List.dropLast_concat_getLast _).symm⟩
 rw[kx];simpa using e
abbrev gy:Stmt:=(b8 (top 50)).getD 6 (.Pass ⟨0,0,0,0⟩)
def MG(C CN CR:Addr):Sp:=λvs H Q _=>∃(F:Addr->Prop) (x ba:Addr) (nt:NT) (r:RS) (ad:Nat->Nat->Addr) (m k:Nat) (a:V),vs=[.ref x,.int m,.int k,a]/\bJ C CN CR F H x ba nt r ad/\r.Ok nt/\r.Jo nt m k/\∀H',aq H H'->Q .bC H'
theorem qA(D:gG K CR "need_pick" "Run.need_pick" gy ["self","way","number","at"])(T:Tx K mg C CN CR F FD)(o:ck P w K mg base CN "ways" 1 ["self"] (oe CN))(Y:ck P w K mg base CR "need_letter" 4 ["self","way","number","at"] (BZ C CN CR)):ck P w K mg base CR "need_pick" 5 ["self","way","number","at"] (MG C CN CR):=by
 have sc:aB ["self","way","number","at","sort"] ["self","way","number","at"] (ay gy):=by walk_at "s"
 symm;obtain⟨F,x,ba,c,r,ad,m,k,a,rfl,n,O,u,q⟩:=h;have b:=hr.units;refine⟨_,(ag (bP (eW Y T.aS hr (au 0) (af (au 1) (af (au 2) (af (au 3) aa)))))
  (ag (aT (az oV (aj b (aj b (bF (au 0) rfl) (au 1)) (au 2)) kg (aH _)) (ak cP) aI)
  (ag (aR (i:=4) sc.nd rfl Sort (aj b (aj b (eS o T.cD hr (bF (au 0) rfl)) (au 1)) ai))
  (ak (aT (PW.pt (pw_and (az (aU b) (au 4) aC (aH _)) (pw_and (az oT (au 2) ai (aH _)) (pw_and1 (az Fp (aj b (aj b (bF (au 0) rfl) (au 1)) (aW eX (au 2) ai)) kg (aH _)))))) (ak cP) aI))))),?_⟩
 nofun;obtain⟨Y,o,y,b⟩:=n.ins;obtain⟨⟨ms,wv,lv,R,o,Y,S⟩,aO⟩:=n.DN;have U:=(b 6 ∅ ∅).1;have g:=u.lt;obtain⟨Z,W,X⟩:=n.bN.lst (t:=6) (i:=m) g rfl;have b:=u.lies;have B0:k<(r.ww m).eC.length:=(List.getElem?_eq_some_iff.mp b).1;obtain⟨v,ev,dv⟩:=X.get (i:=k) (d:=ni none) (by rw[List.getElem?_map,b];rfl);have:=Ae dv;subst this;ac_rfl;walk_at "j";refine gm y (fI ⋯) ?_;refine⟨_,x,ba,c,r,ad,m,k,a,rfl,n,g,by rw[O.lk m g];exact B0,?_⟩;walk_at "j";refine fv y T.aS T.cT GY ?_;walk_at "j";refine bt U (aZ g) ?_;refine bt W (ax ev) ?_;walk_at "j"
 try rw[if_neg ∅]
 walk_at "j";refine fv y T.aS T.cE pG ?_;obtain⟨b,n,o,x,g1,O,Y,g4⟩:=id R;walk_at "j";refine gm g1 (eB ⋯ ⋯ ⋯) ?_;refine e9 ba ms wv lv rfl R (λl b=>?_);have p:=aq.new (.lst wv) b;have el:upd H l (.lst wv) l=some (.lst wv):=ab;generalize hG:upd H l (.lst wv)=G at *;walk_at "j";have b:c.ws[m]?=some (c.w m):=aY g;have l:m<wv.length:=by have:=S.1;simp at this;lia
 have DO:=(S.2 m wv[m] (lN (c.w m)) nofun (by rw[List.getElem?_map,b];rfl)).aG p.aM;nofun;obtain⟨ta,l,n,o,x,B,tW,q1,q2,q3⟩:=bT DO;obtain rfl:=q1.cB;obtain rfl:=q2.cB;obtain rfl:=q3.cI;ac_rfl;calc bt el (ax (j:=m) (v:=.ref ta) (by rw[<-B];simp)) ?_;calc cX tW (ax (j:=2) rfl) ?_;walk_at "j";have DA:=p _ _ y;have I:=p _ _ U;have J:=p _ _ W;have L:=q _ p;have b:=u.row;by_cases z:(c.w m).2.2="row"
 ·by_cases c:0 < k
  ·nofun;obtain⟨e,he⟩:=b z c;obtain⟨l,M,N⟩:=X.get (i:=k - 1) (d:=ni (some e)) (by rw[List.getElem?_map,he];rfl);obtain⟨ae,rfl,b⟩:=qS N;ac_rfl;rw[if_pos (by simp[z]),if_pos (by simp;lia)];refine fv DA T.aS T.cT GY ?_;walk_at "j";refine bt I (aZ g) ?_;refine bt J (show ip Z ((k:Int) - 1)=some (.ref ae) from by rw[show(k:Int) - 1=((k - 1:Nat):Int) by lia];exact ax M) ?_;walk_at "j"
   try rw[if_neg ∅]
   walk_at "j";exact L
  ·rw[if_pos (by simp[z]),if_neg (by simp;lia),if_neg ∅];walk_at "j";exact L
 ·rw[if_neg (by simp[z]),if_neg ∅];walk_at "j";exact L
abbrev kM:Stmt:=(b8 (top 50)).getD 11 (.Pass ⟨0,0,0,0⟩)
theorem MH{H:Hp}{n:Nat}{v:V}{s:List Int×List Int}(h:HD H n v (rQ s)):HT H 2 v (xt s.1 s.2):=by
 have h:HD H n v (.tup [.tup (s.1.map .int),.tup (s.2.map .int)]):=h
 cases h with
 | @tup n a c _ e l i=>
  match c,l,e,i with
  | [u,v],_,e,i=>
   have d:=i 0 u _ rfl rfl;have f:=i 1 v _ rfl rfl;have b:∀{n:Nat} {u:V} {ns:List Int},HD H n u (.tup (ns.map .int))->HT H 1 u (.tup (ns.map .int)):=λ{n u ns} h=>by
    cases h with
    | @tup n a c _ e l i=>exact nK (n:=0) (by rw[e,show c=ns.map V.int from eJ.rO ⟨l,i⟩])
   calc dg e (b d) (b f)
def MI(C CN CR:Addr):Sp:=λvs H Q _=>∃(F:Addr->Prop) (x ba:Addr) (nt:NT) (r:RS) (ad:Nat->Nat->Addr) (m:Nat),vs=[.ref x,.int m]/\bJ C CN CR F H x ba nt r ad/\r.Ok nt/\m<nt.ms.length/\∀v,HT H 2 v (xt ((r.mm m).fN.bE ([],[])).1 ((r.mm m).fN.bE ([],[])).2)->Q v H
theorem yq(D:gG K CR "state" "Run.state" kM ["self","m"])(T:Tx K mg C CN CR F FD)(k:ck P w K mg base CR "need_machine" 3 ["self","m"] (G8 C CN CR)):ck P w K mg base CR "state" 4 ["self","m"] (MI C CN CR):=by
 have sc:aB ["self","m"] ["self","m"] (ay kM):=by walk_at "s"
 symm;obtain⟨F,x,ba,c,r,ad,m,rfl,b,e,a,q⟩:=h;have g:=hr.units;refine⟨_,(ag (bP (eW k T.aS hr (au 0) (af (au 1) aa)))
  (ak (aE (aj g (aj g (bF (au 0) rfl) (au 1)) (lQ iJ ai))))),?_⟩
 nofun;obtain⟨g,o,j,k⟩:=b.ins;have l:=(k 1 ∅ ∅).1;obtain⟨n,p,g⟩:=b.bN.lst (t:=1) (i:=m) a rfl;have u:n.length=(r.mm m).fN.length:=by simpa using g.1
 have y:=e.zG a;obtain⟨v,z,B⟩:=g.get (i:=(r.mm m).fN.length-1) (d:=rQ ((r.mm m).fN.bE ([],[]))) (by rw[List.getElem?_map,nQ (d:=([],[])) y];rfl);ac_rfl;walk_at "j";refine gm j (fI ⋯) ?_;refine⟨_,x,ba,c,r,ad,m,rfl,b,a,?_⟩;walk_at "j";refine fv j T.aS T.bU GX ?_;walk_at "j";refine bt l (aZ a) ?_;refine bt p (oh () (by rw[u];exact z)) ?_;exact q _ (MH (B.cv dJ))
abbrev kN:Stmt:=(b8 (top 50)).getD 10 (.Pass ⟨0,0,0,0⟩)
def Ha(C CN CR:Addr):Sp:=λvs H Q _=>∃(F:Addr->Prop) (x ba:Addr) (nt:NT) (r:RS) (ad:Nat->Nat->Addr) (m:Nat),vs=[.ref x,.int m]/\bJ C CN CR F H x ba nt r ad/\m<nt.ms.length/\Q (.int (((r.mm m).fN.length:Nat)-1)) H
theorem yr(D:gG K CR "count" "Run.count" kN ["self","m"])(T:Tx K mg C CN CR F FD)(e:ck P w K mg base CR "need_machine" 3 ["self","m"] (G8 C CN CR)):ck P w K mg base CR "count" 4 ["self","m"] (Ha C CN CR):=by
 have sc:aB ["self","m"] ["self","m"] (ay kN):=by walk_at "s"
 symm;obtain⟨F,x,ba,c,r,ad,m,rfl,a,b,q⟩:=h;have g:=hr.units;refine⟨_,(ag (bP (eW e T.aS hr (au 0) (af (au 1) aa)))
  (ak (aE (aW eX (bg aN rfl T.cm W' (af (aj g (bF (au 0) rfl) (au 1)) aa)) ai)))),?_⟩
 nofun;obtain⟨g,o,d,e⟩:=a.ins;have j:=(e 1 ∅ ∅).1;obtain⟨g,k,l⟩:=a.bN.lst (t:=1) (i:=m) b rfl;ac_rfl;have n:g.length=(r.mm m).fN.length:=by simpa using l.1
 walk_at "j";refine gm d (fI ⋯) ?_;refine⟨_,x,ba,c,r,ad,m,rfl,a,b,?_⟩;walk_at "j";refine fv d T.aS T.bU GX ?_;walk_at "j";refine bt j (aZ b) ?_;refine bI _ (.inl ⟨_,aP.of k,rfl⟩) ?_;walk_at "j";rw[n];exact q
abbrev g9:Stmt:=(b8 (top 50)).getD 15 (.Pass ⟨0,0,0,0⟩)
def Hb(C CN CR:Addr):Sp:=λvs H Q _=>∃(F:Addr->Prop) (x ba:Addr) (nt:NT) (r:RS) (ad:Nat->Nat->Addr),vs=[.ref x]/\bJ C CN CR F H x ba nt r ad/\∀l a,H l=none->eJ H 4 a (r.picks.map pairD)->Q (.ref l) (upd H l (.lst a))
theorem sJ(D:gG K CR "schedule" "Run.schedule" g9 ["self"])(T:Tx K mg C CN CR F FD):ck P w K mg base CR "schedule" 1 ["self"] (Hb C CN CR):=by
 have sc:aB ["self"] ["self"] (ay g9):=by walk_at "s"
 symm;obtain⟨F,x,ba,b,r,ad,rfl,a,q⟩:=h;have b:=hr.units;refine⟨_,(ak (aE (cQ cf rfl T.dX ke (af (bF (au 0) rfl) aa)))),?_⟩;nofun;obtain⟨b,o,c,g⟩:=a.ins;obtain⟨b,d,e⟩:=a.bN.lst (t:=0) (i:=0) (by show 0<1;decide) rfl;ac_rfl;walk_at "j";refine fv c T.aS T.cJ Vm ?_;walk_at "j";refine bI _ (.inl (aP.of d)) (λl a=>?_);exact q l _ a (e.cv dJ)
abbrev pI:Stmt:=(b8 (top 50)).getD 8 (.Pass ⟨0,0,0,0⟩)
def v7(C CN CR:Addr):Sp:=λvs H Q _=>∃(F:Addr->Prop) (x ba:Addr) (nt:NT) (r:RS) (ad:Nat->Nat->Addr),vs=[.ref x]/\bJ C CN CR F H x ba nt r ad/\Q (.ref ba) H
theorem DP(D:gG K CR "net" "Run.net" pI ["self"])(T:Tx K mg C CN CR F FD):ck P w K mg base CR "net" 1 ["self"] (v7 C CN CR):=by
 have sc:aB ["self"] ["self"] (ay pI):=by walk_at "s"
 symm;obtain⟨F,x,ba,b,r,ad,rfl,a,q⟩:=h;have b:=hr.units;refine⟨_,(ak (aE (bF (au 0) rfl))),?_⟩;obtain⟨b,o,c,d⟩:=a.ins;walk_at "j";refine fv c T.aS T.cE pG ?_;exact q
theorem sL{w:Nat}:∀{l:List Nat},w∈l->l[l.idxOf w]?=some w/\∀i y,i<l.idxOf w->l[i]?=some y->y≠w
 | [],h=>by simp at h
 |a::r,h=>by
  by_cases e:a=w
  ·subst e;rw[List.idxOf_cons_self];exact⟨rfl,λi y c=>absurd c (Nat.not_lt_zero i)⟩
  ·have hr:w∈r:=by
    rcases List.mem_cons.mp h with h|h
    ·exact absurd h.symm e
    ·exact h
   obtain⟨d,g⟩:=sL hr;have j:(a::r).idxOf w=r.idxOf w+1:=by rw[List.idxOf_cons,beq_eq_false_iff_ne.mpr e];rfl
   rw[j];refine⟨by simpa using d,λi y c b=>?_⟩
   cases i with
   |zero=>simp at b;subst b;calc e
   |succ i=>calc g i y () (by simpa using b)
theorem qT{nt:NT}(h:nt.Ok){w:Nat}(a:w<nt.ws.length):(nt.w w).2.1=((nt.goal w:Nat):Int):=by
 have:=h.wy a;unfold NT.goal;lia
theorem Hc{nt:NT}(h:nt.Ok){w:Nat}(a:w<nt.ws.length):w∈tS nt 1 (nt.goal w):=by
 unfold tS;rw[List.mem_filter];calc⟨List.mem_range.mpr a,?_⟩;rw[decide_eq_true_eq];calc qT h a
theorem oj{nt:NT}(h:nt.Ok){w:Nat}(a:w<nt.ws.length):(tS nt 1 (nt.goal w)).idxOf w=nt.place w:=by
 unfold NT.place;rw[qT h a];rfl
theorem uV{l:List Nat}:(l.map λi=>V.int (i:Nat))=(l.map λi=>((i:Nat):Int)).map V.int:=by simp[List.map_map]
theorem Lm{r:RS}{n:NT}{w k:Nat}:∀t i,i<n.n t->setC (setC (setC (setC (setC r.ct 0 0 (.l (r.picks.map pairD++[pairD ((w:Int),(k:Int))]))) 6 w (.l (((r.ww w).eC.map ni).set k (ni (some (n.ev r w)))))) 1 (n.goal w) (.l ((r.mm (n.goal w)).fN.map rQ++[rQ ((n.work r w k).ns,(n.work r w k).row)]))) 3 (n.goal w) (.l (((r.mm (n.goal w)).wp.bE []).map .int++(n.work r w k).words.map .int))) 2 (n.goal w) (.l (((r.mm (n.goal w)).wp.map λu=>DV.int (u.length:Nat))++[.int ((((r.mm (n.goal w)).wp.bE []++(n.work r w k).words).length:Nat))])) t i=(r.step n w k).ct t i:=by
 intro t i a;unfold setC
 match t,a with
 |0,a=>
  have:i=0:=by have:i<1:=a;lia
  subst this;simp[RS.ct,RS.step]
 |1,_=>by_cases e:i=n.goal w<;>simp[RS.ct,RS.step,e]
 |2,_=>by_cases e:i=n.goal w<;>simp[RS.ct,RS.step,e]
 |3,_=>by_cases e:i=n.goal w<;>simp[RS.ct,RS.step,e,rP]
 |4,_=>by_cases e:i=w<;>simp[RS.ct,RS.step,e]
 |5,_=>by_cases e:i=w<;>simp[RS.ct,RS.step,e]
 |6,_=>by_cases e:i=w<;>simp[RS.ct,RS.step,e,List.map_set]
 |(t+7),a=>calc absurd a (Nat.not_lt_zero i)
theorem B1{nt:NT}(d:nt.Ok)(h:r.Ok nt){w k:Nat}(f:w<nt.ws.length):∀a c,some (nt.ev r w)=some (a,c)->0<=a/\a<nt.ms.length/\1<=c/\c<=((r.step nt w k).mm a.toNat).hr.length:=by
 have b:=d.jD f;intro a c e
 cases e;refine⟨(),(),?_,?_⟩
 ·have:=h.zG b;lia
 ·have d:(r.step nt w k).mm (nt.goal w)=⟨(r.mm (nt.goal w)).fN++[((nt.work r w k).ns,(nt.work r w k).row)],(r.mm (nt.goal w)).wp++[(r.mm (nt.goal w)).wp.bE []++(nt.work r w k).words],(r.mm (nt.goal w)).hr++[nt.gH r w k]⟩:=if_pos rfl;rw[show((nt.goal w:Nat):Int).toNat=nt.goal w from Int.toNat_natCast _,d,h.lh _ b];simp
theorem pJ{outs:List Nat}{ev:Int×Int}:∀(a:List (Int×Int)) {r:RS}{p:Int×Int},r.send outs ev (a++[p])=(r.send outs ev a).send outs ev [p]
 | [],r,p=>rfl
 |q::a,r,p=>pJ a
structure BF(F:Addr->Prop)(n:Nat->Nat)(ad:Nat->Nat->Addr)(A B H:Hp)(ct:Nat->Nat->CO):Prop where
 b:dz F H n ad ct
 f:Fr (FP n ad) A H
 g:Fr (FP n ad) B H
section
variable {F:Addr->Prop}{n:Nat->Nat}{ad:Nat->Nat->Addr}{A B H H':Hp}{ct:Nat->Nat->CO}
theorem BF.same(h:BF F n ad A B H ct)(s:aq H H'):BF F n ad A B H' ct:=⟨h.b.same s,h.f.trans s.fr,h.g.trans s.fr⟩
theorem BF.app(h:BF F n ad A B H ct){t i:Nat}(a:i<n t){d:List DV}(e:ct t i=.l d){vs:List V}(c:H (ad t i)=some (.lst vs)){us:List V}{es:List DV}(g:eJ (iq (λb=>F b\/FP n ad b) H) 4 us es):BF F n ad A B (upd H (ad t i) (.lst (vs++us))) (setC ct t i (.l (d++es))):=⟨h.b.app a e c g,h.f.upd ⟨t,i,a,rfl⟩ c trivial,h.g.upd ⟨t,i,a,rfl⟩ c trivial⟩
end
abbrev iU:Stmt:=(b8 (top 50)).getD 7 (.Pass ⟨0,0,0,0⟩)
inductive Hd(C CN CR:Addr)(vs:List V)(H:Hp)(Q:VK):Prop
 |mk (F:Addr->Prop) (x ba:Addr) (nt:NT) (r:RS) (ad:Nat->Nat->Addr) (wy k:Nat) (a:V) (h0:vs=[.ref x,.int (wy:Nat),.int (k:Nat),a]) (h1:bJ C CN CR F H x ba nt r ad) (h2:FS F H) (h3:r.Ok nt) (h4:r.Jo nt wy k) (h5:r.picks.length<=400) (h6:∀t H',Fr (FP nt.n ad) H H'->bJ C CN CR F H' x ba nt (r.pick nt wy k) ad->HT H' 1 t (pairD (nt.ev r wy))->Q t H'):Hd C CN CR vs H Q
def v8(C CN CR:Addr):Sp:=λvs H Q _=>Hd C CN CR vs H Q
theorem tY(D:gG K CR "pick_at" "Run.pick_at" iU ["self","way","number","at"])(T:Tx K mg C CN CR F FD)(fY:ck P w K mg base C "worked" 3 ["self","state","way","said"] (uS K C))(bo:ck P w K mg base CN "machines" 1 ["self"] (fG CN))(cU:ck P w K mg base CN "ways" 1 ["self"] (oe CN))(iV:ck P w K mg base CN "ways_in" 4 ["self","m"] (sD C CN))(hV:ck P w K mg base CN "ways_out" 4 ["self","m"] (ql C CN))(gz:ck P w K mg base CR "need_pick" 5 ["self","way","number","at"] (MG C CN CR))(cN:ck P w K mg base CR "put_letter" 1 ["self","way","said","sender"] (sF C CN CR))(kO:ck P w K mg base CR "state" 4 ["self","m"] (MI C CN CR)):ck P w K mg base CR "pick_at" 6 ["self","way","number","at"] (v8 C CN CR):=by
 have sc:aB ["self","way","number","at","m","place","machine","state","sent","words","event","ways_out","j","said"] ["self","way","number","at"] (ay iU):=by walk_at "s"
 symm;obtain⟨F,x,ba,m,r,ad,B,k,a,rfl,J,j8,L,hc,o,q⟩:=h;have o:=hr.units;refine⟨_,(ag (bP (eW gz T.aS hr (au 0) (af (au 1) (af (au 2) (af (au 3) aa)))))
  (ag (aR (i:=4) sc.nd rfl Sort (aj o (aj o (eS cU T.cD hr (bF (au 0) rfl)) (au 1)) ai))
  (ag (aR (i:=5) sc.nd rfl Sort (cY oE PySem.F.slot_list_index PySem.F.type_list_index uD (eW iV T.cD hr (bF (au 0) rfl) (af (au 4) aa)) (af (au 1) aa)))
  (ag (aR (i:=6) sc.nd rfl Sort (aj o (eS bo T.cD hr (bF (au 0) rfl)) (au 4)))
  (ag (dU (eW fY T.cC hr (au 6) (af (eW kO T.aS hr (au 0) (af (au 4) aa)) (af (au 5) (af (aj o (aj o (bF (au 0) rfl) (au 1)) (au 2)) aa)))) (xE (i:=7) (j:=8) (l:=9) rfl sc.nd rfl rfl rfl Sort Sort Sort))
  (ag (aR (i:=10) sc.nd rfl Sort (bD (af (au 4) (af (bg aN rfl T.cm W' (af (aj o (bF (au 0) rfl) (au 4)) aa)) aa))))
  (ag (bP (cY oE qH qI bZ (bF (au 0) rfl) (af (bD (af (au 1) (af (au 2) aa))) aa)))
  (ag (dU (au 10) (fO (aj o (bF (au 0) rfl) (au 1)) (au 2) cL))
  (ag (bP (cY oE qH qI bZ (aj o (bF (au 0) rfl) (au 4)) (af (au 7) aa)))
  (ag (bP (cY oE PySem.F.slot_list_extend PySem.F.type_list_extend Kj (aj o (bF (au 0) rfl) (au 4)) (af (au 9) aa)))
  (ag (bP (cY oE qH qI bZ (aj o (bF (au 0) rfl) (au 4)) (af (bg aN rfl T.cm W' (af (aj o (bF (au 0) rfl) (au 4)) aa)) aa)))
  (ag (aR (i:=11) sc.nd rfl Sort (eW hV T.cD hr (bF (au 0) rfl) (af (au 4) aa)))
  (ag (df PassesOwn.never rfl (bS (pv 8)) (eZ (i:=12) (j:=13) rfl sc.nd rfl rfl Sort Sort)
  (ak (aT (az gu (au 12) (bg aN rfl T.cm W' (af (au 11) aa)) (aH _)) (ak (bP (eW cN T.aS hr (au 0) (af (aj o (au 11) (au 12)) (af (au 13) (af (au 10) aa)))))) aI)))
  (ak (aE (au 10)))))))))))))))),?_⟩
 nofun;obtain⟨dx,o,M,ho⟩:=J.ins;have hn:=J.DN;have S:=hn.ok;obtain⟨⟨ms,wv,lv,hf,o,wI,Jp⟩,_⟩:=id hn;obtain⟨o,a1,b1,c1,g1,g2,g3,g4⟩:=id hf;ac_rfl;walk_at "j";refine gm M (fI ⋯) ?_;refine⟨_,x,ba,m,r,ad,B,k,a,rfl,J,L,hc,λH1 s1=>?_⟩;nofun;have I:=hc.lt;have G:=S.jD I;obtain⟨o,wk2,wk3,wk4⟩:=qO S L I k;ac_rfl;walk_at "j";refine fv (s1 _ _ M) T.aS T.cE pG ?_;walk_at "j";refine gm (s1 _ _ g1) (eB ⋯ ⋯ ⋯) ?_;refine e9 ba ms wv lv rfl (hf.same s1) (λl o=>?_);have s2:aq H (upd H1 l (.lst wv)):=s1.trans (aq.new _ o);have el:upd H1 l (.lst wv) l=some (.lst wv):=ab;nofun;generalize Ja:upd H1 l (.lst wv)=H2 at *;have o:m.ws[B]?=some (m.w B):=aY I;have kd:B<wv.length:=by have:=Jp.1;simp at this;lia
 have DO:=(Jp.2 B wv[B] (lN (m.w B)) nofun (by rw[List.getElem?_map,o];rfl)).aG s2.aM;obtain⟨ta,u1,u2,u3,kk,eta,tW,q1,q2,q3⟩:=bT DO;obtain rfl:=q1.cB;obtain rfl:=q2.cB;obtain rfl:=q3.cI;ac_rfl;walk_at "j";refine bt el (ax (j:=B) (v:=.ref ta) (by rw[<-eta];simp)) ?_;refine cX tW (show ip _ 1=some (.int ((m.goal B:Nat):Int)) from by rw[<-qT S I];exact ax (j:=1) rfl) ?_;walk_at "j";refine fv (s2 _ _ M) T.aS T.cE pG ?_;walk_at "j";refine gm (s2 _ _ g1) (eB ⋯ ⋯ ⋯) ?_;refine⟨ba,m,m.goal B,rfl,hn.fr (Z:=λ_=>False) s2.fr,G,λl2 H3 X7 o Vr=>?_⟩;have s3:=s2.trans X7;refine⟨.inl ⟨rfl,_,aP.of Vr⟩,?_⟩;obtain⟨o,ix2⟩:=sL (Hc S I);refine⟨l2,_,m.place B,B,rfl,rfl,by rw[Vr,uV],?_,?_,?_⟩
 ·rw[List.getElem?_map,<-oj S I,o];rfl
 ·intro i y hi hy;rw[List.getElem?_map]at hy;obtain⟨z,hz,rfl⟩:=Option.map_eq_some_iff.mp hy;have:=ix2 i z (by rw[oj S I];calc hi) hz;lia
 walk_at "j";refine fv (s3 _ _ M) T.aS T.cE pG ?_;walk_at "j";refine gm (s3 _ _ g1) (eB ⋯ ⋯ ⋯) ?_;refine e9 ba ms wv lv rfl (hf.same s3) (λl4 o=>?_);have U:aq H (upd H3 l4 (.lst (ms.map V.ref))):=s3.trans (aq.new _ o);have el4:upd H3 l4 (.lst (ms.map V.ref)) l4=some (.lst (ms.map V.ref)):=ab;generalize RJ:upd H3 l4 (.lst (ms.map V.ref))=H4 at *;have Mz:m.goal B<ms.length:=by lia
 have o:m.ms[m.goal B]?=some (m.ms.getD (m.goal B) default):=aY G;have B2:=(wI (m.goal B) ms[m.goal B] _ (cy Mz) o).same U;have Ln:=S.gd G;walk_at "j";refine bt el4 (ax (j:=m.goal B) (v:=.ref ms[m.goal B]) (by rw[List.getElem?_map,cy Mz];rfl)) ?_;walk_at "j";nofun;generalize ms[m.goal B]=mch at *;obtain⟨dm,o,y,xZ,hm2,hm3⟩:=id B2;ac_rfl;refine gm xZ (BG ⋯ ⋯ ⋯) ?_;refine gm (U _ _ M) (fI ⋯) ?_;refine⟨_,x,ba,m,r,ad,m.goal B,rfl,J.same U,L,G,λsv RI=>?_⟩;have l4':=U _ _ (ho 4 ∅ ∅).1;nofun;obtain⟨o,e4,d4⟩:=(J.bN.same U).lst (t:=4) (i:=B) I rfl;have z4:=d4.rO;subst z4;ac_rfl;have B0:k<(r.ww B).say.length:=by rw[L.lk B I];exact(List.getElem?_eq_some_iff.mp hc.lies).1
 walk_at "j";refine fv (U _ _ M) T.aS T.bV Ll ?_;walk_at "j";refine bt l4' (aZ I) ?_;refine bt e4 (ax (j:=k) (v:=.int ((r.ww B).say.getD k 0)) (by rw[List.getElem?_map,aY (d:=0) B0];rfl)) ?_;have o:=L.last G;refine⟨mch,sv,_,_,_,_,_,_,_,_,rfl,B2,xy.of RI,Ln.m2,Ln.ZC,o.bn,o.lr,Ln.XU,by rw[o.ln];exact Ln.ok,λy W X8 Qd=>?_⟩;have s5:=U.trans X8;nofun;obtain⟨rp,Jq,RK,MJ,zs,rfl,hrp,Af,Qe,n0,Ag,fl1,aaL,o⟩:=Qd.ex
 replace Af:HT W 2 Jq (xt (m.work r B k).ns (m.work r B k).row):=Af
 replace n0:SL W zs (m.work r B k).cA:=n0
 replace Ag:W MJ=some (.lst ((m.work r B k).words.map V.int)):=Ag
 ac_rfl;refine un3 (bz.of hrp) ?_;walk_at "j";refine fv (s5 _ _ M) T.aS T.bU GX ?_;have b5:=J.bN.same s5;have i0:0<m.n 0:=by show 0<1;decide
 obtain⟨o,e1,d1⟩:=b5.lst (t:=1) (i:=m.goal B) G rfl;have z1:o.length=(r.mm (m.goal B)).fN.length:=by simpa using d1.1
 walk_at "j";refine bt (s5 _ _ (ho 1 ∅ ∅).1) (aZ G) ?_;refine gJ _ (.inl ⟨_,aP.of e1,rfl⟩) dH (λev o=>?_);rw[z1];have s6:aq H (upd W ev (.tup [.int ((m.goal B:Nat):Int),.int (((r.mm (m.goal B)).fN.length:Nat):Int)])):=s5.trans (aq.new _ o);have s56:aq W (upd W ev (.tup [.int ((m.goal B:Nat):Int),.int (((r.mm (m.goal B)).fN.length:Nat):Int)])):=aq.new _ o;have aaO:HT (upd W ev (.tup [.int ((m.goal B:Nat):Int),.int (((r.mm (m.goal B)).fN.length:Nat):Int)])) 1 (.ref ev) (pairD (m.ev r B)):=dg (n:=0) ab (.int _) (.int _);generalize Mv:upd W ev (.tup [.int ((m.goal B:Nat):Int),.int (((r.mm (m.goal B)).fN.length:Nat):Int)])=H6 at *;have b6:=J.bN.same s6;walk_at "j";refine fv (s6 _ _ M) T.aS T.cJ Vm ?_;obtain⟨v0,e0,d0⟩:=b6.lst (t:=0) (i:=0) i0 rfl;have o:v0.length=r.picks.length:=by simpa using d0.1
 walk_at "j";refine gI (.inl ⟨rfl,_,aP.of e0⟩) dH (λtp Jl=>?_);walk_at "j";have s7:aq H (upd H6 tp (.tup [.int ((B:Nat):Int),.int ((k:Nat):Int)])):=s6.trans (aq.new _ Jl);have wH:aq H6 (upd H6 tp (.tup [.int ((B:Nat):Int),.int ((k:Nat):Int)])):=aq.new _ Jl;have aaP:HT (upd H6 tp (.tup [.int ((B:Nat):Int),.int ((k:Nat):Int)])) 1 (.ref tp) (pairD ((B:Int),(k:Int))):=dg (n:=0) ab (.int _) (.int _);generalize Vs:upd H6 tp (.tup [.int ((B:Nat):Int),.int ((k:Nat):Int)])=H7 at *;have b7:=J.bN.same s7;have FS7:FS F H7:=j8.fr (Z:=λ_=>False) s7.fr (λ_ _ h=>h);have e07:=wH _ _ e0;have RL:=s56.trans wH;refine gJ v0 e07 (small ()) ?_;have R:=(BF.mk b7 s7.fr (Fr.refl:Fr (FP m.n ad) H7 H7)).app (t:=0) (i:=0) i0 rfl e07 (eJ.one ((b7.ht FS7 aaP).mono ∅));generalize Ya:upd H7 (ad 0 0) (.lst (v0++[.ref tp]))=H8 at *;have o6:=ho 6 ∅ ∅;have o1:=ho 1 ∅ ∅;have o2:=ho 2 ∅ ∅;have o3:=ho 3 ∅ ∅;walk_at "j";refine fv (R.f.lM M id) T.aS T.cT GY ?_;obtain⟨v6,e6,d6⟩:=R.b.lst (t:=6) (i:=B) I rfl;have o:v6.length=(r.ww B).eC.length:=by simpa using d6.1
 have hk6:k<v6.length:=by rw[o,<-L.lk B I];exact B0
 walk_at "j";refine bt (R.f.at o6.1 o6.2.2) (aZ I) ?_;walk_at "j";refine cM v6 k e6 (gT hk6) ?_;have Vt:=aaO.aG wH.aM;have X:=BF.mk (R.b.set (t:=6) (i:=B) I rfl e6 (k:=k) ((R.b.ht (j8.fr R.f J.bN.vZ) (Vt.aG R.g.aM)).mono ∅)) (R.f.upd ⟨6,B,I,rfl⟩ e6 trivial) (R.g.upd ⟨6,B,I,rfl⟩ e6 trivial);generalize hG9:upd H8 (ad 6 B) (.lst (v6.set k (.ref ev)))=H9 at *;walk_at "j";refine fv (X.f.lM M id) T.aS T.bU GX ?_;obtain⟨Y,e19,d19⟩:=X.b.lst (t:=1) (i:=m.goal B) G rfl;have o:Y.length=(r.mm (m.goal B)).fN.length:=by simpa using d19.1
 have o:=L.bp _ G;walk_at "j";refine bt (X.f.at o1.1 o1.2.2) (aZ G) ?_;refine⟨.inl ⟨rfl,_,aP.of e19⟩,?_⟩;walk_at "j";refine gJ Y e19 (small ()) ?_;have Fi:=X.app (t:=1) (i:=m.goal B) G rfl e19 (eJ.one (show HD _ 4 Jq (rQ ((m.work r B k).ns,(m.work r B k).row)) from(X.b.ht (j8.fr X.f J.bN.vZ) ((Af.aG RL.aM).aG X.g.aM)).mono ∅));have He:¬FP m.n ad RK:=λz=>by
  obtain⟨u,e,_⟩:=(J.bN.same U).fp z;rw[fl1]at e;cases e
 have Qf:¬FP m.n ad MJ:=λz=>by
  obtain⟨u,e,_⟩:=(J.bN.same U).fp z;rw[aaL]at e;cases e
 generalize Vu:upd H9 (ad 1 (m.goal B)) (.lst (Y++[Jq]))=Er at *;walk_at "j";refine fv (Fi.f.lM M id) T.aS T.cK Vn ?_;obtain⟨v3,e3,d3⟩:=Fi.b.lst (t:=3) (i:=m.goal B) G rfl;have o:=d3.rO;have y:=L.bw _ G _ (gK (l:=(r.mm (m.goal B)).wp) (d:=[]) (by rw[<-L.lw _ G];exact L.zG G));have l:v3.length=((r.mm (m.goal B)).wp.bE []).length:=by rw[o];simp
 walk_at "j";refine bt (Fi.f.at o3.1 o3.2.2) (aZ G) ?_;refine⟨.inl ⟨rfl,_,aP.of e3⟩,?_⟩;walk_at "j";refine tI v3 _ e3 (Fi.g.at (RL _ _ Ag) Qf) (S' (small (by simp;lia))) ?_;have uy:=Fi.app (t:=3) (i:=m.goal B) G rfl e3 (eJ.ints (m.work r B k).words);have aaT:upd Er (ad 3 (m.goal B)) (.lst (v3++(m.work r B k).words.map V.int)) (ad 3 (m.goal B))=some (.lst (v3++(m.work r B k).words.map V.int)):=ab;generalize Vv:upd Er (ad 3 (m.goal B)) (.lst (v3++(m.work r B k).words.map V.int))=Yb at *;walk_at "j";refine fv (uy.f.lM M id) T.aS T.dO aaB ?_;obtain⟨v2,e2,d2⟩:=uy.b.lst (t:=2) (i:=m.goal B) G rfl;have l:v2.length=(r.mm (m.goal B)).wp.length:=by simpa using d2.1
 have l:=L.lw _ G;walk_at "j";refine bt (uy.f.at o2.1 o2.2.2) (aZ G) ?_;refine⟨.inl ⟨rfl,_,aP.of e2⟩,?_⟩;walk_at "j";refine fv (uy.f.lM M id) T.aS T.cK Vn ?_;walk_at "j";refine bt (uy.f.at o3.1 o3.2.2) (aZ G) ?_;refine bI _ (.inl ⟨_,aP.of aaT,rfl⟩) ?_;walk_at "j";refine gJ v2 e2 (small ()) ?_;rw[show(v3++(m.work r B k).words.map V.int).length=((r.mm (m.goal B)).wp.bE []++(m.work r B k).words).length by simp;lia];have yP:=uy.app (t:=2) (i:=m.goal B) G rfl e2 (eJ.one (.int (((r.mm (m.goal B)).wp.bE []++(m.work r B k).words).length:Nat)));generalize Vw:upd Yb (ad 2 (m.goal B)) (.lst (v2++[.int (((r.mm (m.goal B)).wp.bE []++(m.work r B k).words).length:Nat)]))=Vx at *;have Vy:bJ C CN CR F Vx x ba m (r.step m B k) ad:=J.own yP.f (yP.b.congr Lm);have Vz:SL Vx zs (m.work r B k).cA:=(n0.aG RL.aM).aG yP.g.aM;have nY:=yP.g.at (RL _ _ Qe) He;have VA:=Vt.aG yP.g.aM;have Yc:=yP.f;clear b5 b6 b7 R X Fi uy yP d0 d1 d2 d3 d4 d6 d19 Ya hG9 Vu Vv Vw;walk_at "j";refine fv (Yc.lM M id) T.aS T.cE pG ?_;walk_at "j";refine gm (Yc.lM g1 id) (eB ⋯ ⋯ ⋯) ?_;refine⟨ba,m,m.goal B,rfl,hn.fr Yc,G,λlo Qg uT flo elo=>?_⟩;have nlo:¬FP m.n ad lo:=λz=>by
  obtain⟨u,e,_⟩:=Vy.bN.fp z;rw[flo]at e;cases e
 walk_at "j";have l:=Vy.same uT;have o:=uT _ _ nY;have MK:=VA.aG uT.aM;have ML:=Vz.aG uT.aM;have hzl:zs.length=(m.work r B k).cA.length:=ML.1;have f13:=Yc.trans uT.fr;have Qh:=L.step S I (k:=k);have Qi:∀a c,some (m.ev r B)=some (a,c)->0<=a/\a<m.ms.length/\1<=c/\c<=((r.step m B k).mm a.toNat).hr.length:=B1 S L I;refine⟨_,rfl,.inl ⟨⟨_,aP.of o⟩,eU (K:=K) (xs:=zs) (λi σ H'=>(∃Qj Qk,σ=[some (V.ref x),some (V.int ((B:Nat):Int)),some (V.int ((k:Nat):Int)),some a,some (V.int ((m.goal B:Nat):Int)),some (V.int ((m.place B:Nat):Int)),some (V.ref mch),some Jq,some (V.ref RK),some (V.ref MJ),some (V.ref ev),some (V.ref lo),Qj,Qk])/\Fr (FP m.n ad) Qg H'/\bJ C CN CR F H' x ba m ((r.step m B k).send (m.outs (m.goal B)) (m.ev r B) ((m.work r B k).cA.take i)) ad) ?_ ?_ ?_ ?_⟩⟩
 ·exact⟨⟨_,_,rfl⟩,Fr.refl,l⟩
 ·rintro i σ H' hi ⟨_,N,_⟩;exact aP.of (N.at o He)
 ·intro i z σ H' hz ir;nofun;obtain⟨⟨Qj,Qk,rfl⟩,N,tf⟩:=ir;have l:i < zs.length:=(List.getElem?_eq_some_iff.mp hz).1;have l:i < (m.work r B k).cA.length:=by lia
  have o:(m.work r B k).cA[i]?=some (m.work r B k).cA[i]:=cy l;have Ql:=wk4 _ (aae l);have Qm:=(ML.2 i z _ hz o).aG N.aM;have Lo:(r.step m B k).send (m.outs (m.goal B)) (m.ev r B) ((m.work r B k).cA.take (i+1))=((r.step m B k).send (m.outs (m.goal B)) (m.ev r B) ((m.work r B k).cA.take i)).send (m.outs (m.goal B)) (m.ev r B) [(m.work r B k).cA[i]]:=by
   rw[List.take_succ,o];exact pJ _
  generalize (m.work r B k).cA[i]=p at *;obtain⟨O,px⟩:=p;obtain⟨tz,u1,u2,kz,rfl,Ek,y1,y2⟩:=dI Qm;obtain rfl:=y1.cB;obtain rfl:=y2.cB;ac_rfl;refine wD (bz.of Ek) ?_;have VC:=N.at elo nlo;walk_at "j";refine bI _ (.inl ⟨_,aP.of VC,rfl⟩) ?_;walk_at "j";have l:((tS m 0 (m.goal B)).map λi=>V.int ((i:Nat):Int)).length=(m.outs (m.goal B)).length:=by rw[List.length_map];rfl
  rw[l];have o:O.toNat=O.toNat:=rfl;have ej:((O.toNat:Nat):Int)=O:=aaQ Ql;by_cases iz:O<((m.outs (m.goal B)).length:Nat)
  ·rw[if_pos (by simpa using iz)];have Ml:O.toNat < (m.outs (m.goal B)).length:=by lia
   have qU:(m.outs (m.goal B)).getD O.toNat 0<m.ws.length:=by
    have:=getD_mem (d:=0) Ml;unfold NT.outs at this ⊢;rw[List.mem_filter,List.mem_range]at this;exact this.1
   walk_at "j";obtain⟨o,u,l,y⟩:=tf.ins;refine gm l (fI ⋯) ?_;refine bt VC (show ip _ O=some (.int (((m.outs (m.goal B)).getD O.toNat 0:Nat):Int)) from by
    rw[<-ej];calc ax ?_;rw[List.getElem?_map];show Option.map _ (m.outs (m.goal B))[_]?=_;rw[Int.toNat_natCast,aY (d:=0) Ml];rfl) ?_
   have l:=(RS.sZ.send (outs:=m.outs (m.goal B)) (ev:=m.ev r B) ((m.work r B k).cA.take i) Qh Qi).mono (show _<=19999 by simp;lia);refine⟨F,x,ba,m,_,ad,_,px,.ref ev,some (m.ev r B),rfl,tf,j8.fr (f13.trans N) J.bN.vZ,qU,(MK.aG N.aM).mono ∅,l,λH'' f2 VD=>?_⟩;walk_at "j";refine gI ⟨_,_,rfl,rfl⟩ (N.trans f2) ?_;rw[Lo];show bJ C CN CR F H'' x ba m (if O.toNat<_ then _ else _) ad;rw[if_pos Ml];exact VD
  ·rw[if_neg (by simpa using iz)];walk_at "j";refine gI ⟨_,_,rfl,rfl⟩ N ?_;rw[Lo];show bJ C CN CR F H' x ba m (if O.toNat<_ then _ else _) ad;rw[if_neg ()];exact tf
 ·intro σ H' iu;obtain⟨⟨Qj,Qk,rfl⟩,N,tf⟩:=iu;walk_at "j";rw[hzl,List.take_length]at tf;exact q _ _ (f13.trans N) tf (MK.aG N.aM)
def _root_.DD.RS.Jr(r:RS)(w:Nat):List Nat:=(List.range (r.ww w).say.length).filter λk=>((r.ww w).eC.getD k none).isNone
theorem iD{p:Nat->Bool}{i:Nat}:(List.range (i+1)).filter p=(List.range i).filter p++(if p i=true then[i] else[]):=by
 rw[List.range_succ,List.filter_append];congr 1
 cases h:p i<;>simp[h]
theorem Hf(hz:∀b,Z b->∃o,H b=some o/\soft o){m:Nat}{x:V}{d:DV}(g:HT H m x d):HD (iq Z H) m x d:=by
 calc HT.hd (g.aG λb f e=>?_);rw[fE (λz=>by
  obtain⟨o,a,c⟩:=hz b z;rw[e] at a;cases a;calc c)]
 calc e
structure sO(H0 H':Hp)(D:Addr)(as:List Addr)(n:Nat)(ct:Nat->Hp->List V->Prop):Prop where
 len:as.length=n
 nd:as.Nodup
 new:∀a∈as,H0 a=none/\a≠D
 ins:∀(j:Nat) a,as[j]?=some a->∃vs,H' a=some (.lst vs)/\ct j H' vs
theorem sO.nil{ct:Nat->Hp->List V->Prop}:sO H0 H' D [] 0 ct:=⟨rfl,List.nodup_nil,λa h=>by simp at h,λj a h=>by simp at h⟩
theorem sO.snoc{H0 H1 H':Hp}{D a:Addr}{as:List Addr}{n:Nat}{ct:Nat->Hp->List V->Prop}(h:sO H0 H1 D as n ct)(p:aq H0 H1)(q:H1 D≠none)(g:H1 a=none){vs:List V}(e:H' a=some (.lst vs))(c:ct n H' vs)(s:∀b o,b≠D->H1 b=some o->H' b=some o)(f:∀j vs,ct j H1 vs->ct j H' vs):sO H0 H' D (as++[a]) (n+1) ct:=by
 refine⟨by simp[h.len],?_,λb d=>?_,λj b d=>?_⟩
 ·rw[List.nodup_append];calc gI h.nd nofun (λb d c l=>?_);simp at l;subst l;intro z;subst z;obtain⟨j,k⟩:=List.getElem?_of_mem d;obtain⟨vs,i,_⟩:=h.ins j b k;rw[g]at i;cases i
 ·rcases List.mem_append.mp d with d | d
  ·exact h.new b d
  ·simp at d;subst d;refine⟨?_,λz=>q (z ▸ g)⟩
   cases r:H0 b with
   |none=>rfl
   |some o=>rw[p _ _ r]at g;cases g
 ·by_cases k:j < as.length
  ·rw[List.getElem?_append_left k]at d;obtain⟨vs,i,g⟩:=h.ins j b d;exact⟨vs,s _ _ (h.new b (aad d)).2 i,f _ _ g⟩
  ·rw[List.getElem?_append_right ()] at d
   cases m:j-as.length with
   |zero=>
    rw[m]at d;simp at d;subst d;have:j=n:=by have:=h.len;lia
    subst this;calc⟨vs,e,c⟩
   |succ k=>rw[m]at d;simp at d
theorem sO.keep{n:Nat}{ct:Nat->Hp->List V->Prop}(h:sO H0 H1 D as n ct)(s:∀(b:Addr) (vs:List V),H1 b=some (.lst vs)->H' b=some (.lst vs))(c:∀j vs,ct j H1 vs->ct j H' vs):sO H0 H' D as n ct:=
 ⟨h.len,h.nd,h.new,λj a e=>by
  obtain⟨vs,d,f⟩:=h.ins j a e;calc⟨vs,s _ _ d,c _ _ f⟩⟩
theorem kP{K:W.Frag}{ix:List (Option Nat)}{m:TE}{l:Addr}{xs vs:List V}(o:H l=some (.lst xs))(r:H D=none)(C:xs.length<=10)(u:∀x,Ext (tw ix σ) ((tw ix σ).set 0 (some x)))(v:∀d g (R:VK),(∀p,g p=none->R (.ref p) (upd g p (.lst vs)))->m d g R)(q:∀as H1,H1 D=some (.lst (as.map V.ref))->aq H H1->sO H H1 D as xs.length (λ_ _ ws=>ws=vs)->Q (.ref D) H1):ko ix (wQ K l) (fL 0) iB m σ H Q D:=by
 refine bq (n:=xs.length) (λi ys H'=>∃as:List Addr,ys=as.map V.ref/\aq H H'/\sO H H' D as i (λ_ _ ws=>ws=vs)) (S' (small ())) ⟨[],rfl,aq.new _ r,sO.nil⟩ ?_ ?_ ?_ ?_
 ·rintro i ys H' j ⟨_,_,a,_⟩;exact⟨_,xs[i],aP.of (a _ _ o),cy j⟩
 ·rintro ys H' ⟨_,_,a,_⟩;exact⟨_,aP.of (a _ _ o),P' _⟩
 ·intro i ys H' j c t w y F z;obtain⟨as,rfl,a,k⟩:=w;obtain⟨rfl,d⟩:=z;calc⟨u y,?_⟩;simp only[iB,if_true];calc v _ _ _ λp d=>?_;have g:=aq.new (.lst vs) d;have i:p≠D:=Ne.symm (ao c d);refine cn (g _ _ c) t j (S' (small ())) ⟨as++[p],nofun,λb o e=>?_,?_⟩
  ·rw[av (ao e r)];exact g _ _ (a _ _ e)
  ·refine k.snoc a (by rw[c];simp) d (vs:=vs) ?_ rfl (λb o a e=>?_) (λj vs e=>e)
   ·rw[av i];exact ab
   ·rw[av a];exact g _ _ e
 ·intro ys H1 c t B;obtain⟨as,rfl,a,k⟩:=B;calc q as H1 c a k
abbrev mG:Stmt:=(b8 (top 50)).getD 9 (.Pass ⟨0,0,0,0⟩)
inductive MM(C CN CR:Addr)(vs:List V)(H:Hp)(Q:VK):Prop
 |mk (F:Addr->Prop) (x ba:Addr) (nt:NT) (r:RS) (ad:Nat->Nat->Addr) (wy k:Nat) (h0:vs=[.ref x,.int (wy:Nat),.int (k:Nat)]) (h1:bJ C CN CR F H x ba nt r ad) (h2:FS F H) (h3:r.Ok nt) (h4:r.Jo nt wy k) (h5:r.picks.length<=400) (h6:∀t H',Fr (FP nt.n ad) H H'->bJ C CN CR F H' x ba nt (r.pick nt wy k) ad->HT H' 1 t (pairD (nt.ev r wy))->Q t H'):MM C CN CR vs H Q
def Hg(C CN CR:Addr):Sp:=λvs H Q _=>MM C CN CR vs H Q
theorem Ai(D:gG K CR "pick" "Run.pick" mG ["self","way","number"])(T:Tx K mg C CN CR F FD)(j:ck P w K mg base CR "pick_at" 6 ["self","way","number","at"] (v8 C CN CR)):ck P w K mg base CR "pick" 7 ["self","way","number"] (Hg C CN CR):=by
 have sc:aB ["self","way","number"] ["self","way","number"] (ay mG):=by walk_at "s"
 symm;obtain⟨F,x,ba,b,r,ad,c,k,rfl,a,d,e,g,i,q⟩:=h;have m:=hr.units;refine⟨_,(ak (aE (eW j T.aS hr (au 0) (af (au 1) (af (au 2) (af ai aa)))))),?_⟩;obtain⟨m,o,l,n⟩:=a.ins;walk_at "j";refine gm l (fI ⋯) ?_;exact⟨F,x,ba,b,r,ad,c,k,_,rfl,a,d,e,g,i,q⟩
theorem uW{CR x a:Addr}{C:Hp}{f:List (Str×V)}(c:List (Str×V))(s:aq C H)(d:H x=some (.ins CR a f)):∃G,upd H x (.ins CR a c)=G/\G x=some (.ins CR a c)/\(∀b o,b≠x->C b=some o->G b=some o)/\(∀b vs,H b=some (.lst vs)->G b=some (.lst vs))/\cj H G:=⟨_,rfl,ab,λb o n e=>by rw[av n];calc s _ _ e,λb vs e=>by rw[av (λz=>by rw[z,d]at e;cases e)];calc e,λb vs e=>by rw[av (λz=>by rw[z,d]at e;cases e)];calc e⟩
theorem fC{C:Hp}{d:Addr}(a:List (Key×V))(s:aq C H):∃G,upd H d (.dK a)=G/\G d=some (.dK a)/\(∀b o,b≠d->C b=some o->G b=some o)/\(∀b o,b≠d->H b=some o->G b=some o):=⟨_,rfl,ab,λb o n e=>by rw[av n];calc s _ _ e,λb o n e=>by rw[av n];calc e⟩
theorem pK:∀(a:List (Int×Int)) {r:RS}{p:Int×Int},r.nR (a++[p])=(r.nR a).put p.1.toNat p.2 none
 | [],r,p=>rfl
 |q::a,r,p=>pK a
theorem Aj{nt:NT}(j:nt.Ok):(RS.new nt).sZ nt 0:=by
 refine⟨λm e=>rfl,λm e=>rfl,λm e s d=>?_,λm e h f=>?_,λv i=>rfl,λv i=>rfl,λv i a c d=>?_,λm e=>P' _,λm e u b=>?_,λv i=>P' _,λm e u b=>?_⟩
 ·have g:=j.gd e;have d:s ∈ [((nt.ms.getD m default).ns,(nt.ms.getD m default).row)]:=d;simp at d;subst d;exact⟨rfl,g.bn,g.r12⟩
 ·have f:h∈([]:List (List Int)):=f;simp at f
 ·have d:some (a,c)∈([]:List (Option (Int×Int))):=d;simp at d
 ·have b:u∈([[]]:List (List Int)):=b;simp at b;subst b;exact P' _
 ·have b:u∈([[]]:List (List Int)):=b;simp at b;subst b;calc List.nil_prefix
theorem qV{nt:NT}:∀(b:List (Int×Int)) {r:RS}{B:Nat},r.sZ nt B->(r.nR b).sZ nt (B+b.length)
 | [],r,B,h=>h
 |p::b,r,B,h=>by
  have e:B+(p::b).length=B+1+b.length:=by simp;lia
  rw[e];calc qV b (h.put (λa c z=>by cases z))
theorem sQ:∀(a:List (Int×Int)) {r:RS},(r.nR a).picks=r.picks
 | [],r=>rfl
 |p::a,r=>sQ a
theorem yt{nt:NT}(a:nt.Ok){ls:List (Int×Int)}(h:ls.length<=20):(RS.begin nt ls).Ok nt/\(RS.begin nt ls).picks=[]:=by
 have e:(RS.begin nt ls).picks=[]:=sQ ls;calc⟨(qV ls (Aj a)).ok ?_,e⟩;show 0+ls.length<=20+24*(RS.begin nt ls).picks.length;rw[e];simp;lia
structure qm(H0 H':Hp)(D:Addr)(as:List Addr)(n:Nat)(ct:Nat->Hp->HO->Prop):Prop where
 len:as.length=n
 nd:as.Nodup
 new:∀a∈as,H0 a=none/\a≠D
 ins:∀(j:Nat) a,as[j]?=some a->∃o,H' a=some o/\ct j H' o
theorem sO.o{n:Nat}{ct:Nat->Hp->List V->Prop}(h:sO H0 H' D as n ct):qm H0 H' D as n (λj H u=>∃vs,u=.lst vs/\ct j H vs):=⟨h.len,h.nd,h.new,λj a e=>by
 obtain⟨vs,a,b⟩:=h.ins j a e;calc⟨_,a,_,rfl,b⟩⟩
theorem sO.some{n:Nat}{ct:Nat->Hp->List V->Prop}(h:sO H0 H1 D as n ct)(s:aq H1 H2):∀a∈as,H2 a≠none:=λa m=>by
 obtain⟨j,e⟩:=List.getElem?_of_mem m;obtain⟨b,e,_⟩:=h.ins j a e;rw[s _ _ e];calc λz=>nomatch z
theorem B3{F:Addr->Prop}{G:Hp}{n:Nat->Nat}{c:Nat->Nat->CO}(g:Nat->Hp)(k:Nat->Nat)(p:Nat->List Addr)(o:Nat->Addr)(ct:Nat->Nat->Hp->HO->Prop)(W:∀t i,ad t i=(p t).getD i 0)(X:∀t,n (t+7)=0)(K:∀t t',t<=6->t'<=6->k t=k t'->t=t')(B:∀t b,g t b≠none->g (t+1) b≠none)(C:∀b,F b->g 0 b≠none/\∃u,G b=some u/\soft u)
  (q:∀t,t<=6->qm (g (k t)) G (o t) (p t) (n t) (ct t)/\(∀a∈p t,g (k t+1) a≠none)/\(1<=t->g (k t) (o t)=none/\g (k t+1) (o t)≠none)) (Y:∀t i u,t<=6->ct t i G u->soft u)
  (Z:(∀b,F b\/FP n ad b->∃u,G b=some u/\soft u)->(∀s D,g s D=none->g (s+1) D≠none->(∀t,t<=6->k t=s->¬D∈p t)->¬(F D\/FP n ad D))->∀t i u,t<=6->i<n t->G (ad t i)=some u->ct t i G u->OR (iq (λb=>F b\/FP n ad b) G) (c t i) u):
  dz F G n ad c/\(∀b,FP n ad b->g 0 b=none/\∃u,G b=some u/\soft u)/\∀t,1<=t->t<=6->¬F (o t)/\¬FP n ad (o t)/\(p t).map V.ref=lY n ad t:=by
 have r:∀t i,i<n t->t<=6:=λt i h=>Classical.byContradiction λz=>by
  have:=X (t-7);rw[show t-7+7=t by lia]at this;lia
 have up:∀(d t:Nat) (b:Addr),g t b≠none->g (t+d) b≠none:=λd=>by
  induction d with
  |zero=>calc λt b h=>h
  |succ d o=>exact λt b h=>B _ _ (o t b h)
 have v:∀s o b,s<=o->g s b≠none->g o b≠none:=λs o b h e=>by
  have:=up (o-s) s b e;rwa [show s+(o-s)=o by lia]at this
 have w:∀t i,i<n t->(p t)[i]?=some (ad t i)/\g (k t) (ad t i)=none/\g (k t+1) (ad t i)≠none/\∃u,G (ad t i)=some u/\ct t i G u:=λt i j=>by
  obtain⟨h,x,_⟩:=q t (r t i j);have e:(p t)[i]?=some (ad t i):=by rw[W];exact aY (by rw[h.len];calc j)
  have m:=aad e;exact⟨e,(h.new _ m).1,x _ m,h.ins _ _ e⟩
 have L:∀s D,g s D=none->g (s+1) D≠none->(∀t,t<=6->k t=s->¬D∈p t)->¬(F D\/FP n ad D):=λs D M x hn z=>by
  rcases z with z|⟨t,i,j,rfl⟩
  ·exact v 0 s D (Y' _) (C D z).1 M
  ·obtain⟨e,I,y,_⟩:=w t i j;rcases Nat.lt_trichotomy s (k t) with l | l | l
   ·exact v _ _ _ l x I
   ·exact hn t (r t i j) l.symm (aad e)
   ·exact v _ _ _ l y M
 have N:∀b,FP n ad b->g 0 b=none/\∃u,G b=some u/\soft u:=λb ⟨t,i,j,e⟩=>by
  subst e;obtain⟨_,I,_,u,y,J⟩:=w t i j;exact⟨Classical.byContradiction λz=>v 0 _ _ (Y' _) z I,u,y,Y t i u (r t i j) J⟩
 refine⟨⟨λt i t' O j P e=>?_,λt i j z=>?_,λt i j=>?_⟩,N,λt x R=>?_⟩
 ·obtain⟨a1,a2,a3,_⟩:=w t i j;obtain⟨S,T,U,_⟩:=w t' O P;rw[<-e]at S T U;have es:k t=k t':=by
   rcases Nat.lt_trichotomy (k t) (k t') with l|l|l
   ·exact absurd T (v _ _ _ l a3)
   ·exact l
   ·exact absurd a2 (v _ _ _ l U)
  have:=K t t' (r t i j) (r t' O P) es;subst this;have h:=(q t (r t i j)).1;exact⟨rfl,(List.getElem?_inj (by rw[h.len];calc j) h.nd).mp (a1.trans S.symm)⟩
 ·exact v 0 _ _ (Y' _) (C _ z).1 (w t i j).2.1
 ·obtain⟨_,_,_,u,y,J⟩:=w t i j;exact⟨u,y,Z (λb z=>z.elim (λh=>(C b h).2) λh=>(N b h).2) L t i u (r t i j) j y J⟩
 ·obtain⟨h,_,g⟩:=q t R;have:=L _ _ (g x).1 (g x).2 (λt' h' e m=>by
   have:=K t' t h' R e;subst this;calc(h.new _ m).2 rfl)
  calc⟨λz=>this (.inl z),λz=>this (.inr z),?_⟩;unfold lY;apply List.ext_getElem (by simp[h.len]);intro j k g;have i:j<n t:=by simpa using g
  simp only[List.getElem_map,List.getElem_range];congr 1;calc(List.getElem_eq_iff _).mpr (w t j i).1
theorem Lp{CN:Addr}{c:List Addr}{d e:List V}(h:kK CN H ba ms wv lv)(h':kK CN H ba c d e):lv=e:=by
 obtain⟨d,e,g,i,c,j,k,f⟩:=h;obtain⟨d,e,g,i,a,j,k,b⟩:=h';rw[c]at a
 cases a;rw[f]at b
 cases b;rfl
theorem v9{C c:Addr}{p:Str×V}{l:List (Str×V)}(h:some (HO.ins C a [])=some (HO.ins c b (p::l))):False:=by cases h
abbrev Hh:Stmt:=(b8 (top 50)).getD 0 (.Pass ⟨0,0,0,0⟩)
inductive Hi(C CN CR:Addr)(vs:List V)(H:Hp)(Q:VK):Prop
 |mk (F:Addr->Prop) (x dx ba:Addr) (nt:NT) (ls:List (Int×Int)) (ms:List Addr) (wv lv:List V) (h0:vs=[.ref x,.ref ba]) (h1:H x=some (.ins CR dx [])) (h2:sx C CN H ba nt) (h3:kK CN H ba ms wv lv) (h4:gw H 1 lv (ls.map nZ)) (h5:ls.length<=20) (h6:∀l∈ls,0<=l.1/\l.1<nt.ws.length) (j8:FS F H) (h7:∀ad H',(∀b o,b≠x->H b=some o->H' b=some o)->(∀b,FP nt.n ad b->H b=none)->bJ C CN CR F H' x ba nt (RS.begin nt ls) ad->Q .bC H'):Hi C CN CR vs H Q
def wa(C CN CR:Addr):Sp:=λvs H Q _=>Hi C CN CR vs H Q
theorem VF(D:Dd K mg "Run" CR "Run.__init__" Hh ["self","net"])(T:Tx K mg C CN CR F FD)(dZ:ck P w K mg base C "first_state" 1 ["self"] (Gz C))(iW:ck P w K mg base CN "letters" 1 ["self"] (qk CN))(bo:ck P w K mg base CN "machines" 1 ["self"] (fG CN))(cU:ck P w K mg base CN "ways" 1 ["self"] (oe CN))(cN:ck P w K mg base CR "put_letter" 1 ["self","way","said","sender"] (sF C CN CR)):vK P w K mg base "Run" CR 2 ["self","net"] (wa C CN CR):=by
 have sc:aB ["self","net","way","said"] ["self","net"] (ay Hh):=by walk_at "s"
 symm;obtain⟨FF,x,y,ba,k,ls,ms0,wv0,lv,rfl,S,hn,hf0,Jj,qy,rz,j8,q⟩:=h;have hu:=hr.units;refine⟨_,(ag (fw (au 0) (au 1) (gh rfl))
  (ag (fw (au 0) (bu aa) (gh rfl))
  (ag (fw (au 0) (dy (N':=["machine"]) (ix:=[none]) (bS (eS bo T.cD hr (au 1))) (λ_ _ _ _=>(aQ (i:=0) (show(["machine"]:List Str).Nodup by decide +kernel) rfl Sort)) oI (λ_ _ _ _=>(bu (af (eS dZ T.cC hr (au 0)) aa)))) rfl)
  (ag (fw (au 0) (dy (N':=["machine"]) (ix:=[none]) (bS (eS bo T.cD hr (au 1))) (λ_ _ _ _=>(aQ (i:=0) (show(["machine"]:List Str).Nodup by decide +kernel) rfl Sort)) oI (λ_ _ _ _=>(bu (af ai aa)))) rfl)
  (ag (fw (au 0) (dy (N':=["machine"]) (ix:=[none]) (bS (eS bo T.cD hr (au 1))) (λ_ _ _ _=>(aQ (i:=0) (show(["machine"]:List Str).Nodup by decide +kernel) rfl Sort)) oI (λ_ _ _ _=>(bu aa))) rfl)
  (ag (fw (au 0) (dy (N':=["way"]) (ix:=[none]) (bS (eS cU T.cD hr (au 1))) (λ_ _ _ _=>(aQ (i:=0) (show(["way"]:List Str).Nodup by decide +kernel) rfl Sort)) oI (λ_ _ _ _=>(bu aa))) rfl)
  (ag (fw (au 0) (dy (N':=["way"]) (ix:=[none]) (bS (eS cU T.cD hr (au 1))) (λ_ _ _ _=>(aQ (i:=0) (show(["way"]:List Str).Nodup by decide +kernel) rfl Sort)) oI (λ_ _ _ _=>(bu aa))) rfl)
  (ag (fw (au 0) (dy (N':=["way"]) (ix:=[none]) (bS (eS cU T.cD hr (au 1))) (λ_ _ _ _=>(aQ (i:=0) (show(["way"]:List Str).Nodup by decide +kernel) rfl Sort)) oI (λ_ _ _ _=>(bu aa))) rfl)
  (ak (df PassesOwn.never rfl (bS (eS iW T.cD hr (au 1))) (eZ (i:=2) (j:=3) rfl sc.nd rfl rfl Sort Sort)
  (ak (bP (eW cN T.aS hr (au 0) (af (au 2) (af (au 3) (af kg aa)))))))))))))))),?_⟩
 have aO:=hn.ok;nofun;obtain⟨⟨ms,wv,N,hf,mw,wI,Jp⟩,_⟩:=id hn;obtain⟨Z,a1,b1,c1,I,g2,g3,g4⟩:=id hf;have OY:N=lv:=Lp hf hf0;subst OY;ac_rfl;have Jc:(ms.map V.ref).length<=5:=by simp[mw];exact aO.Kv
 have kd:wv.length=k.ws.length:=by simpa using Jp.1
 have qx:wv.length<=10:=by rw[kd];exact aO.F6
 have O:ba≠x:=λz=>by rw[z,S]at I;exact v9 I
 have MO:a1≠x:=eD g2 S (λz=>nomatch z);have MP:b1≠x:=eD g3 S (λz=>nomatch z);have MQ:c1≠x:=eD g4 S (λz=>nomatch z);walk_at "j";refine qw x CR y _ rfl S T.aS T.cE ∅ ?_;have RN:upd H x (.ins CR y (aX "own_net" (.ref ba) [])) x=some (.ins CR y (aX "own_net" (.ref ba) [])):=ab;have nxa:∀b o,b≠x->H b=some o->upd H x (.ins CR y (aX "own_net" (.ref ba) [])) b=some o:=λb o n e=>by rw[av n];exact e
 generalize hGa:upd H x (.ins CR y (aX "own_net" (.ref ba) []))=Ga at *;walk_at "j";refine⟨Y' _,λp hp=>?_⟩;have sp0:=aq.new (.lst []) hp;have Yd:upd Ga p (.lst []) p=some (.lst []):=ab;generalize hGb:upd Ga p (.lst [])=Gb at *;walk_at "j";refine qw x CR y _ rfl (sp0 _ _ RN) T.aS T.cJ (bM (n:=999) ∅) ?_;have Hk:upd Gb x (.ins CR y (aX "picks_done" (.ref p) (aX "own_net" (.ref ba) []))) x=some (.ins CR y (aX "picks_done" (.ref p) (aX "own_net" (.ref ba) []))):=ab;have ka:∀b o,b≠x->Ga b=some o->upd Gb x (.ins CR y (aX "picks_done" (.ref p) (aX "own_net" (.ref ba) []))) b=some o:=λb o n e=>by rw[av n];exact sp0 _ _ e
 have npx:p≠x:=Ne.symm (ao RN hp);have ep:upd Gb x (.ins CR y (aX "picks_done" (.ref p) (aX "own_net" (.ref ba) []))) p=some (.lst []):=by rw[av npx];exact Yd
 generalize hG0:upd Gb x (.ins CR y (aX "picks_done" (.ref p) (aX "own_net" (.ref ba) [])))=G0 at *;have MR:∀b o,b≠x->H b=some o->G0 b=some o:=λb o n e=>ka b o n (nxa b o n e);walk_at "j";refine bL ?_;walk_at "j";refine gm (MR _ _ O I) (eB ⋯ ⋯ ⋯) ?_;refine e9 ba ms wv N rfl ⟨Z,a1,b1,c1,MR _ _ O I,MR _ _ MO g2,MR _ _ MP g3,MR _ _ MQ g4⟩ (λYe aa1=>?_);have Qp:=aq.new (.lst (ms.map V.ref)) aa1;have DQ:upd G0 Ye (.lst (ms.map V.ref)) Ye=some (.lst (ms.map V.ref)):=ab;generalize agZ:upd G0 Ye (.lst (ms.map V.ref))=VG at *;walk_at "j";refine .inl ⟨⟨_,aP.of DQ⟩,λW yO=>?_⟩;refine bq (J:=wQ K Ye) (n:=(ms.map V.ref).length) (λi ys H'=>∃as:List Addr,ys=as.map V.ref/\aq VG H'/\sO VG H' W as i (λj H' vs=>∃v,vs=[v]/\HT H' 2 v (xt (k.ms.getD j default).ns (k.ms.getD j default).row))) (S' (small ())) ⟨[],rfl,aq.new _ yO,sO.nil⟩ ?_ ?_ ?_ ?_
 ·rintro i ys H' hi ⟨_,_,s3,_⟩;exact⟨_,(ms.map V.ref)[i],aP.of (s3 _ _ DQ),cy hi⟩
 ·rintro ys H' ⟨_,_,s3,_⟩;exact⟨_,aP.of (s3 _ _ DQ),P' _⟩
 ·intro i ys H' hi l hl ir xx H4 iu;nofun;obtain⟨as,rfl,s3,hL⟩:=ir;obtain⟨rfl,hy⟩:=iu;ac_rfl;have ex:=hy _ (aP.of (s3 _ _ DQ));walk_at "xf";walk_at "j"
  try rw[if_pos trivial]
  have him:i<ms.length:=by simpa using hi
  have exm:xx=.ref ms[i]:=by
   rw[List.getElem?_map,cy him]at ex
   cases ex;rfl
  nofun;subst exm;have Lq:i<k.ms.length:=by lia
  have nmx:ms[i]≠x:=λz=>by
   obtain⟨d1,s1,d2,X,_⟩:=wI i ms[i] _ (cy him) (aY (d:=default) Lq);rw[z,S]at X;exact v9 X
  have DR:RC C H4 ms[i] (k.ms.getD i default):=by
   obtain⟨d1,s1,d2,X,w2,w3⟩:=wI i ms[i] _ (cy him) (aY (d:=default) Lq);have tt:cj H H4:=λb xs e=>s3 _ _ (Qp _ _ (MR b _ (λz=>by rw[z,S]at e;cases e) e));exact⟨d1,s1,d2,s3 _ _ (Qp _ _ (MR _ _ nmx X)),w2.aG tt,w3.aG tt⟩
  obtain⟨d1,s1,d2,X,w2,w3⟩:=id DR;ac_rfl;refine mth X (BG ⋯ ⋯ ⋯) ?_;refine⟨ms[i],_,_,_,_,rfl,DR,λst j6=>?_⟩;walk_at "j";refine⟨S' (small nofun),λp hp=>?_⟩;have sN:=aq.new (.lst [st]) hp;have nD:p≠W:=Ne.symm (ao l hp);refine cn (sN _ _ l) hl hi (S' (small ())) ⟨as++[p],nofun,λb o e=>?_,?_⟩
  ·rw[av (ao e yO)];exact sN _ _ (s3 _ _ e)
  ·refine hL.snoc s3 (by rw[l];simp) hp (vs:=[st]) ?_ ⟨st,rfl,j6.aG (λb xs e=>by rw[av (λz=>by rw[z,l] at e;cases e)];calc sN _ _ e)⟩ (λb o nb e=>?_) (λj vs ⟨v,e,h⟩=>⟨v,e,h.aG (λb xs e=>by rw[av (λz=>by rw[z,l] at e;cases e)];calc sN _ _ e)⟩)
   ·rw[av nD];exact ab
   ·rw[av nb];exact sN _ _ e
 intro ys H1 l hl nX;obtain⟨A1,rfl,RO,Yf⟩:=nX;have VH:=RO _ _ (Qp _ _ Hk);walk_at "j";refine qw x CR y _ rfl VH T.aS T.bU (bM (n:=999) (bM (n:=998) ∅)) ?_;obtain⟨G1,X6,oH,Yg,VI,aa3⟩:=uW (aX "states_had" (.ref W) (aX "picks_done" (.ref p) (aX "own_net" (.ref ba) []))) RO VH;rw[X6];have VJ:=VI _ _ l;clear X6;have kg1:∀b o,b≠x->G0 b=some o->G1 b=some o:=λb o n e=>Yg b o n (Qp _ _ e);have RP:∀b o,b≠x->H b=some o->G1 b=some o:=λb o n e=>kg1 b o n (MR b o n e);have fD1:VG W=none:=yO;clear l;walk_at "j";refine bL ?_;walk_at "j";refine gm (RP _ _ O I) (eB ⋯ ⋯ ⋯) ?_;refine e9 ba ms wv N rfl ⟨Z,a1,b1,c1,RP _ _ O I,RP _ _ MO g2,RP _ _ MP g3,RP _ _ MQ g4⟩ (λlm2 aa6=>?_);have RQ:=aq.new (.lst (ms.map V.ref)) aa6;have tZ:upd G1 lm2 (.lst (ms.map V.ref)) lm2=some (.lst (ms.map V.ref)):=ab;generalize ag2:upd G1 lm2 (.lst (ms.map V.ref))=Gd2 at *;walk_at "j";refine .inl ⟨⟨_,aP.of tZ⟩,λD2 zX=>?_⟩;refine kP (vs:=[V.int 0]) tZ zX () (λ_=>Ext.set (Ext.refl _) rfl) (λ_ _ _ r=>And.intro ∅ r) ?_;intro A2 H2 l Qq Qr;have VM:=Qq _ _ (RQ _ _ oH);walk_at "j";refine qw x CR y _ rfl VM T.aS T.dO (bM (n:=999) (bM (n:=998) (bM (n:=997) ∅))) ?_;obtain⟨G2,Ja,DA,RT,VN,ag3⟩:=uW (aX "words_had" (.ref D2) (aX "states_had" (.ref W) (aX "picks_done" (.ref p) (aX "own_net" (.ref ba) [])))) Qq VM;rw[Ja];have RU:=VN _ _ l;clear Ja;have kg2:∀b o,b≠x->G1 b=some o->G2 b=some o:=λb o n e=>RT b o n (RQ _ _ e);have RV:∀b o,b≠x->H b=some o->G2 b=some o:=λb o n e=>kg2 b o n (RP b o n e);have UT:Gd2 D2=none:=zX;clear l;walk_at "j";refine bL ?_;walk_at "j";refine gm (RV _ _ O I) (eB ⋯ ⋯ ⋯) ?_;refine e9 ba ms wv N rfl ⟨Z,a1,b1,c1,RV _ _ O I,RV _ _ MO g2,RV _ _ MP g3,RV _ _ MQ g4⟩ (λlm3 aa9=>?_);have RW:=aq.new (.lst (ms.map V.ref)) aa9;have VO:upd G2 lm3 (.lst (ms.map V.ref)) lm3=some (.lst (ms.map V.ref)):=ab;generalize ag4:upd G2 lm3 (.lst (ms.map V.ref))=Gd3 at *;walk_at "j";refine .inl ⟨⟨_,aP.of VO⟩,λD3 yb=>?_⟩;refine kP (vs:=[]) VO yb () (λ_=>Ext.set (Ext.refl _) rfl) (λ_ _ _ r=>And.intro ∅ r) ?_;intro A3 H3 l Qs Yh;have VP:=Qs _ _ (RW _ _ DA);walk_at "j";refine qw x CR y _ rfl VP T.aS T.cK (bM (n:=999) (bM (n:=998) (bM (n:=997) (bM (n:=996) ∅)))) ?_;obtain⟨G3,PY,Jm,RX,VQ,ag5⟩:=uW (aX "words_said" (.ref D3) (aX "words_had" (.ref D2) (aX "states_had" (.ref W) (aX "picks_done" (.ref p) (aX "own_net" (.ref ba) []))))) Qs VP;rw[PY];have RY:=VQ _ _ l;clear PY;have kg3:∀b o,b≠x->G2 b=some o->G3 b=some o:=λb o n e=>RX b o n (RW _ _ e);have RZ:∀b o,b≠x->H b=some o->G3 b=some o:=λb o n e=>kg3 b o n (RV b o n e);have UX:Gd3 D3=none:=yb;clear l;walk_at "j";refine bL ?_;walk_at "j";refine gm (RZ _ _ O I) (eB ⋯ ⋯ ⋯) ?_;refine e9 ba ms wv N rfl ⟨Z,a1,b1,c1,RZ _ _ O I,RZ _ _ MO g2,RZ _ _ MP g3,RZ _ _ MQ g4⟩ (λlm4 abc=>?_);have R0:=aq.new (.lst wv) abc;have VR:upd G3 lm4 (.lst wv) lm4=some (.lst wv):=ab;generalize ag6:upd G3 lm4 (.lst wv)=Gd4 at *;walk_at "j";refine .inl ⟨⟨_,aP.of VR⟩,λD4 R1=>?_⟩;refine kP (vs:=[]) VR R1 () (λ_=>Ext.set (Ext.refl _) rfl) (λ_ _ _ r=>And.intro ∅ r) ?_;intro A4 H4 l MT Yi;have VS:=MT _ _ (R0 _ _ Jm);walk_at "j";refine qw x CR y _ rfl VS T.aS T.bV (bM (n:=999) (bM (n:=998) (bM (n:=997) (bM (n:=996) (bM (n:=995) ∅))))) ?_;obtain⟨G4,RJ,PZ,R3,VT,ag7⟩:=uW (aX "letters_say" (.ref D4) (aX "words_said" (.ref D3) (aX "words_had" (.ref D2) (aX "states_had" (.ref W) (aX "picks_done" (.ref p) (aX "own_net" (.ref ba) [])))))) MT VS;rw[RJ];have R4:=VT _ _ l;clear RJ;have kg4:∀b o,b≠x->G3 b=some o->G4 b=some o:=λb o n e=>R3 b o n (R0 _ _ e);have R5:∀b o,b≠x->H b=some o->G4 b=some o:=λb o n e=>kg4 b o n (RZ b o n e);have fD4:Gd4 D4=none:=R1;clear l;walk_at "j";refine bL ?_;walk_at "j";refine gm (R5 _ _ O I) (eB ⋯ ⋯ ⋯) ?_;refine e9 ba ms wv N rfl ⟨Z,a1,b1,c1,R5 _ _ O I,R5 _ _ MO g2,R5 _ _ MP g3,R5 _ _ MQ g4⟩ (λlm5 abg=>?_);have R6:=aq.new (.lst wv) abg;have VU:upd G4 lm5 (.lst wv) lm5=some (.lst wv):=ab;generalize ag8:upd G4 lm5 (.lst wv)=Gd5 at *;walk_at "j";refine .inl ⟨⟨_,aP.of VU⟩,λD5 BC=>?_⟩;refine kP (vs:=[]) VU BC () (λ_=>Ext.set (Ext.refl _) rfl) (λ_ _ _ r=>And.intro ∅ r) ?_;intro A5 H5 l MU Yj;have VW:=MU _ _ (R6 _ _ PZ);walk_at "j";refine qw x CR y _ rfl VW T.aS T.eN (bM (n:=999) (bM (n:=998) (bM (n:=997) (bM (n:=996) (bM (n:=995) (bM (n:=994) ∅)))))) ?_;obtain⟨G5,RH,Es,R7,VX,ag9⟩:=uW (aX "senders" (.ref D5) (aX "letters_say" (.ref D4) (aX "words_said" (.ref D3) (aX "words_had" (.ref D2) (aX "states_had" (.ref W) (aX "picks_done" (.ref p) (aX "own_net" (.ref ba) []))))))) MU VW;rw[RH];have R8:=VX _ _ l;clear RH;have kg5:∀b o,b≠x->G4 b=some o->G5 b=some o:=λb o n e=>R7 b o n (R6 _ _ e);have R9:∀b o,b≠x->H b=some o->G5 b=some o:=λb o n e=>kg5 b o n (R5 b o n e);have fD5:Gd5 D5=none:=BC;clear l;walk_at "j";refine bL ?_;walk_at "j";refine gm (R9 _ _ O I) (eB ⋯ ⋯ ⋯) ?_;refine e9 ba ms wv N rfl ⟨Z,a1,b1,c1,R9 _ _ O I,R9 _ _ MO g2,R9 _ _ MP g3,R9 _ _ MQ g4⟩ (λlm6 abk=>?_);have Sa:=aq.new (.lst wv) abk;have VY:upd G5 lm6 (.lst wv) lm6=some (.lst wv):=ab;generalize aha:upd G5 lm6 (.lst wv)=Gd6 at *;walk_at "j";refine .inl ⟨⟨_,aP.of VY⟩,λD6 VZ=>?_⟩;refine kP (vs:=[]) VY VZ () (λ_=>Ext.set (Ext.refl _) rfl) (λ_ _ _ r=>And.intro ∅ r) ?_;intro A6 H6 l Qt Yk;have V0:=Qt _ _ (Sa _ _ Es);walk_at "j";refine qw x CR y _ rfl V0 T.aS T.cT (bM (n:=999) (bM (n:=998) (bM (n:=997) (bM (n:=996) (bM (n:=995) (bM (n:=994) (bM (n:=993) ∅))))))) ?_;obtain⟨U,T,Vj,Sb,V1,ahb⟩:=uW (aX "workers" (.ref D6) (aX "senders" (.ref D5) (aX "letters_say" (.ref D4) (aX "words_said" (.ref D3) (aX "words_had" (.ref D2) (aX "states_had" (.ref W) (aX "picks_done" (.ref p) (aX "own_net" (.ref ba) [])))))))) Qt V0;rw[T];have Sd:=V1 _ _ l;clear T;have kg6:∀b o,b≠x->G5 b=some o->U b=some o:=λb o n e=>Sb b o n (Sa _ _ e);have L:∀b o,b≠x->H b=some o->U b=some o:=λb o n e=>kg6 b o n (R9 b o n e);have fD6:Gd6 D6=none:=VZ;clear l;have g:∀(G T:Hp),(∀b o,b≠x->G b=some o->T b=some o)->(∃fs,G x=some (.ins CR y fs))->(∀b vs,G b=some (.lst vs)->T b=some (.lst vs))/\cj G T:=λG T h ⟨fs,e⟩=>⟨λb vs M=>h b _ (λz=>by rw[z,e]at M;cases M) M,λb vs M=>h b _ (λz=>by rw[z,e]at M;cases M) M⟩
 have Lr:=kg6;have MV:∀b o,b≠x->G4 b=some o->U b=some o:=λb o n e=>Lr b o n (kg5 b o n e);have MW:∀b o,b≠x->G3 b=some o->U b=some o:=λb o n e=>MV b o n (kg4 b o n e);have Qu:∀b o,b≠x->G2 b=some o->U b=some o:=λb o n e=>MW b o n (kg3 b o n e);have V2:∀b o,b≠x->G1 b=some o->U b=some o:=λb o n e=>Qu b o n (kg2 b o n e);have kc0:∀b o,b≠x->G0 b=some o->U b=some o:=λb o n e=>V2 b o n (kg1 b o n e);have Qv:sO VG G1 W A1 (ms.map V.ref).length (λj H' vs=>∃v,vs=[v]/\HT H' 2 v (xt (k.ms.getD j default).ns (k.ms.getD j default).row)):=Yf.keep VI (λj vs ⟨v,e,h⟩=>⟨v,e,h.aG aa3⟩);have Qw:=Qv.keep (g _ _ V2 ⟨_,oH⟩).1 (λj vs ⟨v,e,h⟩=>⟨v,e,h.aG (g _ _ V2 ⟨_,oH⟩).2⟩);have MX:=(g _ _ V2 ⟨_,oH⟩).1 _ _ VJ;have Qx:sO Gd2 G2 D2 A2 (ms.map V.ref).length (λ_ _ vs=>vs=[V.int 0]):=Qr.keep VN (λj vs e=>e);have Qy:=Qx.keep (g _ _ Qu ⟨_,DA⟩).1 (λj vs e=>e);have MY:=(g _ _ Qu ⟨_,DA⟩).1 _ _ RU;have Qz:sO Gd3 G3 D3 A3 (ms.map V.ref).length (λ_ _ vs=>vs=[]):=Yh.keep VQ (λj vs e=>e);have QA:=Qz.keep (g _ _ MW ⟨_,Jm⟩).1 (λj vs e=>e);have MZ:=(g _ _ MW ⟨_,Jm⟩).1 _ _ RY;have QB:sO Gd4 G4 D4 A4 wv.length (λ_ _ vs=>vs=[]):=Yi.keep VT (λj vs e=>e);have QC:=QB.keep (g _ _ MV ⟨_,PZ⟩).1 (λj vs e=>e);have M0:=(g _ _ MV ⟨_,PZ⟩).1 _ _ R4;have QE:sO Gd5 G5 D5 A5 wv.length (λ_ _ vs=>vs=[]):=Yj.keep VX (λj vs e=>e);have wb:=QE.keep (g _ _ Lr ⟨_,Es⟩).1 (λj vs e=>e);have uX:=(g _ _ Lr ⟨_,Es⟩).1 _ _ R8;have Ls:sO Gd6 U D6 A6 wv.length (λ_ _ vs=>vs=[]):=Yk.keep V1 (λj vs e=>e);have V3:=(g _ _ kc0 ⟨_,Hk⟩).1 _ _ ep;have l:(ms.map V.ref).length=k.ms.length:=by simp[mw]
 rw[l]at Qw;rw[l]at Qy;rw[l]at QA;rw[kd]at QC;rw[kd]at wb;rw[kd]at Ls;obtain⟨ad,Qn⟩:∃ad:Nat->Nat->Addr,∀t i,ad t i=([[p],A1,A2,A3,A4,A5,A6].getD t []).getD i 0:=⟨_,λ_ _=>rfl⟩
 have pz:∀{A B:Hp},(∀b o,b≠x->A b=some o->B b=some o)->∀{o},B x=some o->∀b,A b≠none->B b≠none:=λ{A B} h {o} e b hb=>by
  by_cases z:b=x
  ·rw[z,e];exact λz=>nomatch z
  ·cases e1:A b with
   |none=>calc absurd e1 hb
   |some u=>rw[h b u z e1];exact λz=>nomatch z
 have Y:∀{A:Hp} {b:Addr} {o:HO},A b=some o->A b≠none:=λe z=>by rw[e]at z;cases z
 have nFx:∀b,FF b->b≠x:=λb h z=>by
  obtain⟨o,e,so⟩:=j8 b h;rw[z,S]at e;cases e;exact so
 obtain⟨bN,MN,hDo⟩:=B3 (F:=FF) (G:=U) (n:=k.n) (c:=(RS.new k).ct) (λt=>[Ga,VG,Gd2,Gd3,Gd4,Gd5,Gd6].getD t U) (λt=>t) _ (λt=>[x,W,D2,D3,D4,D5,D6].getD t x) (λt=>[λ_ _ u=>u=.lst [],λj H u=>∃vs,u=.lst vs/\∃v,vs=[v]/\HT H 2 v (xt (k.ms.getD j default).ns (k.ms.getD j default).row),λ_ _ u=>∃vs,u=.lst vs/\vs=[V.int 0]].getD t λ_ _ u=>∃vs,u=.lst vs/\vs=[]) Qn (λ_=>rfl) (λ_ _ _ _ h=>h)
  (λt=>match t with
   |0=>pz (λb o n e=>Qp _ _ (ka b o n e)) (Qp _ _ Hk)
   |1=>pz (λb o n e=>RQ _ _ (Yg b o n e)) (RQ _ _ oH)
   |2=>pz (λb o n e=>RW _ _ (RT b o n e)) (RW _ _ DA)
   |3=>pz (λb o n e=>R0 _ _ (RX b o n e)) (R0 _ _ Jm)
   |4=>pz (λb o n e=>R6 _ _ (R3 b o n e)) (R6 _ _ PZ)
   |5=>pz (λb o n e=>Sa _ _ (R7 b o n e)) (Sa _ _ Es)
   |6=>pz Sb Vj
   | (t + 7)=>λb h=>h)
  (λb h=>by
   obtain⟨o,e,so⟩:=j8 b h;calc⟨Y (nxa b o (nFx b h) e),o,L b o (nFx b h) e,so⟩)
  (λt ht=>match t,ht with
   | 0,_=>⟨⟨rfl,nofun,λa m=>by rw[List.mem_singleton.mp m];exact⟨hp,npx⟩,λj a e=>by cases j with
    |zero=>cases e;calc⟨_,V3,rfl⟩
    | succ j=>cases e⟩,λa m=>by rw[List.mem_singleton.mp m];calc Y (Qp _ _ ep),λh=>absurd h ∅⟩
   |1,_=>⟨Qw.o,Qv.some RQ,λ_=>⟨fD1,Y (RQ _ _ VJ)⟩⟩
   |2,_=>⟨Qy.o,Qx.some RW,λ_=>⟨UT,Y (RW _ _ RU)⟩⟩
   |3,_=>⟨QA.o,Qz.some R0,λ_=>⟨UX,Y (R0 _ _ RY)⟩⟩
   |4,_=>⟨QC.o,QB.some R6,λ_=>⟨fD4,Y (R6 _ _ R4)⟩⟩
   |5,_=>⟨wb.o,QE.some Sa,λ_=>⟨fD5,Y (Sa _ _ R8)⟩⟩
   |6,_=>⟨Ls.o,Ls.some (aq.refl _),λ_=>⟨fD6,Y Sd⟩⟩
   | (t + 7),h=>absurd h ())
  (λt i u ht h=>by
   match t,ht,h with
   |0,_,h=>cases h;trivial
   |1,_,⟨_,e,_⟩|2,_,⟨_,e,_⟩|3,_,⟨_,e,_⟩|4,_,⟨_,e,_⟩|5,_,⟨_,e,_⟩|6,_,⟨_,e,_⟩=>cases e;trivial
   | (t + 7),h,_=>calc absurd h ())
  (λhz _ t i u ht hi e h=>by
   match t,ht,h with
   |0,_,h=>cases h;calc(eJ.nil:eJ _ 4 [] [])
   |1,_,⟨_,e,v,M,hv⟩=>cases e;cases M;calc(eJ.one ((Hf hz hv).mono ∅):eJ _ 4 [v] [_])
   |2,_,⟨_,e,M⟩=>cases e;cases M;calc(eJ.one (.int 0):eJ _ 4 [.int 0] [.int 0])
   |3,_,⟨_,e,M⟩|4,_,⟨_,e,M⟩|5,_,⟨_,e,M⟩|6,_,⟨_,e,M⟩=>cases e;cases M;calc(eJ.nil:eJ _ 4 [] [])
   | (t + 7),h,_=>calc absurd h ())
 have R:∀b,FP k.n ad b->H b=none:=λb hb=>by
  cases j:H b with
  |none=>rfl
  |some o=>
   have e:=(MN b hb).1;have:b≠x:=λz=>by rw[z]at e;exact Y RN e
   exact absurd e (Y (nxa b o this j))
 have hR:bJ C CN CR FF U x ba k (RS.new k) ad:=by
  refine⟨⟨y,λt=>[x,W,D2,D3,D4,D5,D6].getD t x,?_,λt j l=>?_⟩,bN,?_⟩
  ·rw[Vj,BX,Qn];rfl
  ·obtain⟨X,w2,w3⟩:=hDo t j l;calc⟨?_,X,w2⟩;rw[<-w3]
   match t,j,l with
   |1,_,_=>calc MX
   |2,_,_=>calc MY
   |3,_,_=>calc MZ
   |4,_,_=>calc M0
   |5,_,_=>calc uX
   |6,_,_=>calc Sd
   |(t+7),_,h=>exact absurd h ()
  ·calc⟨⟨ms,wv,N,⟨Z,a1,b1,c1,L _ _ O I,L _ _ MO g2,L _ _ MP g3,L _ _ MQ g4⟩,mw,λi m d e1 j=>?_,Jp.aG (g _ _ L ⟨_,S⟩).2⟩,aO⟩;obtain⟨d1,s1,d2,X,w2,w3⟩:=wI i m d e1 j;have l:m≠x:=λz=>by rw[z,S] at X;exact v9 X
   exact⟨d1,s1,d2,L _ _ l X,w2.aG (g _ _ L ⟨_,S⟩).2,w3.aG (g _ _ L ⟨_,S⟩).2⟩
 have abp:=Jj.aG (g _ _ L ⟨_,S⟩).2;clear Qv Qw Qx Qy Qz QA QB QC QE wb Ls MX MY MZ M0 uX VJ Yf RU Qr RY Yh R4 Yi R8 Yj Sd Yk V3 kc0 V2 Qu MW MV Lr;walk_at "j";refine⟨ba,Z,_,rfl,L _ _ O I,eB ⋯ ⋯ ⋯,ba,ms,wv,N,rfl,⟨Z,a1,b1,c1,L _ _ O I,L _ _ MO g2,L _ _ MP g3,L _ _ MQ g4⟩,λll uN=>?_⟩;have s7:=aq.new (.lst N) uN;have ell:upd U ll (.lst N) ll=some (.lst N):=ab;generalize Vs:upd U ll (.lst N)=G7 at *;have nll:¬FP k.n ad ll:=λz=>by
  obtain⟨_,u,e,_⟩:=MN ll z;rw[uN]at e;cases e
 have g:=hR.same s7;have V4:=abp.aG s7.aM;have V5:N.length=ls.length:=by simpa using V4.1
 refine .inl ⟨⟨_,aP.of ell⟩,eU (K:=K) (xs:=N) (λi σ H'=>(∃z2 z3,σ=[some (V.ref x),some (V.ref ba),z2,z3])/\Fr (FP k.n ad) G7 H'/\bJ C CN CR FF H' x ba k ((RS.new k).nR (ls.take i)) ad) ?_ ?_ ?_ ?_⟩
 ·exact⟨⟨_,_,rfl⟩,Fr.refl,g⟩
 ·rintro i σ H' hi ⟨_,fi,_⟩;exact aP.of (fi.at ell nll)
 ·intro i z σ H' hz xU;nofun;obtain⟨⟨z2,z3,rfl⟩,fi,tf⟩:=xU;have g:i < ls.length:=by rw[<-V5];exact(List.getElem?_eq_some_iff.mp hz).1
  have j:ls[i]?=some ls[i]:=cy g;have Qm:=(V4.2 i z (nZ ls[i]) hz (by rw[List.getElem?_map,j];rfl)).aG fi.aM;have Hl:=rz _ (aae g);have Lo:(RS.new k).nR (ls.take (i+1))=((RS.new k).nR (ls.take i)).put ls[i].1.toNat ls[i].2 none:=by
   rw[List.take_succ,j];exact pK _
  generalize ls[i]=p at *;obtain⟨pj,px⟩:=p;obtain⟨tz,u1,u2,kz,rfl,Ek,y1,y2⟩:=dI Qm;obtain rfl:=y1.cB;obtain rfl:=y2.cB;ac_rfl;refine wD (bz.of Ek) ?_;walk_at "j";obtain⟨j,l,g,t⟩:=tf.ins;refine gm g (fI ⋯) ?_;have j:((pj.toNat:Nat):Int)=pj:=aaQ Hl.1;refine⟨FF,x,ba,k,_,ad,pj.toNat,px,.bC,none,by rw[j],tf,λb h=>by
   obtain⟨o,e,so⟩:=j8 b h;calc⟨o,fi.at (s7 _ _ (L b o (nFx b h) e)) (λz=>by rw[R b z] at e;cases e),so⟩,by have:=Hl.2;show pj.toNat < _;simp at this;lia,.bC,(qV (ls.take i) (Aj aO)).mono (by simp;lia),λg f2 VD=>?_⟩
  walk_at "j";refine gI ⟨_,_,rfl,rfl⟩ (fi.trans f2) ?_;rw[Lo];exact VD
 ·rintro σ H' ⟨_,fi,tf⟩;rw[V5,List.take_length]at tf;calc q ad _ (λb o n e=>?_) R tf;calc fi.at (s7 _ _ (L b o n e)) λz=>?_;rw[R b z]at e;cases e
def gA(H:Hp)(x:V)(M:Int)(ns row:List Int)(d:List bf):Prop:=∃t a b c xs,x=.ref t/\H t=some (.tup [.int M,.ref a,.ref b,.ref c])/\H a=some (.lst (ns.map V.int))/\H b=some (.lst (row.map V.int))/\H c=some (.lst xs)/\gw H 2 xs (d.map bf.dv)
theorem gA.cv{x:V}{M:Int}{a:List bf}(s:Cv H H')(h:gA H x M ns row a):gA H' x M ns row a:=by
 obtain⟨t,a,b,c,d,e,f,g,i,j,l⟩:=h;calc⟨t,a,b,c,d,e,s _ _ f (λk z=>by cases z),s _ _ g (λk z=>by cases z),s _ _ i (λk z=>by cases z),s _ _ j (λk z=>by cases z),l.aG s.aM⟩
def Ak(H:Hp)(a:List V)(gr:List MD):Prop:=a.length=gr.length/\∀(i:Nat) v d,a[i]?=some v->gr[i]?=some d->gA H v d.M d.ns d.row d.ds
theorem Ak.cv{c:List V}(s:Cv H H')(h:Ak H c gr):Ak H' c gr:=⟨h.1,λi v d a b=>(h.2 i v d a b).cv s⟩
def ToldN(H:Hp)(x:V)(gr:List MD)(ws:List (Int×Int×Str))(ls:List (Int×Int)):Prop:=∃t a b c d wv lv,x=.ref t/\H t=some (.tup [.ref a,.ref b,.ref c])/\H a=some (.lst d)/\H b=some (.lst wv)/\H c=some (.lst lv)/\Ak H d gr/\gw H 1 wv (ws.map lN)/\gw H 1 lv (ls.map nZ)
theorem ToldN.cv{x:V}(s:Cv H H')(h:ToldN H x gr ws ls):ToldN H' x gr ws ls:=by
 obtain⟨t,a,b,c,d,wv,lv,e,f,g,i,j,l,m,n⟩:=h;calc⟨t,a,b,c,d,wv,lv,e,s _ _ f (λk z=>by cases z),s _ _ g (λk z=>by cases z),s _ _ i (λk z=>by cases z),s _ _ j (λk z=>by cases z),l.cv s,m.aG s.aM,n.aG s.aM⟩
def Jt(a:V)(ev:Addr)(o:Nat->Addr):List (Key×V):=[(.inr "net",a),(.inr "put",.ref (o 4)),(.inr "sender",.ref (o 5)),(.inr "worker",.ref (o 6)),(.inr "states",.ref (o 1)),(.inr "words",.ref (o 2)),(.inr "heard",.ref (o 3)),(.inr "events",.ref ev)]
section
variable {H:Hp}{d:Addr}{tn:V}{ev:Addr}{o:Nat->Addr}
theorem DS(h:H d=some (.dK (Jt tn ev o))):fK H d (.str "net") (some tn):=.inl ⟨_,.inr "net",.inl h,rfl,by kernel_rfl⟩
theorem Lv(h:H d=some (.dK (Jt tn ev o))):fK H d (.str "put") (some (.ref (o 4))):=.inl ⟨_,.inr "put",.inl h,rfl,by kernel_rfl⟩
theorem Hm(h:H d=some (.dK (Jt tn ev o))):fK H d (.str "sender") (some (.ref (o 5))):=.inl ⟨_,.inr "sender",.inl h,rfl,by kernel_rfl⟩
theorem QF(h:H d=some (.dK (Jt tn ev o))):fK H d (.str "worker") (some (.ref (o 6))):=.inl ⟨_,.inr "worker",.inl h,rfl,by kernel_rfl⟩
theorem QG(h:H d=some (.dK (Jt tn ev o))):fK H d (.str "states") (some (.ref (o 1))):=.inl ⟨_,.inr "states",.inl h,rfl,by kernel_rfl⟩
theorem V6(h:H d=some (.dK (Jt tn ev o))):fK H d (.str "words") (some (.ref (o 2))):=.inl ⟨_,.inr "words",.inl h,rfl,by kernel_rfl⟩
theorem Lw(h:H d=some (.dK (Jt tn ev o))):fK H d (.str "heard") (some (.ref (o 3))):=.inl ⟨_,.inr "heard",.inl h,rfl,by kernel_rfl⟩
theorem QH(h:H d=some (.dK (Jt tn ev o))):fK H d (.str "events") (some (.ref ev)):=.inl ⟨_,.inr "events",.inl h,rfl,by kernel_rfl⟩
end
def _root_.DD.RS.tv(r:RS):Nat->Nat->CO
 |0,_=>.l (r.picks.map pairD)
 |1,m=>.l ((r.mm m).fN.map rQ)
 |2,m=>.l ((r.mm m).wp.map λw=>.lst (w.map .int))
 |3,m=>.l ((r.mm m).hr.map λw=>.lst (w.map .int))
 |4,w=>.l ((r.ww w).say.map .int)
 |5,w=>.l ((r.ww w).snd.map ni)
 |_,w=>.d (jC (r.ww w).eC) ((r.ww w).eC.countP Option.isSome)
theorem count_set{e:Int×Int}:∀{l:List (Option (Int×Int))}{k:Nat},l[k]?=some none->(l.set k (some e)).countP Option.isSome=l.countP Option.isSome+1
 | [],k,h=>by simp at h
 |a::r,0,h=>by simp at h;subst h;simp
 |a::r,k+1,h=>by
  have b:=count_set (e:=e) (l:=r) (k:=k) (by simpa using h);simp only[List.set_cons_succ,List.countP_cons];rw[b];lia
theorem Hn{l:List (Option (Int×Int))}{k:Nat}(h:k<l.length)(j:Int):jC (l.set k (some e)) j=if j=((k:Nat):Int) then some (pairD e) else jC l j:=by
 unfold jC;by_cases a:0<=j
 ·rw[if_pos a,if_pos a];by_cases z:j=((k:Nat):Int)
  ·subst z;rw[if_pos rfl,Int.toNat_natCast,List.getD_eq_getElem?_getD,List.getElem?_set];simp[h]
  ·rw[if_neg z,List.getD_eq_getElem?_getD,List.getElem?_set,if_neg (),<-List.getD_eq_getElem?_getD]
 ·rw[if_neg a,if_neg a,if_neg ()]
theorem DT{l:List (Option (Int×Int))}:jC (l++[none])=jC l:=by
 funext j;unfold jC;split
 ·congr 1;rw[List.getD_eq_getElem?_getD,List.getD_eq_getElem?_getD,List.getElem?_append];split
  ·rfl
  ·next z=>
   rw[List.getElem?_eq_none (l:=l) ()]
   cases a:j.toNat-l.length with
   |zero=>rfl
   |succ n=>rfl
 ·rfl
structure bW(F:Addr->Prop)(H:Hp)(d:Addr)(tn:V)(nt:NT)(r:RS)(ad:Nat->Nat->Addr):Prop where
 dk:∃o,H d=some (.dK (Jt tn (ad 0 0) o))/\¬F d/\¬FP nt.n ad d/\∀t,1<=t->t<=6->H (o t)=some (.lst (lY nt.n ad t))/\¬F (o t)/\¬FP nt.n ad (o t)
 bN:dz F H nt.n ad r.tv
 told:∃ls,ToldN (iq (λb=>F b\/FP nt.n ad b) H) tn nt.ms nt.ws ls
 ok:nt.Ok
section
variable {F:Addr->Prop}{H H':Hp}{d:Addr}{tn:V}{nt:NT}{r:RS}{ad:Nat->Nat->Addr}
theorem bW.keep(h:bW F H d tn nt r ad)(f:Fr F H H'):bW F H' d tn nt r ad:=by
 obtain⟨⟨o,g,e,i,c⟩,j,⟨ls,k⟩,l⟩:=h;calc⟨⟨o,f.at g e,e,i,λt a b=>⟨f.at (c t a b).1 (c t a b).2.1,(c t a b).2⟩⟩,j.keep f,⟨ls,k.cv (f.mono λb z=>.inl z).iq⟩,l⟩
theorem bW.same(h:bW F H d tn nt r ad)(s:aq H H'):bW F H' d tn nt r ad:=h.keep s.fr
theorem bW.own{c:RS}(h:bW F H d tn nt r ad)(f:Fr (FP nt.n ad) H H')(b:dz F H' nt.n ad c.tv):bW F H' d tn nt c ad:=by
 obtain⟨⟨o,g,i,e,c⟩,l,⟨ls,j⟩,k⟩:=h;calc⟨⟨o,f.at g e,i,e,λt a b=>⟨f.at (c t a b).1 (c t a b).2.2,(c t a b).2⟩⟩,b,⟨ls,j.cv (f.mono λb z=>.inr z).iq⟩,k⟩
end
theorem DU{l:List (Option (Int×Int))}{k:Nat}:(jC l ((k:Nat):Int)).isSome= !(l.getD k none).isNone:=by
 unfold jC;rw[if_pos (),Int.toNat_natCast]
 cases l.getD k none<;>rfl
theorem DW{H0 H:Hp}{a:Addr}{kvs:List (Key×V)}{g:Int->Option DV}{N:Nat}(e:H a=some (.dK kvs))(h:OR H0 (.d g N) (.dK kvs))(k:Int):∃o,fK H a (.int k) o/\o.isSome=(g k).isSome:=by
 calc bI _ (fK.k (k:=Sum.inl k) e) ?_;have:=h.2 k;revert this
 cases g k with
 |none=>intro h;rw[h];rfl
 |some d=>intro⟨v,h,_⟩;rw[h];rfl
abbrev kQ:Stmt:=top 63
def Ho:Sp:=λvs H Q _=>∃(F:Addr->Prop) (d:Addr) (a:V) (nt:NT) (r:RS) (ad:Nat->Nat->Addr) (m:Nat),vs=[.ref d,.int m]/\bW F H d a nt r ad/\r.Ok nt/\r.picks.length<=400/\m<nt.ws.length/\∀l H',aq H H'->H l=none->H' l=some (.lst ((r.Jr m).map λk=>.int (k:Nat)))->Q (.ref l) H'
theorem yw(D:cZ K mg "_law_lying" "_law_lying" kQ ["_law_run","_law_way"])(T:Tx K mg C CN CR F FD):Def P w K mg base "_law_lying" 1 ["_law_run","_law_way"] Ho:=by
 have sc:aB ["_law_run","_law_way"] ["_law_run","_law_way"] (ay kQ):=by walk_at "s"
 symm;obtain⟨F,d,g,z,r,ad,m,rfl,j,k,B,b,q⟩:=h;have g:=hr.units;have z:=Pd g;calc⟨_,(ak (aE (dy (N':=["_law_k","_law_way","_law_run"]) (ix:=[none,some 1,some 0]) (c8 rfl T.eR (af (bg aN rfl T.cm W' (af (aj g (aj g (au 0) aC) (au 1)) aa)) aa)) (λ_ _ _ _=>(aQ (i:=0) (show(["_law_k","_law_way","_law_run"]:List Str).Nodup by decide +kernel) rfl Sort)) (λ_ _ _ _=>(jA (NL (CS z (au 0) (fA (K:=K) rfl g (fA (K:=K) rfl g (au 2) aC) (au 1)))))) (λ_ _ _ _=>(au 0))))),?_⟩;nofun;obtain⟨o,v,z,B,g⟩:=j.dk;have G:=(g 4 ∅ ∅).1;have I:=(g 6 ∅ ∅).1;obtain⟨z,L,B⟩:=j.bN.lst (t:=4) (i:=m) b rfl;obtain⟨g,M,N⟩:=j.bN.ZD (t:=6) (i:=m) b rfl;ac_rfl;have O:z.length=(r.ww m).say.length:=by simpa using B.1
 have g:=k.bs m b;walk_at "j";refine bL ?_;walk_at "j";refine bI _ (Lv v) ?_;walk_at "j";refine bt G (aZ b) ?_;refine bI _ (.inl ⟨_,aP.of L,rfl⟩) ?_;walk_at "j";rw[O];refine gI () () (λD p=>?_);rw[Int.toNat_natCast];refine bq (J:=CA 0 (r.ww m).say.length) (n:=(r.ww m).say.length) (λi ys H'=>aq H H'/\ys=((List.range i).filter λk=>((r.ww m).eC.getD k none).isNone).map λk=>V.int (k:Nat)) (S' (small ())) ⟨aq.new _ p,rfl⟩ (λi ys H' u _=>u) (λys H' _=>P' _) ?_ ?_
 ·intro i ys H' u l y R x H2 S;nofun;obtain⟨a,rfl⟩:=R;obtain⟨rfl,rfl⟩:=S;ac_rfl;walk_at "xf";walk_at "j";refine bI _ (QF (a _ _ v)) ?_;walk_at "j";refine bt (a _ _ I) (aZ b) ?_;rw[Int.zero_add];obtain⟨U,W,X⟩:=DW (a _ _ M) N ((i:Nat):Int);refine⟨ad 6 m,U,rfl,W,?_⟩;rw[X,DU,Bool.not_not];walk_at "j";by_cases z:((r.ww m).eC.getD i none).isNone=true
  ·rw[z]
   try rw[if_pos rfl]
   calc cn l y u (S' (small ())) ⟨λc o e=>by rw[av (ao e p)];calc a _ _ e,?_⟩;rw[iD,if_pos z,List.map_append];rfl
  ·rw[Bool.not_eq_true] at z;rw[z]
   try rw[if_neg ∅]
   exact⟨_,l,(),a,by rw[iD,if_neg (by rw[z];decide),List.append_nil]⟩
 ·rintro ys H' l y ⟨a,rfl⟩;calc q _ _ a p l
def iE(nt:NT)(r:RS)(w:Nat):List Nat:=if (nt.w w).2.2="row" then(r.Jr w).take 1 else r.Jr w
def j3(nt:NT)(r:RS)(n:Nat):List (Nat×Nat):=(List.range n).flatMap λw=>(iE nt r w).map λk=>(w,k)
theorem sR{nt:NT}{n:Nat}:j3 nt r (n+1)=j3 nt r n++(iE nt r n).map λk=>(n,k):=by
 unfold j3;rw[List.range_succ,List.flatMap_append];simp
theorem gw.app{n:Nat}{vs us:List V}{c es:List DV}(h:gw H n vs c)(g:gw H n us es):gw H n (vs++us) (c++es):=by
 calc⟨by simp[h.1,g.1],λi v d a b=>?_⟩;by_cases c:i<vs.length
 ·rw[List.getElem?_append_left c]at a;rw[List.getElem?_append_left (by rw[<-h.1];calc c)]at b;exact h.2 i _ _ a b
 ·rw[List.getElem?_append_right ()]at a;rw[List.getElem?_append_right (by rw[<-h.1];lia),<-h.1]at b;calc g.2 _ _ _ a b
theorem wc{w:Nat}:(r.Jr w).length<=(r.ww w).say.length:=by
 unfold RS.Jr;calc aab (List.length_filter_le _ _) nofun
theorem uY{nt:NT}{w:Nat}:(iE nt r w).length<=(r.ww w).say.length:=by
 unfold iE;split
 ·rw[List.length_take];have:=wc (r:=r) (w:=w);lia
 ·calc wc
theorem uZ{nt:NT}{r:RS}{B:Nat}:∀n,(∀w,w<n->(r.ww w).say.length<=B)->(j3 nt r n).length<=n*B
 |0,_=>by simp[j3]
 |n+1,h=>by
  rw[sR,List.length_append,List.length_map];have a:=uZ (nt:=nt) n (λw a=>h w ());have a:=h n ();have a:=uY (nt:=nt) (r:=r) (w:=n);rw[Nat.succ_mul];lia
def pkD(p:Nat×Nat):DV:=pairD (((p.1:Nat):Int),((p.2:Nat):Int))
theorem DX{r:RS}{w k:Nat}(h:k∈(r.Jr w).take 1):∀j,j<k->((r.ww w).eC.getD j none).isNone=false:=by
 unfold RS.Jr at h;generalize b:(List.range (r.ww w).say.length).filter (λk=>((r.ww w).eC.getD k none).isNone)=l at h
 cases l with
 |nil=>simp at h
 |cons a t=>
  simp at h;subst h;intro j g;have f:(List.range (r.ww w).say.length).Pairwise (· < ·):=List.pairwise_lt_range;have c:=f.filter (λk=>((r.ww w).eC.getD k none).isNone);rw[b]at c;have f:k∈(List.range (r.ww w).say.length).filter (λk=>((r.ww w).eC.getD k none).isNone):=by rw[b];simp
  rw[List.mem_filter,List.mem_range]at f
  cases z:((r.ww w).eC.getD j none).isNone with
  |false=>rfl
  |true=>
   exfalso;have d:j∈(List.range (r.ww w).say.length).filter (λk=>((r.ww w).eC.getD k none).isNone):=by
    rw[List.mem_filter,List.mem_range];exact⟨(),z⟩
   rw[b]at d;rcases List.mem_cons.mp d with e|e
   ·lia
   ·have:=(List.pairwise_cons.mp c).1 j e;lia
theorem Hr{nt:NT}(h:r.Ok nt){w k:Nat}(c:(w,k)∈j3 nt r nt.ws.length):r.Jo nt w k:=by
 unfold j3 at c;rw[List.mem_flatMap]at c;obtain⟨j,a,c⟩:=c;rw[List.mem_range]at a;rw[List.mem_map]at c;obtain⟨j,b,e⟩:=c
 cases e;have g:k∈r.Jr w:=by
  unfold iE at b;split at b
  ·exact List.mem_of_mem_take b
  ·exact b
 have f:k<(r.ww w).say.length/\((r.ww w).eC.getD k none).isNone=true:=by
  unfold RS.Jr at g;rw[List.mem_filter,List.mem_range]at g;exact g
 have c:=h.lk w a;refine⟨a,?_,λi c=>?_⟩
 ·rw[aY (d:=none) ()]
  cases z:(r.ww w).eC.getD k none with
  |none=>rfl
  |some e=>rw[z]at f;simp at f
 ·unfold iE at b;rw[if_pos i] at b;have:=DX b (k - 1) ();rw[aY (d:=none) (show k - 1 < (r.ww w).eC.length by lia)]
  cases z:(r.ww w).eC.getD (k-1) none with
  |none=>rw[z]at this;simp at this
  |some e=>calc⟨e,rfl⟩
theorem QI{xs:List V}:dG xs none (some 1)=xs.take 1:=by
 unfold dG;have b:HT.d9 xs.length 0 none=0:=rfl;rw[b]
 cases xs with
 |nil=>simp
 |cons a r=>
  have b:HT.d9 (a::r).length (a::r).length (some 1)=1:=by
   unfold HT.d9;simp
  rw[b];simp
abbrev mI:Stmt:=top 64
def Ht:Sp:=λvs H Q _=>∃(F:Addr->Prop) (d:Addr) (a:V) (nt:NT) (r:RS) (ad:Nat->Nat->Addr),vs=[.ref d]/\bW F H d a nt r ad/\r.Ok nt/\r.picks.length<=400/\∀l ys H',aq H H'->H l=none->H' l=some (.lst ys)->gw H' 1 ys ((j3 nt r nt.ws.length).map pkD)->Q (.ref l) H'
theorem Al(D:cZ K mg "_law_free" "_law_free" mI ["_law_run"])(T:Tx K mg C CN CR F FD)(kR:Def P w K mg base "_law_lying" 1 ["_law_run","_law_way"] Ho):Def P w K mg base "_law_free" 2 ["_law_run"] Ht:=by
 have sc:aB ["_law_run","_law_free_here","_law_way","_law_told","_law_numbers"] ["_law_run"] (ay mI):=by walk_at "s"
 symm;obtain⟨F,d,tn,a,r,ad,rfl,I,dQ,DM,q⟩:=h;have S:=hr.units;refine⟨_,(ag (aR (i:=1) sc.nd rfl Sort (bu aa))
  (ag (df PassesOwn.never rfl (jB rfl T.dE (af (aj S (aj S (au 0) aC) ai) aa)) (eZ (i:=2) (j:=3) rfl sc.nd rfl rfl Sort Sort)
  (ag (aR (i:=4) sc.nd rfl Sort (aJ kR hr (af (au 0) (af (au 2) aa))))
  (ag (aT (az (aU S) (aj S (au 3) ai) aC (aH _)) (ak (aR (i:=4) sc.nd rfl Sort (rG (au 4) nv (jz ai)))) aI)
  (ak (aR (i:=1) sc.nd rfl Sort (aW cR (au 1) (dy (N':=["_law_number","_law_way"]) (ix:=[none,some 2]) (bS (pv 4)) (λ_ _ _ _=>(aQ (i:=0) (show(["_law_number","_law_way"]:List Str).Nodup by decide +kernel) rfl Sort)) oI (λ_ _ _ _=>(bD (af (au 1) (af (au 0) aa)))))))))))
  (ak (aE (au 1))))),?_⟩
 nofun;obtain⟨o,hd,nF,nP,ho⟩:=I.dk;obtain⟨ls,t,am,aw,al,mv,wv,lv,rfl,h1,h2,h3,h4,h5,U,h7⟩:=I.told;have g1:=(de h1 (λk z=>by cases z)).2;have g3:=(de h3 (λk z=>by cases z)).2
 replace U:=U.aG dJ.aM
 ac_rfl;have kd:wv.length=a.ws.length:=by simpa using U.1
 have qx:wv.length<=10:=by rw[kd];exact I.ok.F6
 have hB:∀w,w<a.ws.length->(r.ww w).say.length<=9620:=λw hw=>by have:=dQ.bs w hw;lia
 walk_at "j";refine⟨Y' _,λW Va=>?_⟩;have X:=aq.new (.lst []) Va;have Yl:upd H W (.lst []) W=some (.lst []):=ab;generalize hG0:upd H W (.lst [])=G0 at *;walk_at "j";refine DS (X _ _ hd) |> λh=>⟨_,h,?_⟩
 refine cX (X _ _ g1) (ax (j:=1) rfl) ⟨true,wv,Sq.l (X _ _ g3),kr (xs:=wv) (λi σ H'=>∃z2 z3 z4 y ys,σ=[some (V.ref d),some (V.ref y),z2,z3,z4]/\aq H H'/\H y=none/\H' y=some (.lst ys)/\gw H' 1 ys ((j3 a r i).map pkD)) ?_ ?_ ?_ ?_⟩
 ·exact⟨_,_,_,W,[],rfl,X,Va,Yl,show gw _ 1 [] [] from gw.nil⟩
 ·intro i σ H' nX;obtain⟨_,_,_,_,_,_,b,_⟩:=nX;exact Sq.l (b _ _ g3)
 ·intro i x σ H' tt hx tM Qb;nofun;obtain⟨z2,z3,z4,y,ys,rfl,b,L,p,M⟩:=tM;have Jd:i < a.ws.length:=by rw[<-kd];exact(List.getElem?_eq_some_iff.mp hx).1
  have s2:=aq.new (.tup [.int (i:Nat),x]) Qb;have V7:upd H' tt (.tup [.int (i:Nat),x]) tt=some (.tup [.int (i:Nat),x]):=ab;have DO:=(U.2 i x (lN (a.w i)) hx (by rw[List.getElem?_map,show a.ws[i]?=some (a.w i) from aY Jd];rfl)).aG (b.trans s2).aM;generalize Ja:upd H' tt (.tup [.int (i:Nat),x])=G2 at *;obtain⟨ta,u1,u2,u3,kk,rfl,tW,y1,y2,y3⟩:=bT DO;obtain rfl:=y1.cB;obtain rfl:=y2.cB;obtain rfl:=y3.cI;ac_rfl;refine wD (bz.of V7) ?_;walk_at "j";refine⟨F,d,_,a,r,ad,i,rfl,(I.same b).same s2,dQ,DM,Jd,λln H3 s3 fln u=>?_⟩;have uT:aq H' H3:=s2.trans s3;have hly:=wc (r:=r) (w:=i);have hfw:=uY (nt:=a) (r:=r) (w:=i);have hBi:=hB i Jd;walk_at "j";refine cX (s3 _ _ tW) (ax (j:=2) rfl) ?_;walk_at "j";rename_i N1 hN1 T1 U1 Lc hU1;have g:∀N G,aq H' N->N G=some (.lst ((iE a r i).map λk=>V.int ((k:Nat):Int)))->N1 [some (V.ref d),some (V.ref y),some (V.int ((i:Nat):Int)),some (V.ref ta),some (V.ref G)] N:=by
   intro N G Vb u;clear Lc hU1;walk_at "j";refine bL ?_;walk_at "j";refine .inl ⟨⟨_,aP.of u⟩,λD hD=>?_⟩;refine bq (J:=wQ K G) (n:=(iE a r i).length) (λj v H'=>aq N H'/\gw H' 1 v (((iE a r i).take j).map λk=>pkD (i,k))) (S' (small ())) ⟨aq.new _ hD,show gw _ 1 [] [] from gw.nil⟩ ?_ ?_ ?_ ?_
   ·rintro j v H' O ⟨m,_⟩;exact⟨_,_,aP.of (m _ _ u),by rw[List.getElem?_map,cy O];rfl⟩
   ·rintro v H' ⟨m,_⟩;exact⟨_,aP.of (m _ _ u),nofun⟩
   ·intro j v H' O QK lX GD xx H4 K6;nofun;obtain⟨m,R⟩:=GD;obtain⟨rfl,hy⟩:=K6;have ex:=hy _ (aP.of (m _ _ u));rw[List.getElem?_map,cy O] at ex;obtain rfl:=Option.some.inj ex;ac_rfl;walk_at "xf";walk_at "j"
    try rw[if_pos trivial]
    calc⟨dH,λt2 qj=>?_⟩;have s6:=aq.new (.tup [.int ((i:Nat):Int),.int (((iE a r i)[j]:Nat):Int)]) qj;have V9:=s6 _ _ QK;calc cn V9 lX O (S' (small ())) ⟨λc o e=>by rw[av (ao e hD)];calc s6 _ _ (m _ _ e),?_⟩;have tu:cj (upd H4 t2 (.tup [.int ((i:Nat):Int),.int (((iE a r i)[j]:Nat):Int)])) (upd (upd H4 t2 (.tup [.int ((i:Nat):Int),.int (((iE a r i)[j]:Nat):Int)])) D (.lst (v++[.ref t2]))):=(cj.refl _).upd λzs e=>by rw[V9]at e;cases e
    rw[List.take_succ,cy O,List.map_append];exact((R.aG s6.aM).snoc (dg (n:=0) ab (.int _) (.int _))).aG tu
   rintro v H6 QK lX ⟨m,R⟩;rw[List.take_length]at R;have Y:aq H' H6:=Vb.trans m;walk_at "j";refine .inl ⟨_,_,Y _ _ p,QK,?_,λlf' Wa=>?_⟩
   ·have a1:=M.1;have a2:=R.1;have a3:=uZ (nt:=a) (r:=r) (B:=9620) i (λw hw=>hB w ());simp at a1 a2;rw[sizeLine_eq];have a5:i<=9:=by lia
    have a4:i*9620<=9*9620:=Nat.mul_le_mul_right _ a5;lia
   have s7:=aq.new (.lst (ys++v)) Wa;walk_at "j";refine ZJ _ _ _ lf' _ ⟨rfl,rfl,rfl,rfl⟩ (b.trans (Y.trans s7)) ((b.trans Y).free Wa) ab ?_;rw[sR,List.map_append];refine((M.aG Y.aM).app ?_).aG s7.aM;rw[List.map_map];exact R
  by_cases Z:(a.w i).2.2="row"
  ·rw[if_pos (by simp[Z])];walk_at "j";refine .inl ⟨_,u,λG AV=>?_⟩;rw[QI];have s4:=aq.new (.lst (((r.Jr i).map λk=>V.int ((k:Nat):Int)).take 1)) AV;exact g _ G (uT.trans s4) (by unfold iE;rw[ab,if_pos Z,List.map_take])
  ·rw[if_neg (by simp[Z])];calc L2.cH (by assumption) ?_;exact g _ ln uT (by unfold iE;rw[if_neg Z];calc u)
 ·intro σ H' K8;obtain⟨z2,z3,z4,y,ys,rfl,b,L,p,M⟩:=K8;rw[kd]at M;walk_at "j";exact q _ _ _ b L p M
def Lx(H H':Hp):Prop:=∀b o,H b=some o->(∀k,o≠.own k)->H' b=some o
theorem Lx.aM(h:Lx H H'):cj H H':=λb a e=>h b _ e (λk z=>by cases z)
theorem _root_.L2.aq.Ju(s:aq H H'):Lx H H':=λb o e _=>s b o e
theorem gA.Ju{x:V}{M:Int}{a:List bf}(s:Lx H H')(h:gA H x M ns row a):gA H' x M ns row a:=by
 obtain⟨t,a,b,c,d,e,f,g,i,j,l⟩:=h;calc⟨t,a,b,c,d,e,s _ _ f (λk z=>by cases z),s _ _ g (λk z=>by cases z),s _ _ i (λk z=>by cases z),s _ _ j (λk z=>by cases z),l.aG s.aM⟩
theorem Ak.Ju{c:List V}(s:Lx H H')(h:Ak H c gr):Ak H' c gr:=⟨h.1,λi v d a b=>(h.2 i v d a b).Ju s⟩
theorem Ak.nil:Ak H [] []:=⟨rfl,λi v d a=>by simp at a⟩
theorem Ak.snoc{H:Hp}{c:List V}{gr:List MD}{v:V}{d:MD}(h:Ak H c gr)(g:gA H v d.M d.ns d.row d.ds):Ak H (c++[v]) (gr++[d]):=by
 calc⟨by simp[h.1],λi y e a b=>?_⟩;by_cases f:i<c.length
 ·rw[List.getElem?_append_left f]at a;rw[List.getElem?_append_left (by rw[<-h.1];calc f)]at b;exact h.2 i _ _ a b
 ·rw[List.getElem?_append_right ()] at a;rw[List.getElem?_append_right (by rw[<-h.1];lia),<-h.1] at b
  cases j:i-c.length with
  |zero=>rw[j]at a b;cases a;cases b;calc g
  |succ k=>rw[j]at a;simp at a
def mask(a b c:Addr)(H:Hp):Hp:=λx=>if x=a\/x=b\/x=c then some (.own 0) else H x
theorem om{c x:Addr}(d:x≠a)(e:x≠b)(f:x≠c):mask a b c H x=H x:=by unfold mask;rw[if_neg (by simp[d,e,f])]
theorem u9{c x:Addr}{o:HO}(h:mask a b c H x=some o)(d:∀k,o≠.own k):x≠a/\x≠b/\x≠c/\H x=some o:=by
 unfold mask at h;split at h
 ·cases h;exact absurd rfl (d 0)
 ·rename_i hn;simp only[not_or]at hn;calc⟨hn.1,hn.2.1,hn.2.2,h⟩
theorem Hu{c:Addr}:Lx (mask a b c H) H:=λx o e n=>(u9 e n).2.2.2
theorem yx{c:Addr}(h:∀x o,x≠a->x≠b->x≠c->H x=some o->H' x=some o):Lx (mask a b c H) (mask a b c H'):=λx o e n=>by
 obtain⟨d,f,g,i⟩:=u9 e n;rw[om d f g];calc h x o d f g i
theorem DZ{c t d f g:Addr}{xs:List V}{M:Int}{n:List bf}(p:H t=some (.tup [.int M,.ref d,.ref f,.ref g]))(q:H d=some (.lst (ns.map V.int)))(r:H f=some (.lst (row.map V.int)))(s:H g=some (.lst xs))(u:gw H 2 xs (n.map bf.dv))
  (h:∃ys,H a=some (.lst ys)) (i:∃ys,H b=some (.lst ys)) (j:∃ys,H c=some (.lst ys)) (k:d≠a/\d≠b/\d≠c) (l:f≠a/\f≠b/\f≠c) (m:g≠a/\g≠b/\g≠c):gA (mask a b c H) (.ref t) M ns row n:=by
 obtain⟨n,h⟩:=h;obtain⟨n,i⟩:=i;obtain⟨n,j⟩:=j;have o:cj H (mask a b c H):=λx ys e=>by
  rw[om (λz=>by rw[z,h]at e;cases e) (λz=>by rw[z,i]at e;cases e) (λz=>by rw[z,j]at e;cases e)];exact e
 calc⟨t,d,f,g,xs,rfl,o _ _ p,by rw[om k.1 k.2.1 k.2.2];calc q,by rw[om l.1 l.2.1 l.2.2];calc r,by rw[om m.1 m.2.1 m.2.2];calc s,u.aG o⟩
structure B4(gr:List MD)(ws:List (Int×Int×Str))(ls:List (Int×Int)):Prop where
 m1:1<=gr.length
 m5:gr.length<=5
 Fi:ws.length<=10
 QL:ls.length<=20
 mg:∀d∈gr,d.good
 wo:∀w∈ws,uL gr.length w
 lo:∀l∈ls,uM ws.length l
theorem B4.nt(h:B4 gr ws ls):(NT.mk gr ws).Ok:=⟨h.m5,h.m1,h.Fi,h.mg,h.wo⟩
abbrev pL:Stmt:=top 59
def B5(K:W.Frag):Sp:=λvs H Q _=>∃(a:Addr) (ns:List Int),vs=[.ref a]/\aP K H a (ns.map V.int)/\ns.length<=63/\∀t b c d e wv lv gr ws ls H',aq H H'->H' t=some (.tup [.ref b,.ref c,.ref d])->H' b=some (.lst e)->H' c=some (.lst wv)->H' d=some (.lst lv)->Ak H' e gr->gw H' 1 wv (ws.map lN)->gw H' 1 lv (ls.map nZ)->B4 gr ws ls->Q (.ref t) H'
theorem D0(D:cZ K mg "_law_net" "_law_net" pL ["_law_script"])(T:Tx K mg C CN CR F FD)(x:Def P w K mg base "_law_at" 1 ["_law_script","_law_k"] (Mt K))(v:Def P w K mg base "_law_digit" 1 ["_law_pot_here","_law_many"] jr)(iX:Def P w K mg base "_law_machine" 4 ["_law_pot_here"] ya)(M:Def P w K mg base "_law_pot" 1 ["_law_cell"] Gw):Def P w K mg base "_law_net" 5 ["_law_script"] (B5 K):=by
 have sc:aB ["_law_script","_law_many","_law_machines","_law_pot_here","_law_ways","_law_k","_law_letters","_law_way","_law_said"] ["_law_script"] (ay pL):=by walk_at "s"
 symm;obtain⟨a,ns,rfl,hS,Wb,q⟩:=h;have hu:=hr.units;refine⟨_,(ag (aR (i:=1) sc.nd rfl Sort (aW cR ai (aW eP (aJ x hr (af (au 0) (af ai aa))) ai)))
  (ag (gk (i:=2) sc.nd rfl Sort (N':=["_law_k","_law_script"]) (ix:=[none,some 0]) (c8 rfl T.eR (af (au 1) aa)) (λ_ _ _ _=>(aQ (i:=0) (show(["_law_k","_law_script"]:List Str).Nodup by decide +kernel) rfl Sort)) oI (λ_ _ _ _=>(aJ iX hr (af (aJ M hr (af (aJ x hr (af (au 1) (af (aW cR ai (au 0)) aa))) aa)) aa))))
  (ag (aR (i:=3) sc.nd rfl Sort (aJ M hr (af (aJ x hr (af (au 0) (af ai aa))) aa)))
  (ag (aR (i:=4) sc.nd rfl Sort (bu aa))
  (ag (df PassesOwn.never rfl (c8 rfl T.eR (af (aJ v hr (af (au 3) (af ai aa))) aa)) (aQ (i:=5) sc.nd rfl Sort)
  (ak (bP (cY oE qH qI bZ (au 4) (af (bD (af (aJ v hr (af (au 3) (af (au 1) aa))) (af (aJ v hr (af (au 3) (af (au 1) aa))) (af (aj hu (bu (af aC (af aC aa))) (aJ v hr (af (au 3) (af ai aa)))) aa)))) aa)))))
  (ag (aR (i:=3) sc.nd rfl Sort (aJ M hr (af (aJ x hr (af (au 0) (af ai aa))) aa)))
  (ag (aR (i:=6) sc.nd rfl Sort (bu aa))
  (ag (df PassesOwn.never rfl (c8 rfl T.eR (af (aJ v hr (af (au 3) (af ai aa))) aa)) (aQ (i:=5) sc.nd rfl Sort)
  (ak (aT (az (jE hu) (au 4) (bu aa) (aH _)) (ag (aR (i:=7) sc.nd rfl Sort (aJ v hr (af (au 3) (af (bg aN rfl T.cm W' (af (au 4) aa)) aa))))
  (ag (aR (i:=8) sc.nd rfl Sort (bu (af (aJ v hr (af (au 3) (af ai aa))) (af (aJ v hr (af (au 3) (af (aW qM ai ai) aa))) aa))))
  (ak (bP (cY oE qH qI bZ (au 6) (af (bD (af (au 7) (af (aj hu (au 8) (aJ v hr (af (au 3) (af ai aa)))) aa))) aa)))))) aI)))
  (ak (aE (bD (af (au 2) (af (au 4) (af (au 6) aa)))))))))))))),?_⟩
 walk_at "j";refine⟨a,ns,_,rfl,hS,(),λg=>⟨(by decide:(0:Int)<5),?_⟩⟩;have v:=aaK g (b:=5) ∅;have v:=aaD g (b:=5) ∅;walk_at "j";refine bL ?_;walk_at "j";refine gI () () (λD hD=>?_);refine bq (J:=CA 0 (1+g%5).toNat) (n:=(1+g%5).toNat) (λi ys H'=>aq H H'/\∃gr,gr.length=i/\Ak (mask D D D H') ys gr/\∀d∈gr,d.good) (S' (aA ())) ⟨aq.new _ hD,[],rfl,Ak.nil,λd hd=>by simp at hd⟩ (λi ys H' hi _=>hi) (λys H' _=>P' _) ?_ ?_
 ·intro i ys H1 hi bx hl ir x H2 iu;nofun;obtain⟨Z,gr,mw,hM,O⟩:=ir;obtain⟨rfl,rfl⟩:=iu;ac_rfl;walk_at "xf";walk_at "j";rw[if_pos trivial];refine⟨a,ns,_,rfl,Z.seq hS,(),λv=>⟨v,rfl,λp Se R oH=>⟨p,rfl,⟨_,ab,oH⟩,λt v T ld xs M mns row ds x st h1 h2 h3 h4 h5 f1 f2 f3 hg=>?_⟩⟩⟩;have q3:∀b o,H2 b=some o->x b=some o:=λb o e=>st.rest b o ((aq.new _ R) _ _ e) (ao e R);have T:=q3 _ _ bx;have p1:=(aq.new (.lst (Se.map V.int)) R) _ _ bx;have v:∀{b:Addr},upd H2 p (.lst (Se.map V.int)) b=none->b≠D:=λf=>Ne.symm (ao p1 f);refine cn T hl hi (S' (aA ())) ⟨λb o e=>by rw[av (ao e hD)];exact q3 _ _ (Z _ _ e),gr++[⟨M,mns,row,ds⟩],by simp[mw],?_,λd hd=>?_⟩
  ·have c4:Lx (mask D D D H2) (mask D D D (upd x D (.lst (ys++[.ref t])))):=yx λb o M b2 b3 e=>by rw[av M];exact q3 _ _ e
   have c5:Lx (mask D D D x) (mask D D D (upd x D (.lst (ys++[.ref t])))):=yx λb o M b2 b3 e=>by rw[av M];exact e
   exact(hM.Ju c4).snoc (gA.Ju c5 (DZ h1 h2 h3 h4 h5 ⟨_,T⟩ ⟨_,T⟩ ⟨_,T⟩ ⟨v f1,v f1,v f1⟩ ⟨v f2,v f2,v f2⟩ ⟨v f3,v f3,v f3⟩))
  ·rcases List.mem_append.mp hd with hd | hd
   ·exact O d hd
   ·simp only[List.mem_singleton]at hd;subst hd;exact hg
 intro mv H1 M4 hl v;nofun;obtain⟨Z,gr,mw,hM0,O⟩:=v;have hM:=hM0.Ju Hu;generalize hDa:D=am at *;ac_rfl;walk_at "j";refine⟨a,ns,_,rfl,Z.seq hS,(),λv=>⟨v,rfl,λp Se R oH=>?_⟩⟩;have s2:=aq.new (.lst (Se.map V.int)) R;have Ei:fF (upd H1 p (.lst (Se.map V.int))) p:=⟨_,ab,oH⟩
 generalize Ja:upd H1 p (.lst (Se.map V.int))=G2 at *;walk_at "j";refine⟨Y' _,λB v=>?_⟩;have s3:=aq.new (.lst []) v;have Vi:B≠p:=Step.ne Ei v;have hp3:=Ei.same s3;have eaw:upd G2 B (.lst []) B=some (.lst []):=ab;have faw:H1 B=none:=s2.free v;have uT:=s2.trans s3;generalize PY:upd G2 B (.lst [])=G3 at *;walk_at "j";refine mf p 11 rfl hp3 ∅ ⋯ (λx T tQ M v=>?_);refine⟨x,rfl,(),(),jf (n:=x.toNat) (λi σ H'=>(∃S,σ=[some (.ref a),some (.int (1+g%5)),some (.ref am),some (.ref p),some (.ref B),S,none,none,none])/\fF H' p/\aq H1 H'/\∃(wv:List V) (ws:List (Int×Int×Str)),H' B=some (.lst wv)/\gw H' 1 wv (ws.map lN)/\ws.length=i/\∀w∈ws,uL (1+g%5) w) ?_ ?_ ?_⟩
 ·exact⟨⟨_,rfl⟩,v.gi,v.over uT R,[],[],v.rest _ _ eaw Vi,gw.nil,rfl,λw y=>by simp at y⟩
 ·intro i σ H5 hi tM;obtain⟨⟨S,rfl⟩,U,s5,wv,ws,QM,hW,kd,KY⟩:=tM;have Hv:wv.length=i:=by have:=hW.1;simp at this;lia
  walk_at "j";refine⟨.inl ⟨rfl,_,aP.of QM⟩,?_⟩;have l5:(1+g%5).natAbs.log2<9000:=by
   have:1+g%5=1\/1+g%5=2\/1+g%5=3\/1+g%5=4\/1+g%5=5:=by lia
   rcases this with e|e|e|e|e<;>(rw[e];decide +kernel)
  refine dig U () l5 λc v h60 h61 Mw=>?_;walk_at "j";refine dig Mw.gi () l5 λm v h70 h71 PJ=>?_;have Wc:=Mw.trans PJ;walk_at "j";refine⟨dH,λl hl=>?_⟩;have Jf:=Wc.new (o:=.lst [.str "row",.str "heap"]) hl;have Z4:l≠p:=Step.ne Wc.gi hl;refine dig Jf.gi ∅ ⋯ λk W Z5 Z6 Jg=>?_;have abz:=Jf.trans Jg;obtain⟨u,ew3,hw3⟩:∃u:Str,ip [V.str "row",V.str "heap"] k=some (.str u)/\(u="row"\/u="heap"):=by
   have:k=0\/k=1:=by lia
   rcases this with rfl|rfl
   ·exact⟨_,ax (j:=0) rfl,.inl rfl⟩
   ·exact⟨_,ax (j:=1) rfl,.inr rfl⟩
  walk_at "j";refine bt (Jg.rest _ _ ab Z4) ew3 ?_;walk_at "j";refine⟨by show 3<=sizeLine;decide,λt ht=>?_⟩;have I:=abz.new (o:=.tup [.int c,.int m,.str u]) ht;have Wd:=I.rest _ _ QM Vi;have eT:upd W t (.tup [.int c,.int m,.str u]) t=some (.tup [.int c,.int m,.str u]):=ab;have X:=I.gi;have tA:=I.aM U;have sA:aq H1 (upd W t (.tup [.int c,.int m,.str u])):=I.over s5 R;generalize hGA:upd W t (.tup [.int c,.int m,.str u])=GA at *;walk_at "j";have tB:cj GA (upd GA B (.lst (wv++[.ref t]))):=(cj.refl _).upd λys e=>by rw[Wd]at e;cases e
  refine⟨_,Wd,aA (),⟨_,rfl⟩,X.upd (Ne.symm Vi),λb o e=>by rw[av (ao e faw)];calc sA _ _ e,wv++[.ref t],ws++[(c,m,u)],ab,?_,by simp[kd],λw y=>?_⟩
  ·have h6:=((hW.aG tA).snoc (me (n:=0) eT (.int c) (.int m) (.str u))).aG tB;simpa[lN] using h6
  ·rcases List.mem_append.mp y with y | y
   ·exact KY w y
   ·simp only[List.mem_singleton]at y;subst y;exact⟨h60,h61,h70,h71,hw3⟩
 intro σ H5 xT;obtain⟨⟨S,rfl⟩,U,s5,wv,ws,QM,hW,kd,KY⟩:=xT;have Hv:wv.length=ws.length:=by have:=hW.1;simpa using this
 have Jc:=s5 _ _ M4;have hM5:=hM.Ju s5.Ju;walk_at "j";refine⟨a,ns,_,rfl,(Z.trans s5).seq hS,(),λv=>⟨v,rfl,λL Y Kh u=>?_⟩⟩;have s6:=aq.new (.lst (Y.map V.int)) Kh;have hp6:fF (upd H5 L (.lst (Y.map V.int))) L:=⟨_,ab,u⟩
 generalize Mv:upd H5 L (.lst (Y.map V.int))=G6 at *;walk_at "j";refine⟨Y' _,λG u=>?_⟩;have s7:=aq.new (.lst []) u;have PX:G≠L:=Step.ne hp6 u;have hp7:=hp6.same s7;have eal:upd G6 G (.lst []) G=some (.lst []):=ab;have fal:H5 G=none:=s6.free u;have RL:=s6.trans s7;generalize Vs:upd G6 G (.lst [])=G7 at *;walk_at "j";refine mf L 13 rfl hp7 ∅ ⋯ (λu M v x Jf=>?_);refine⟨u,rfl,(),(),jf (n:=u.toNat) (λi σ H'=>(∃S z7 z8,σ=[some (.ref a),some (.int (1+g%5)),some (.ref am),some (.ref L),some (.ref B),S,some (.ref G),z7,z8])/\fF H' L/\aq H5 H'/\∃(lv:List V) (ls:List (Int×Int)),H' G=some (.lst lv)/\gw H' 1 lv (ls.map nZ)/\ls.length<=i/\∀l∈ls,uM ws.length l) ?_ ?_ ?_⟩
 ·exact⟨⟨_,_,_,rfl⟩,Jf.gi,Jf.over RL Kh,[],[],Jf.rest _ _ eal PX,gw.nil,P' _,λw y=>by simp at y⟩
 ·intro i σ W hi xU;obtain⟨⟨S,z7,z8,rfl⟩,hp9,N,lv,ls,Jj,hL,uN,rz⟩:=xU;have i:lv.length=ls.length:=by have:=hL.1;simpa using this
  have abD:=N _ _ QM;walk_at "j";refine⟨Y' _,λl0 i=>?_⟩;have r:=aq.new (.lst []) i;have Hw:=r _ _ abD;have Yl:upd W l0 (.lst []) l0=some (.lst []):=ab;have Hx:=r _ _ Jj;have QN:=hp9.same r;have D7:=N.trans r;have We:=hL.aG r.aM;generalize Vu:upd W l0 (.lst [])=G10 at *;walk_at "j"
  cases ws with
  |nil=>
   have Vc:wv=[]:=by simpa using Hv
   subst Vc;calc .inl ⟨.inr ⟨_,_,_,_,rfl,rfl,.inr ⟨aP.of Hw,aP.of Yl⟩,rfl,λj u v hu=>by simp at hu⟩,?_⟩;walk_at "j"
   try rw[if_neg Bool.false_ne_true]
   calc⟨⟨_,_,_,rfl,rfl,rfl⟩,QN,D7,lv,ls,Hx,We,(),rz⟩
  |cons i u=>
   have hwp:0<(wv.length:Int):=by rw[Hv];simp
   have i:wv.length<=10:=by lia
   calc .inr ⟨⟨_,_,by simp[Hv],.inl ⟨aP.of Hw,aP.of Yl⟩⟩,?_⟩;walk_at "j"
   try rw[if_pos trivial]
   refine bI _ (.inl ⟨_,aP.of Hw,rfl⟩) ?_;have i:((wv.length:Nat):Int).natAbs.log2<9000:=GC hwp ();refine dig QN hwp i λc u abE abF Wf=>?_;walk_at "j";refine dig Wf.gi ∅ ⋯ λm v i u abG=>?_;have Hy:=Wf.trans abG;walk_at "j";refine⟨zS,dig Hy.gi Px Py λe3 Qg i abH abI=>?_⟩;have Hz:=Hy.trans abI;walk_at "j";refine⟨dH,λYo i=>?_⟩;have QO:=Hz.new (o:=.lst [.int m,.int e3]) i;have abJ:Yo≠L:=Step.ne Hz.gi i;have abK:upd Qg Yo (.lst [.int m,.int e3]) Yo=some (.lst [.int m,.int e3]):=ab;generalize abL:upd Qg Yo (.lst [.int m,.int e3])=G14 at *;walk_at "j";have Wh:=QO.rest _ _ Hx PX;walk_at "j";refine⟨.inl ⟨rfl,_,aP.of Wh⟩,?_⟩;refine dig QO.gi ∅ ⋯ λk Wi Z5 Z6 DE=>?_;have QP:=QO.trans DE;have i:(10:Int)^Int.toNat 60=1000000000000000000000000000000000000000000000000000000000000:=by decide +kernel
   rw[i]at abH;obtain⟨z,ez,hz0,Ej⟩:∃z:Int,ip [V.int m,V.int e3] k=some (.int z)/\1-1000000000000000000000000000000000000000000000000000000000000<=z/\z<1000000000000000000000000000000000000000000000000000000000000:=by
    have:k=0\/k=1:=by lia
    rcases this with rfl|rfl
    ·exact⟨_,ax (j:=0) rfl,(),()⟩
    ·exact⟨_,ax (j:=1) rfl,(),()⟩
   walk_at "j";refine bt (DE.rest _ _ abK abJ) ez ?_;walk_at "j";refine⟨dH,λt ht=>?_⟩;have I:=QP.new (o:=.tup [.int c,.int z]) ht;have Wj:=I.rest _ _ Hx PX;have eT:upd Wi t (.tup [.int c,.int z]) t=some (.tup [.int c,.int z]):=ab;have X:=I.gi;have tA:=I.aM QN;have sA:aq H5 (upd Wi t (.tup [.int c,.int z])):=I.over D7 Kh;generalize hGA:upd Wi t (.tup [.int c,.int z])=GA at *;walk_at "j";have tB:cj GA (upd GA G (.lst (lv++[.ref t]))):=(cj.refl _).upd λys e=>by rw[Wj]at e;cases e
   refine⟨_,Wj,aA (),⟨_,_,_,rfl,rfl,rfl⟩,X.upd (Ne.symm PX),λb o e=>by rw[av (ao e fal)];calc sA _ _ e,lv++[.ref t],ls++[(c,z)],ab,?_,by simp;lia,λl hl=>?_⟩
   ·have h6:=((We.aG tA).snoc (dg (n:=0) eT (.int c) (.int z))).aG tB;simpa[nZ] using h6
   ·rcases List.mem_append.mp hl with hl | hl
    ·exact rz l hl
    ·simp only[List.mem_singleton]at hl;subst hl;exact⟨abE,by have:=abF;rw[Hv]at this;calc this,hz0,Ej⟩
 intro σ W GD;obtain⟨⟨S,z7,z8,rfl⟩,hp9,N,lv,ls,Jj,hL,uN,rz⟩:=GD;walk_at "j";refine⟨by show 3<=sizeLine;decide,λt ht=>?_⟩;have r:=aq.new (.tup [.ref am,.ref B,.ref G]) ht;refine q t am B G mv wv lv gr ws ls _ (Z.trans (s5.trans (N.trans r))) ab (r _ _ (N _ _ Jc)) (r _ _ (N _ _ QM)) (r _ _ Jj) (hM5.Ju (N.trans r).Ju) (hW.aG (N.trans r).aM) (hL.aG r.aM) ⟨(),(),(),(),O,λw y=>?_,rz⟩;have e:((gr.length:Nat):Int)=1+g%5:=by lia
 rw[e];calc KY w y
def Sf(M:Int)(ns row:List Int)(a:List bf):DV:=.tup [.int M,.lst (ns.map .int),.lst (row.map .int),.lst (a.map bf.dv)]
theorem iF(v:Val):vL v.dv:=by
 cases v<;>(calc .tup λe a=>?_;simp at a)<;>first|(rcases a with rfl|rfl;calc .str _;calc .int _)|(subst a;calc .str _)
theorem HA(d:bf):vL d.dv:=by
 cases d with
 |set i v=>calc .tup λe a=>?_;simp at a;rcases a with rfl|rfl|rfl;calc .str _;calc .int _;calc iF v
 |add i v=>calc .tup λe a=>?_;simp at a;rcases a with rfl|rfl|rfl;calc .str _;calc .int _;calc iF v
 |times i v=>calc .tup λe a=>?_;simp at a;rcases a with rfl|rfl|rfl;calc .str _;calc .int _;calc iF v
 |put v=>calc .tup λe a=>?_;simp at a;rcases a with rfl|rfl;calc .str _;calc iF v
 |drop=>calc .tup λe a=>?_;simp at a;subst a;calc .str _
 |send j v=>calc .tup λe a=>?_;simp at a;rcases a with rfl|rfl|rfl;calc .str _;calc .int _;calc iF v
 |say v=>calc .tup λe a=>?_;simp at a;rcases a with rfl|rfl;calc .str _;calc iF v
 |skip v w k=>calc .tup λe a=>?_;simp at a;rcases a with rfl|rfl|rfl|rfl;calc .str _;calc iF v;calc iF w;calc .int _
theorem oq:vL (.lst (ns.map .int)):=.lst λe a=>by
 obtain⟨z,_,rfl⟩:=List.mem_map.mp a;calc .int z
theorem va{a:List bf}:vL (.lst (a.map bf.dv)):=.lst λe b=>by
 obtain⟨z,_,rfl⟩:=List.mem_map.mp b;calc HA z
theorem pM{n:Nat}{vs:List V}{b:List DV}(e:H a=some (.lst vs))(h:eJ H n vs b):HD H (n+1) (.ref a) (.lst b):=.lst e h.1 h.2
theorem gw.L6{n:Nat}{vs:List V}{c:List DV}(h:gw H n vs c):eJ H n vs c:=⟨h.1,λi v d a b=>(h.2 i v d a b).hd⟩
theorem Lz{K:W.Frag}{c:Addr}{d d':MD}(h:gA H (.ref a) d.M d.ns d.row d.ds)(h':gA H (.ref c) d'.M d'.ns d'.row d'.ds):∃b,Zy K H 19 a c b/\(b=true->Sf d.M d.ns d.row d.ds=Sf d'.M d'.ns d'.row d'.ds):=by
 obtain⟨t,s,u,v,L,e,n,o,p,q,r⟩:=h;obtain⟨L,s,t,u,v,w,j,i,k,z,A⟩:=h'
 cases e
 cases w;obtain⟨h,B,C⟩:=vM (K:=K) (H:=H) 4 (x:=.int d.M) (y:=.int d'.M) (m:=4) (.int _) (.int _) (.int _) (.int _);obtain⟨s,D,E⟩:=vM (K:=K) (H:=H) 4 (m:=4) (pM o (eJ.ints d.ns)) (pM i (eJ.ints d'.ns)) oq oq;obtain⟨t,F,G⟩:=vM (K:=K) (H:=H) 4 (m:=4) (pM p (eJ.ints d.row)) (pM k (eJ.ints d'.row)) oq oq;obtain⟨o,I,J⟩:=vM (K:=K) (H:=H) 4 (m:=4) (pM q ((r.L6).mono ∅)) (pM z ((A.L6).mono ∅)) va va;refine⟨_,⟨_,_,λi=>match i with
  |0=>h
  |1=>s
  |2=>t
  | _=>o,.inl ⟨bz.of n,bz.of j⟩,λi u v f g=>?_,rfl⟩,λl=>?_⟩
 ·match i,f,g with
  |0,f,g=>simp at f g;subst f g;calc B.mono ∅
  |1,f,g=>simp at f g;subst f g;calc D.mono ∅
  |2,f,g=>simp at f g;subst f g;calc F.mono ∅
  |3,f,g=>simp at f g;subst f g;calc I.mono ∅
  |(n+4),f,g=>simp at f
 ·simp[List.range_succ]at l;obtain⟨f,g,h,i⟩:=l;unfold Sf;rw[C.mp f,E.mp g,G.mp h,J.mp i]
theorem LC{C:Addr}{M c:Int}{a b:List Int}{d f:List bf}(e:Sf M ns row d=Sf c a b f)(h:gR C H m M ns row d):gR C H m c a b f:=by
 unfold Sf at e;simp only[DV.tup.injEq,List.cons.injEq,DV.int.injEq,DV.lst.injEq,and_true]at e;obtain⟨g,i,j,k⟩:=e;obtain⟨l,st,dd,n,o,p⟩:=h;subst g;refine⟨l,st,dd,n,?_,?_⟩
 ·show HT H 2 st (.tup [.tup (a.map .int),.tup (b.map .int)]);rw[<-i,<-j];exact o
 ·rw[<-k];calc p
theorem jO{C:Addr}{M:Int}{a:List bf}(t:cj H H')(i:∀b c d e,H b=some (.ins c d e)->H' b=some (.ins c d e))(h:gR C H m M ns row a):gR C H' m M ns row a:=by
 obtain⟨a,st,dd,f,g,j⟩:=h;calc⟨a,st,dd,i _ _ _ _ f,g.aG t,j.aG t⟩
abbrev hX:Stmt:=top 66
inductive yy(C CN:Addr)(vs:List V)(H:Hp)(Q:VK):Prop
 |mk (x:V) (gr:List MD) (ws:List (Int×Int×Str)) (ls:List (Int×Int)) (h0:vs=[x]) (h1:ToldN H x gr ws ls) (h2:B4 gr ws ls) (h3:∀n ms wv lv H',aq H H'->sx C CN H' n ⟨gr,ws⟩->kK CN H' n ms wv lv->gw H' 1 lv (ls.map nZ)->Q (.ref n) H'):yy C CN vs H Q
def vb(C CN:Addr):Sp:=λvs H Q _=>yy C CN vs H Q
theorem sS(D:cZ K mg "_law_net_made" "_law_net_made" hX ["_law_net_here"])(T:Tx K mg C CN CR F FD)(pN:vK P w K mg base "Machine" C 7 ["self","modulus","numbers","row","deeds"] (BH C))(HB:vK P w K mg base "Net" CN 7 ["self","machines","ways","letters"] (yo C CN)):Def P w K mg base "_law_net_made" 9 ["_law_net_here"] (vb C CN):=by
 have sc:aB ["_law_net_here","_law_machines","_law_k","_law_one"] ["_law_net_here"] (ay hX):=by walk_at "s"
 symm;obtain⟨x,gr,ws,ls,rfl,hT,g,q⟩:=h;have r:=hr.units;refine⟨_,(ag (aR (i:=1) sc.nd rfl Sort (bu aa))
  (ag (df PassesOwn.never rfl (jB rfl T.dE (af (aj r (au 0) ai) aa)) (eZ (i:=2) (j:=3) rfl sc.nd rfl rfl Sort Sort)
  (ak (aT (PW.pt (pw_and (az oT (au 2) ai (aH _)) (pw_and1 (az (Ks r) (au 3) (aj r (aj r (au 0) ai) ai) (aH _))))) (ak (bP (cY oE qH qI bZ (au 1) (af (aj r (au 1) ai) aa)))) (ak (bP (cY oE qH qI bZ (au 1) (af (xo pN hr (af (aj r (au 3) ai) (af (cQ cf rfl T.dX ke (af (aj r (au 3) ai) aa)) (af (cQ cf rfl T.dX ke (af (aj r (au 3) ai) aa)) (af (cQ cf rfl T.dX ke (af (aj r (au 3) ai) aa)) aa))))) aa)))))))
  (ak (aE (xo HB hr (af (au 1) (af (cQ cf rfl T.dX ke (af (aj r (au 0) ai) aa)) (af (cQ cf rfl T.dX ke (af (aj r (au 0) ai) aa)) aa)))))))),?_⟩
 obtain⟨t,am,aw,al,L,wv,lv,rfl,ht,M4,QM,Jj,hM,hW,hL⟩:=id hT;have ahF:L.length<=5:=by have:=hM.1;have:=g.m5;lia
 walk_at "j";refine⟨Y' _,λu N=>?_⟩;have s0:=aq.new (.lst []) N;have elm:upd H u (.lst []) u=some (.lst []):=ab;generalize hG0:upd H u (.lst [])=G0 at *;walk_at "j";refine cX (s0 _ _ ht) (ax (j:=0) rfl) ⟨true,L,Sq.l (s0 _ _ M4),kr (xs:=L) (λi σ H'=>∃(z2 z3:Option V) (ms:List Addr),σ=[some (V.ref t),some (V.ref u),z2,z3]/\aq H H'/\H' u=some (.lst (ms.map V.ref))/\ms.length=i/\(∀(j:Nat) m d,ms[j]?=some m->gr[j]?=some d->RC C H' m d)) ?_ ?_ ?_ ?_⟩
 ·exact⟨_,_,[],rfl,s0,elm,rfl,λj m d e=>by simp at e⟩
 ·intro i σ H' ir;obtain⟨_,_,_,_,s1,_⟩:=ir;exact Sq.l (s1 _ _ M4)
 ·intro i x σ H' tt hx iu Qb;nofun;obtain⟨z2,z3,ms,rfl,s1,DQ,DR,Z⟩:=iu;have hiv:i < L.length:=(List.getElem?_eq_some_iff.mp hx).1;have iq:i < gr.length:=by have:=hM.1;lia
  have I:=g.mg _ (aae iq);have s2:=aq.new (.tup [.int (i:Nat),x]) Qb;have V7:upd H' tt (.tup [.int (i:Nat),x]) tt=some (.tup [.int (i:Nat),x]):=ab;generalize Ja:upd H' tt (.tup [.int (i:Nat),x])=B at *;ac_rfl;have vY:=s1.trans s2;have M5:=(hM.2 i x gr[i] hx (cy iq)).cv vY.cv;have O:=s2 _ _ DQ;calc wD (bz.of V7) ?_;obtain⟨ta,ln,lr,ld,Y,rfl,h1,h2,h3,h4,h5⟩:=id M5;walk_at "j";rename_i T2 U2 O0 hU2;have mk:U2 [some (V.ref t),some (V.ref u),some (V.int ((i:Nat):Int)),some (V.ref ta)] B:=by
   clear O0 T2;generalize hmd:gr[i]=p at *;walk_at "j";refine⟨.inl ⟨rfl,_,aP.of O⟩,?_⟩;refine cX h1 (ax (j:=0) rfl) ?_;refine cX h1 (ax (j:=1) rfl) ?_;walk_at "j";refine bI _ (.inl (aP.of h2)) (λG KU=>?_);have s4:=aq.new (.lst (p.ns.map V.int)) KU;refine cX (s4 _ _ h1) (ax (j:=2) rfl) ?_;walk_at "j";refine bI _ (.inl (aP.of (s4 _ _ h3))) (λJ AV=>?_);have Yp:=aq.new (.lst (p.row.map V.int)) AV;refine cX (Yp _ _ (s4 _ _ h1)) (ax (j:=3) rfl) ?_;walk_at "j";refine bI _ (.inl (aP.of (Yp _ _ (s4 _ _ h4)))) (λl3 Jn=>?_);have R:=aq.new (.lst Y) Jn;have s46:=s4.trans (Yp.trans R);have n:=R _ _ (Yp _ _ (ab (H:=B) (a:=G) (o:=.lst (p.ns.map V.int))));have y:=R _ _ (ab (H:=upd B G (.lst (p.ns.map V.int))) (a:=J) (o:=.lst (p.row.map V.int)));have e3:upd (upd (upd B G (.lst (p.ns.map V.int))) J (.lst (p.row.map V.int))) l3 (.lst Y) l3=some (.lst Y):=ab;generalize Mv:upd (upd (upd B G (.lst (p.ns.map V.int))) J (.lst (p.row.map V.int))) l3 (.lst Y)=G6 at *;intro m S zz UY abO;have U:aq G6 (upd (upd G6 S (.own m)) m (.ins C S [])):=λb o e=>by rw[av (ao e zz),av (ao e UY)];exact e
   have Wk:=s46.trans U;refine⟨m,S,p.M,G,J,l3,p.ns,p.row,Y,p.ds,2,rfl,ab,I.m2,I.ZC,.inl (U _ _ n),.inl (U _ _ y),.inl (U _ _ e3),I.l1,I.l4,I.r12,I.bn,I.br,(h5.aG Wk.aM).dl,∅,I.XU,I.ok,λH8 B2 hk=>⟨rfl,?_⟩⟩;have W:aq B H8:=λb o e=>hk b o (ao (s46 _ _ e) zz) (Wk _ _ e);have QS:=W _ _ O;walk_at "j";refine gJ _ QS (aA (by simp;lia)) ?_;have t7:cj H8 (upd H8 u (.lst (ms.map V.ref++[.ref m]))):=(cj.refl _).upd λzs e=>by rw[QS]at e;cases e
   have i7:∀b c d e,H8 b=some (.ins c d e)->upd H8 u (.lst (ms.map V.ref++[.ref m])) b=some (.ins c d e):=λb c d e h=>by
    rw[av (λz=>by subst z;rw[QS]at h;cases h)];exact h
   walk_at "j";refine⟨_,_,ms++[m],⟨rfl,rfl⟩,λb o e=>?_,by rw[List.map_append];exact ab,by simp[DR],λj m' d n y=>?_⟩
   ·rw[av (ao e N)];exact W _ _ (vY _ _ e)
   ·by_cases hj:j < ms.length
    ·rw[List.getElem?_append_left hj]at n;exact jO t7 i7 ((Z j m' d n y).same (s2.trans W))
    ·rw[List.getElem?_append_right ()] at n
     cases DY:j-ms.length with
     |succ k=>rw[DY]at n;simp at n
     |zero=>
      rw[DY]at n;nofun;obtain rfl:=Option.some.inj n;have Rz:j=i:=by lia
      subst Rz;rw[cy iq,hmd]at y;obtain rfl:=Option.some.inj y;ac_rfl;exact jO t7 i7 B2
  by_cases h0:0<i
  ·rw[if_pos (by simpa using h0)];have Wl:0 < gr.length:=by lia
   have Wm:0<L.length:=by lia
   have Am:=(hM.2 0 L[0] gr[0] (cy Wm) (cy Wl)).cv vY.cv;have ht0:∃c,L[0]=.ref c:=by
    obtain⟨c,_,_,_,_,e,_⟩:=Am;exact⟨c,e⟩
   obtain⟨c,ec⟩:=ht0;rw[ec]at Am;calc cX (vY _ _ ht) (ax (j:=0) rfl) ?_;calc bt (vY _ _ M4) (ax (j:=0) (v:=.ref c) (by rw[<-ec];calc cy Wm)) ?_;obtain⟨b,Z9,RE⟩:=Lz (K:=K) M5 Am;refine ZH ta c b rfl rfl Z9 ?_
   cases b with
   |false=>rw[if_neg ∅];calc mk
   |true=>
    have RE:=RE rfl;rw[if_pos rfl];clear mk;walk_at "j";refine⟨.inl ⟨rfl,_,aP.of O⟩,?_⟩;have zM:0<ms.length:=by lia
    refine bt O (ax (j:=0) (v:=.ref ms[0]) (by rw[List.getElem?_map,cy zM];rfl)) ?_;walk_at "j";refine gJ _ O (aA (by simp;lia)) ?_;have t7:cj B (upd B u (.lst (ms.map V.ref++[.ref ms[0]]))):=(cj.refl _).upd λzs e=>by rw[O]at e;cases e
    have i7:∀b c d e,B b=some (.ins c d e)->upd B u (.lst (ms.map V.ref++[.ref ms[0]])) b=some (.ins c d e):=λb c d e h=>by
     rw[av (λz=>by subst z;rw[O]at h;cases h)];exact h
    walk_at "j";refine⟨_,_,ms++[ms[0]],⟨rfl,rfl⟩,λb o e=>?_,by rw[List.map_append];exact ab,by simp[DR],λj m' d n y=>?_⟩
    ·rw[av (ao e N)];exact vY _ _ e
    ·by_cases hj:j < ms.length
     ·rw[List.getElem?_append_left hj]at n;exact jO t7 i7 ((Z j m' d n y).same s2)
     ·rw[List.getElem?_append_right ()] at n
      cases DY:j-ms.length with
      |succ k=>rw[DY]at n;simp at n
      |zero=>
       rw[DY]at n;nofun;obtain rfl:=Option.some.inj n;have Rz:j=i:=by lia
       subst Rz;rw[cy iq]at y;obtain rfl:=Option.some.inj y;ac_rfl;exact LC RE.symm (jO t7 i7 ((Z 0 ms[0] gr[0] (cy zM) (cy Wl)).same s2))
  ·rw[if_neg (by simpa using h0),if_neg ∅];exact mk
 ·intro σ H4 nX;obtain⟨z2,z3,ms,rfl,s5,bx,DR,Z⟩:=nX;have mw:ms.length=gr.length:=by have:=hM.1;lia
  have zV:=s5 _ _ ht;walk_at "j";refine cX zV (ax (j:=1) rfl) ?_;walk_at "j";refine bI _ (.inl (aP.of (s5 _ _ QM))) (λG KU=>?_);have R:=aq.new (.lst wv) KU;refine cX (R _ _ zV) (ax (j:=2) rfl) ?_;walk_at "j";refine bI _ (.inl (aP.of (R _ _ (s5 _ _ Jj)))) (λJ AV=>?_);have U:=aq.new (.lst lv) AV;have n:=U _ _ (ab (H:=H4) (a:=G) (o:=.lst wv));have y:upd (upd H4 G (.lst wv)) J (.lst lv) J=some (.lst lv):=ab;have wH:=R.trans U;generalize Vs:upd (upd H4 G (.lst wv)) J (.lst lv)=G7 at *;have kd:wv.length=ws.length:=by have:=hW.1;simpa using this
  have uN:lv.length=ls.length:=by have:=hL.1;simpa using this
  intro x S hx UY abO;have s8:aq G7 (upd (upd G7 S (.own x)) x (.ins CN S [])):=λb o e=>by rw[av (ao e hx),av (ao e UY)];exact e
  have s58:=s5.trans (wH.trans s8);have hgm:=g.m1;have ahJ:=g.m5;have hgw:=g.Fi;have Mz:=g.QL;refine⟨x,S,u,G,J,ms,wv,lv,ws,ls,rfl,ab,s8 _ _ (wH _ _ bx),s8 _ _ n,s8 _ _ y,(),(),(),(),λm hm=>?_,hW.aG s58.aM,hL.aG s58.aM,λw hw=>by rw[mw];calc g.wo w hw,λl hl=>by rw[kd];calc g.lo l hl,λH9 hn9 hk9=>⟨rfl,?_⟩⟩
  ·nofun;obtain⟨j,hj,rfl⟩:=List.getElem_of_mem hm;obtain⟨wC,AB,IT,h1,_,_⟩:=(Z j _ gr[j] (cy hj) (cy ())).same (wH.trans s8);ac_rfl;exact⟨_,_,h1⟩
  ·have Sg:aq H4 H9:=λb o e=>hk9 b o (ao (wH _ _ e) hx) (s8 _ _ (wH _ _ e));have X:=s5.trans Sg;calc q x ms wv lv H9 X ⟨⟨ms,wv,lv,hn9,mw,λj m d a b=>(Z j m d a b).same Sg,hW.aG X.aM⟩,g.nt⟩ hn9 (hL.aG X.aM)
def ou(n:NT)(r:RS)(w k:Nat):List Int:=match (r.ww w).snd.getD k none with
 |none=>(r.mm (n.goal w)).hr.bE (List.replicate n.ms.length 0)
 |some (s,c)=>List.zipWith max ((r.mm (n.goal w)).hr.bE (List.replicate n.ms.length 0)) ((r.mm s.toNat).hr.getD (c-1).toNat [])
theorem LD{n:NT}{w k:Nat}:n.gH r w k=(ou n r w k).set (n.goal w) (n.ev r w).2:=rfl
theorem LF{l:List Int}{m:Nat}{c:Int}{n:Nat}(a:l.length=n)(b:m<n):((List.range n).map λj=>V.int (l.getD j 0+(if decide (((j:Nat):Int)=((m:Nat):Int))=true then 1 else 0))).set m (.int c)=(l.set m c).map V.int:=by
 apply List.ext_getElem (by simp[a]);intro j b d;have e:j<n:=by simpa using b
 simp only[List.getElem_map,List.getElem_set,List.getElem_range];by_cases z:m=j
 ·rw[if_pos z,if_pos z]
 ·rw[if_neg z,if_neg z,if_neg (by simp;lia),getD_at (cy ()),Int.add_zero]
theorem QT{l:List (Option (Int×Int))}{k:Nat}{kvs:List (Key×V)}{v:V}(h:OR H0 (.d (jC l) (l.countP Option.isSome)) (.dK kvs))(a:l[k]?=some none)(b:HD H0 4 v (pairD e)):OR H0 (.d (jC (l.set k (some e))) ((l.set k (some e)).countP Option.isSome)) (.dK (putK kvs (Sum.inl ((k:Nat):Int)) v)):=by
 have c:k<l.length:=(List.getElem?_eq_some_iff.mp a).1;have f:dW kvs (Sum.inl ((k:Nat):Int))=none:=by
  have:=h.2 ((k:Nat):Int);have g:jC l ((k:Nat):Int)=none:=by
   unfold jC;rw[if_pos (),Int.toNat_natCast,getD_at a];rfl
  rw[g]at this;exact this
 refine⟨?_,λj=>?_⟩
 ·rw[E9 v f,count_set a,List.length_append,List.length_singleton];have:=h.1;lia
 ·rw[Hn c,q9];by_cases z:j=((k:Nat):Int)
  ·rw[if_pos z,if_pos (by rw[z])];exact⟨v,rfl,b⟩
  ·rw[if_neg z,if_neg (λq=>z (Sum.inl.inj q))];calc h.2 j
theorem LG{r:RS}{n:NT}{w k:Nat}:∀t i,i<n.n t->setC (setC (setC (setC (setC r.tv 3 (n.goal w) (.l (((r.mm (n.goal w)).hr.map λu=>DV.lst (u.map .int))++[.lst ((n.gH r w k).map .int)]))) 6 w (.d (jC ((r.ww w).eC.set k (some (n.ev r w)))) (((r.ww w).eC.set k (some (n.ev r w))).countP Option.isSome))) 1 (n.goal w) (.l ((r.mm (n.goal w)).fN.map rQ++[rQ ((n.work r w k).ns,(n.work r w k).row)]))) 2 (n.goal w) (.l (((r.mm (n.goal w)).wp.map λu=>DV.lst (u.map .int))++[.lst (((r.mm (n.goal w)).wp.bE []++(n.work r w k).words).map .int)]))) 0 0 (.l (r.picks.map pairD++[pairD ((w:Int),(k:Int))])) t i=(r.step n w k).tv t i:=by
 intro t i a;unfold setC
 match t,a with
 |0,a=>
  have:i=0:=by have:i<1:=a;lia
  subst this;simp[RS.tv,RS.step]
 |1,_=>by_cases e:i=n.goal w<;>simp[RS.tv,RS.step,e]
 |2,_=>by_cases e:i=n.goal w<;>simp[RS.tv,RS.step,e]
 |3,_=>by_cases e:i=n.goal w<;>simp[RS.tv,RS.step,e]
 |4,_=>by_cases e:i=w<;>simp[RS.tv,RS.step,e]
 |5,_=>by_cases e:i=w<;>simp[RS.tv,RS.step,e]
 |6,_=>by_cases e:i=w<;>simp[RS.tv,RS.step,e]
 |(t+7),a=>calc absurd a (Nat.not_lt_zero i)
theorem HC{r:RS}{n:NT}{w:Nat}{x:Int}{s:Option (Int×Int)}:∀t i,i<n.n t->setC (setC r.tv 4 w (.l ((r.ww w).say.map .int++[.int x]))) 5 w (.l ((r.ww w).snd.map ni++[ni s])) t i=(r.put w x s).tv t i:=by
 intro t i a;unfold setC
 match t,a with
 |0,_=>simp[RS.tv,RS.put]
 |1,_=>simp[RS.tv,RS.put]
 |2,_=>simp[RS.tv,RS.put]
 |3,_=>simp[RS.tv,RS.put]
 |4,_=>by_cases e:i=w<;>simp[RS.tv,RS.put,e]
 |5,_=>by_cases e:i=w<;>simp[RS.tv,RS.put,e]
 |6,_=>by_cases e:i=w<;>simp[RS.tv,RS.put,e,DT]
 |(t+7),a=>calc absurd a (Nat.not_lt_zero i)
theorem wd{H:Hp}{n:Nat}{v:V}{ns:List Int}(h:HD H n v (.lst (ns.map .int))):∃a,v=.ref a/\H a=some (.lst (ns.map V.int)):=by
 cases h with
 | @lst n a b _ e l i=>calc⟨a,rfl,by rw[e,show b=ns.map V.int from eJ.rO ⟨l,i⟩]⟩
theorem HE{x y:HO}(h:a≠b):upd (upd H a x) b y=upd (upd H b y) a x:=by
 funext c;by_cases d:c=a
 ·subst d;rw[av h,ab,ab]
 ·by_cases e:c=b
  ·subst e;rw[ab,av d,ab]
  ·rw[av e,av d,av d,av e]
theorem B6{K:W.Frag}{j:Addr}{nt:NT}{g:Nat}{e:Nat}(u:e<2)(f:H j=some (.lst wv))(o:gw H 1 wv (nt.ws.map lN))(O:wv.length<=10)(v:σ[3]?=some (some (.int ((g:Nat):Int))))(p:H D=none)(q:∀H1,aq H H1->H1 D=some (.lst ((tS nt e g).map λi=>V.int ((i:Nat):Int)))->Q (.ref D) H1):ko [none,none,some 3] (OZ true K j) (EG K 2 (lO (fL 0) (lO (fL 1) EF))) (tT (EL (Pk K) (EL (OT K) (tV 1) (tC (V.int ((e:Nat):Int)))) (tV 2))) (tV 0) σ H Q D:=by
 have x:wv.length=nt.ws.length:=by simpa using o.1
 have z:tw [none,none,some 3] σ=[none,none,some (.int ((g:Nat):Int))]:=by simp[tw,v]
 refine bq (n:=wv.length) (λi ys H'=>aq H H'/\ys=((List.range i).filter λj=>decide (sy nt e j=((g:Nat):Int))).map λj=>V.int (j:Nat)) (S' (aA ())) ⟨aq.new _ p,rfl⟩ ?_ ?_ ?_ ?_
 ·rintro i ys H' h ⟨a,_⟩;exact⟨wv,wv[i],Sq.l (a _ _ f),cy h⟩
 ·rintro ys H' ⟨a,_⟩;exact⟨wv,Sq.l (a _ _ f),rfl⟩
 ·intro i ys H' h d r A P R B;rw[z];obtain⟨a,rfl⟩:=A;obtain⟨k,C,rfl,y⟩:=B;obtain⟨b,E,rfl⟩:=y wv (Sq.l (a _ _ f));have j:i < nt.ws.length:=by lia
  have m:=aq.new (.tup [.int (i:Nat),b]) C;have F:=(o.2 i b (lN (nt.w i)) E (by rw[List.getElem?_map,show nt.ws[i]?=some (nt.w i) from aY j];rfl)).aG (a.trans m).aM;have I:upd H' k (.tup [.int (i:Nat),b]) k=some (.tup [.int (i:Nat),b]):=ab;have s:=m _ _ d;have t:=a.trans m;generalize S:upd H' k (.tup [.int (i:Nat),b])=G at *;obtain⟨T,U,X,Y,Z,rfl,J,L,M,N⟩:=bT F;obtain rfl:=L.cB;obtain rfl:=M.cB;obtain rfl:=N.cI;refine wD (bz.of I) ⟨Ext.set (Ext.set (Ext.refl _) rfl) rfl,?_⟩;walk_at "j";refine cX J (show ip _ ((e:Nat):Int)=some (.int (sy nt e i)) from ax (by match e,u with
   |0,_=>rfl
   | 1,_=>rfl)) ?_
  walk_at "j";by_cases z:sy nt e i=((g:Nat):Int)
  ·rw[if_pos (decide_eq_true z)];calc cn s r h (S' (aA ())) ⟨λc o e=>by rw[av (ao e p)];calc t _ _ e,?_⟩;rw[iD,if_pos (decide_eq_true z),List.map_append];rfl
  ·rw[if_neg λh=>z (of_decide_eq_true h)];exact⟨_,s,(),t,by rw[iD,if_neg λh=>z (of_decide_eq_true h),List.append_nil]⟩
 ·rintro ys H1 d r ⟨a,rfl⟩;rw[x]at d;calc q H1 a d
abbrev mJ:Stmt:=top 65
inductive HF(vs:List V)(H:Hp)(Q:VK):Prop
 |mk (F:Addr->Prop) (d:Addr) (tn:V) (nt:NT) (r:RS) (ad:Nat->Nat->Addr) (wy k:Nat) (h0:vs=[.ref d,.int (wy:Nat),.int (k:Nat)]) (h1:bW F H d tn nt r ad) (h2:FS F H) (h3:r.Ok nt) (h4:r.Jo nt wy k) (h5:r.picks.length<=400) (h6:∀t H',Fr (FP nt.n ad) H H'->bW F H' d tn nt (r.pick nt wy k) ad->HT H' 1 t (pairD (nt.ev r wy))->Q t H'):HF vs H Q
def B7:Sp:=λvs H Q _=>HF vs H Q
theorem An(D:cZ K mg "_law_pick" "_law_pick" mJ ["_law_run","_law_way","_law_number"])(T:Tx K mg C CN CR F FD)(jP:Def P w K mg base "_law_worked" 2 ["_law_machine_here","_law_state","_law_way","_law_said"] (BW K)):Def P w K mg base "_law_pick" 3 ["_law_run","_law_way","_law_number"] B7:=by
 have sc:aB ["_law_run","_law_way","_law_number","_law_m","_law_place","_law_outs","_law_event","_law_state","_law_sent","_law_words","_law_row","_law_source","_law_c","_law_j","_law_said"] ["_law_run","_law_way","_law_number"] (ay mJ):=by walk_at "s"
 symm;obtain⟨F,d,tn,m,r,ad,B,k,rfl,M,j8,O,hc,DM,q⟩:=h;have G:=hr.units;have o9:=Pd G;refine⟨_,(ag (aR (i:=3) sc.nd rfl Sort (aj G (aj G (aj G (aj G (au 0) aC) ai) (au 1)) ai))
  (ag (aR (i:=4) sc.nd rfl Sort (cY oE PySem.F.slot_list_index PySem.F.type_list_index uD (dy (N':=["_law_k","_law_told","_law_m"]) (ix:=[none,none,some 3]) (jB rfl T.dE (af (aj G (aj G (au 0) aC) ai) aa)) (λ_ _ _ _=>(lH (K:=K) rfl (i:=0) (j:=1) rfl (show(["_law_k","_law_told","_law_m"]:List Str).Nodup by decide +kernel) rfl rfl Sort Sort)) (λ_ _ _ _=>(jA (az (nU (K:=K) rfl G) (fA (K:=K) rfl G (au 1) ai) (au 2) (aH _)))) (λ_ _ _ _=>(au 0))) (af (au 1) aa)))
  (ag (gk (i:=5) sc.nd rfl Sort (N':=["_law_k","_law_told","_law_m"]) (ix:=[none,none,some 3]) (jB rfl T.dE (af (aj G (aj G (au 0) aC) ai) aa)) (λ_ _ _ _=>(lH (K:=K) rfl (i:=0) (j:=1) rfl (show(["_law_k","_law_told","_law_m"]:List Str).Nodup by decide +kernel) rfl rfl Sort Sort)) (λ_ _ _ _=>(jA (az (nU (K:=K) rfl G) (fA (K:=K) rfl G (au 1) ai) (au 2) (aH _)))) (λ_ _ _ _=>(au 0)))
  (ag (aR (i:=6) sc.nd rfl Sort (bD (af (au 3) (af (bg aN rfl T.cm W' (af (aj G (aj G (au 0) aC) (au 3)) aa)) aa))))
  (ag (dU (aJ jP hr (af (aj G (aj G (aj G (au 0) aC) ai) (au 3)) (af (aj G (aj G (aj G (au 0) aC) (au 3)) (lQ iJ ai)) (af (au 4) (af (aj G (aj G (aj G (au 0) aC) (au 1)) (au 2)) aa))))) (xE (i:=7) (j:=8) (l:=9) rfl sc.nd rfl rfl rfl Sort Sort Sort))
  (ag (aR (i:=10) sc.nd rfl Sort (aj G (aW cR (bu (af (aW xB (bu (af ai aa)) (bg aN rfl T.cm W' (af (aj G (aj G (au 0) aC) ai) aa))) aa)) (aj G (aj G (au 0) aC) (au 3))) (lQ iJ ai)))
  (ag (aT (az oV (aj G (aj G (aj G (au 0) aC) (au 1)) (au 2)) kg (aH _)) (ag (dU (aj G (aj G (aj G (au 0) aC) (au 1)) (au 2)) (eZ (i:=11) (j:=12) rfl sc.nd rfl rfl Sort Sort))
  (ak (EH (i:=10) sc.nd rfl Sort (dy (N':=["_law_one","_law_other"]) (ix:=[none,none]) (zA rfl T.Bx (af (au 10) (af (aj G (aj G (aj G (au 0) aC) (au 11)) (aW eX (au 12) ai)) aa))) (λ_ _ _ _=>(lH (K:=K) rfl (i:=0) (j:=1) rfl (show(["_law_one","_law_other"]:List Str).Nodup by decide +kernel) rfl rfl Sort Sort)) oI (λ_ _ _ _=>(bg (uz rfl) rfl T.Gm PyProof.Rows.boot_max (af (au 0) (af (au 1) aa))))) rfl))) aI)
  (ag (bP (cY oE qH qI bZ (aj G (aj G (au 0) aC) (au 3)) (af (dy (N':=["_law_k","_law_row","_law_m"]) (ix:=[none,some 10,some 3]) (c8 rfl T.eR (af (bg aN rfl T.cm W' (af (au 10) aa)) aa)) (λ_ _ _ _=>(aQ (i:=0) (show(["_law_k","_law_row","_law_m"]:List Str).Nodup by decide +kernel) rfl Sort)) oI (λ_ _ _ _=>(aW cR (fA (K:=K) rfl G (au 1) (au 0)) (cQ CG rfl T.Bv PyProof.Rows.boot_int (af (jy (nU (K:=K) rfl G) (au 0) (au 2) (aH _)) aa))))) aa)))
  (ag (dU (aj G (au 6) ai) (fO (aj G (aj G (aj G (au 0) aC) (au 3)) (lQ iJ ai)) (au 3) cL))
  (ag (gg o9 (aj G (aj G (au 0) aC) (au 1)) (au 2) (au 6) rfl)
  (ag (bP (cY oE qH qI bZ (aj G (aj G (au 0) aC) (au 3)) (af (au 7) aa)))
  (ag (bP (cY oE qH qI bZ (aj G (aj G (au 0) aC) (au 3)) (af (aW cR (aj G (aj G (aj G (au 0) aC) (au 3)) (lQ iJ ai)) (au 9)) aa)))
  (ag (bP (cY oE qH qI bZ (aj G (au 0) aC) (af (bD (af (au 1) (af (au 2) aa))) aa)))
  (ag (df PassesOwn.never rfl (bS (pv 8)) (eZ (i:=13) (j:=14) rfl sc.nd rfl rfl Sort Sort)
  (ak (aT (az gu (au 13) (bg aN rfl T.cm W' (af (au 5) aa)) (aH _)) (ag (bP (cY oE qH qI bZ (aj G (aj G (au 0) aC) (aj G (au 5) (au 13))) (af (au 14) aa)))
  (ak (bP (cY oE qH qI bZ (aj G (aj G (au 0) aC) (aj G (au 5) (au 13))) (af (au 6) aa))))) aI)))
  (ak (aE (au 6))))))))))))))))),?_⟩
 nofun;obtain⟨o,N,nF,nP,ho⟩:=M.dk;obtain⟨ls,tt,am,aw,al,mv,wv,lv,rfl,h1,h2,h3,h4,h5,h6,h7⟩:=M.told;have g1:=(de h1 (λk z=>by cases z)).2;have g2:=(de h2 (λk z=>by cases z)).2;have g3:=(de h3 (λk z=>by cases z)).2
 replace h5:=h5.cv dJ
 replace h6:=h6.aG dJ.aM
 have W:=M.ok;have L:=hc.lt;have I:=W.jD L;have kd:wv.length=m.ws.length:=by simpa using h6.1
 have mw:mv.length=m.ms.length:=h5.1;have qx:wv.length<=10:=by rw[kd];exact W.F6
 have Jc:m.ms.length<=5:=W.Kv;obtain⟨wk1,wk2,wk3,wk4⟩:=qO W O L k;ac_rfl;have B0:k<(r.ww B).say.length:=by rw[O.lk B L];exact(List.getElem?_eq_some_iff.mp hc.lies).1
 walk_at "j";refine bI _ (DS N) ?_;walk_at "j";refine cX g1 (ax (j:=1) rfl) ?_;have Vq:m.ws[B]?=some (m.w B):=aY L;have ahL:B<wv.length:=by lia
 have DO:=h6.2 B wv[B] (lN (m.w B)) nofun (by rw[List.getElem?_map,Vq];rfl);nofun;obtain⟨ta,u1,u2,u3,kk,eta,tW,q1,q2,q3⟩:=bT DO;obtain rfl:=q1.cB;obtain rfl:=q2.cB;obtain rfl:=q3.cI;ac_rfl;refine bt g3 (ax (j:=B) (v:=.ref ta) (by rw[<-eta];simp)) ?_;refine cX tW (show ip _ 1=some (.int ((m.goal B:Nat):Int)) from by rw[<-qT W L];exact ax (j:=1) rfl) ?_;walk_at "j";refine bL ?_;walk_at "j";refine bI _ (DS ((aq.refl H) _ _ N)) ?_;walk_at "j";refine cX ((aq.refl H) _ _ g1) (ax (j:=1) rfl) ?_;walk_at "j";refine F7 true wv (Sq.l ((aq.refl H) _ _ g3)) (λD1 yO=>?_);refine B6 ∅ g3 h6 qx rfl yO (λH1 s1x H1e=>?_);have QU:aq H H1:=s1x;walk_at "j";refine⟨.inl ⟨rfl,_,aP.of H1e⟩,?_⟩;obtain⟨ix1,ix2⟩:=sL (Hc W L);refine⟨D1,_,m.place B,B,rfl,rfl,by rw[H1e,uV],?_,?_,?_⟩
 ·rw[List.getElem?_map,<-oj W L,ix1];rfl
 ·intro i y hi hy;rw[List.getElem?_map]at hy;obtain⟨z,hz,rfl⟩:=Option.map_eq_some_iff.mp hy;have:=ix2 i z (by rw[oj W L];calc hi) hz;lia
 walk_at "j";refine bL ?_;walk_at "j";refine bI _ (DS (QU _ _ N)) ?_;walk_at "j";refine cX (QU _ _ g1) (ax (j:=1) rfl) ?_;walk_at "j";refine F7 true wv (Sq.l (QU _ _ g3)) (λD2 zX=>?_);refine B6 ∅ (QU _ _ g3) (h6.aG QU.aM) qx rfl zX (λH2 s2x H2e=>?_);have Yq:aq H H2:=QU.trans s2x;walk_at "j";refine bI _ (QG (Yq _ _ N)) ?_;have o1:=ho 1 ∅ ∅;have o2:=ho 2 ∅ ∅;have o3:=ho 3 ∅ ∅;have o4:=ho 4 ∅ ∅;have o5:=ho 5 ∅ ∅;have o6:=ho 6 ∅ ∅;have i0:0<m.n 0:=by show 0<1;decide
 obtain⟨v1,e1,d1⟩:=M.bN.lst (t:=1) (i:=m.goal B) I rfl;have z1:v1.length=(r.mm (m.goal B)).fN.length:=by simpa using d1.1
 have Ve:=O.zG I;walk_at "j";refine bt (Yq _ _ o1.1) (aZ I) ?_;refine gJ _ (.inl ⟨_,aP.of (Yq _ _ e1),rfl⟩) dH (λev X9=>?_);rw[z1];have X7:=aq.new (.tup [.int ((m.goal B:Nat):Int),.int (((r.mm (m.goal B)).fN.length:Nat):Int)]) X9;have R:=Yq.trans X7;have abR:HT (upd H2 ev (.tup [.int ((m.goal B:Nat):Int),.int (((r.mm (m.goal B)).fN.length:Nat):Int)])) 1 (.ref ev) (pairD (m.ev r B)):=dg (n:=0) ab (.int _) (.int _);have abS:upd H2 ev (.tup [.int ((m.goal B:Nat):Int),.int (((r.mm (m.goal B)).fN.length:Nat):Int)]) ev=some (.tup [.int ((m.goal B:Nat):Int),.int (((r.mm (m.goal B)).fN.length:Nat):Int)]):=ab;generalize PY:upd H2 ev (.tup [.int ((m.goal B:Nat):Int),.int (((r.mm (m.goal B)).fN.length:Nat):Int)])=H3 at *;have H3o:=X7 _ _ H2e;walk_at "j";refine bI _ (DS (R _ _ N)) ?_;walk_at "j";refine cX (R _ _ g1) (ax (j:=0) rfl) ?_;have ahQ:m.goal B<mv.length:=by lia
 have emd:m.ms[m.goal B]?=some (m.ms.getD (m.goal B) default):=aY I;obtain⟨mt,ln,lr,ld,xsd,emt,t1,t2,t3,t4,t5⟩:=h5.2 (m.goal B) mv[m.goal B] _ nofun emd;have Ln:=W.gd I;refine bt (R _ _ g2) (ax (j:=m.goal B) (v:=.ref mt) (by rw[<-emt];simp)) ?_;refine bI _ (QG (R _ _ N)) ?_;walk_at "j";refine bt (R _ _ o1.1) (aZ I) ?_;obtain⟨sv,esv,dsv⟩:=d1.get (i:=(r.mm (m.goal B)).fN.length-1) (d:=rQ ((r.mm (m.goal B)).fN.bE ([],[]))) (by rw[List.getElem?_map,nQ (d:=([],[])) Ve];rfl);have RI:=(MH (dsv.cv dJ)).aG R.aM;refine bt (R _ _ e1) (oh () (by rw[z1];exact esv)) ?_;walk_at "j";refine bI _ (Lv (R _ _ N)) ?_;nofun;obtain⟨v4,e4,d4⟩:=M.bN.lst (t:=4) (i:=B) L rfl;have z4:=d4.rO;subst z4;ac_rfl;walk_at "j";refine bt (R _ _ o4.1) (aZ L) ?_;refine bt (R _ _ e4) (ax (j:=k) (v:=.int ((r.ww B).say.getD k 0)) (by rw[List.getElem?_map,aY (d:=0) B0];rfl)) ?_;have sM:=O.last I;refine⟨mt,ln,lr,ld,sv,_,_,_,xsd,_,_,_,rfl,R _ _ t1,R _ _ t4,t5.aG R.aM,xy.of RI,Ln.m2,Ln.ZC,sM.bn,sM.lr,Ln.XU,by rw[sM.ln];exact Ln.ok,λrx H4 Yr Qd=>?_⟩;have Ys:=R.trans Yr;nofun;obtain⟨rp,Jq,RK,MJ,zs,rfl,hrp,Af,Qe,n0,Ag,fl1,fl2,aaM⟩:=Qd.ex
 replace Af:HT H4 2 Jq (xt (m.work r B k).ns (m.work r B k).row):=Af
 replace n0:SL H4 zs (m.work r B k).cA:=n0
 replace Ag:H4 MJ=some (.lst ((m.work r B k).words.map V.int)):=Ag
 ac_rfl;have Wo:=abR.aG Yr.aM;have abT:=Yr _ _ abS;have H4o:=Yr _ _ H3o;refine un3 (bz.of hrp) ?_;walk_at "j";refine⟨∅,λlz hlz=>?_⟩;have X8:=aq.new (.lst [.int 0]) hlz;have elz:upd H4 lz (.lst [.int 0]) lz=some (.lst [.int 0]):=ab;generalize RH:upd H4 lz (.lst [.int 0])=H5 at *;have PV:=Ys.trans X8;refine bI _ (DS (PV _ _ N)) ?_;walk_at "j";refine cX (PV _ _ g1) (ax (j:=0) rfl) ?_;refine bI _ (.inl ⟨_,aP.of (PV _ _ g2),rfl⟩) ?_;refine Kz _ elz () () (λS hlq=>?_);rw[Int.toNat_natCast,mw];have s56:=aq.new (.lst (List.replicate m.ms.length (V.int 0))) hlq;have elq:upd H5 S (.lst (List.replicate m.ms.length (V.int 0))) S=some (.lst ((List.replicate m.ms.length 0).map V.int)):=by rw[ab,List.map_replicate]
 generalize Mv:upd H5 S (.lst (List.replicate m.ms.length (V.int 0)))=H6 at *;calc⟨∅,λla Wq=>?_⟩;have wH:=aq.new (.lst [.ref S]) Wq;have ela:upd H6 la (.lst [.ref S]) la=some (.lst [.ref S]):=ab;generalize Vs:upd H6 la (.lst [.ref S])=H7 at *;have Wk:=X8.trans (s56.trans wH);have sH7:=Ys.trans Wk;calc bI _ (Lw (sH7 _ _ N)) ?_;obtain⟨v3,e3,d3⟩:=M.bN.lst (t:=3) (i:=m.goal B) I rfl;have z3:v3.length=(r.mm (m.goal B)).hr.length:=by simpa using d3.1
 have hlh:=O.lh _ I;have RM:=O.bp _ I;walk_at "j";refine bt (sH7 _ _ o3.1) (aZ I) ?_;refine .inl ⟨_,_,ela,sH7 _ _ e3,S' (small (by simp;lia)),λlb hlb=>?_⟩;have s78:=aq.new (.lst ([.ref S]++v3)) hlb;have elb:upd H7 lb (.lst ([.ref S]++v3)) lb=some (.lst ([.ref S]++v3)):=ab;generalize Ya:upd H7 lb (.lst ([.ref S]++v3))=H8 at *;have s48:=Wk.trans s78;have X:=Ys.trans s48;have Wr:∃rl,ip ([V.ref S]++v3) (-1)=some (.ref rl)/\H8 rl=some (.lst (((r.mm (m.goal B)).hr.bE (List.replicate m.ms.length 0)).map V.int)):=by
  by_cases h1:1<=(r.mm (m.goal B)).hr.length
  ·nofun;obtain⟨v,ev',dv⟩:=d3.get (i:=(r.mm (m.goal B)).hr.length-1) (d:=.lst (((r.mm (m.goal B)).hr.bE (List.replicate m.ms.length 0)).map .int)) (by rw[List.getElem?_map,nQ (d:=List.replicate m.ms.length 0) h1];rfl);obtain⟨a,rfl,ea⟩:=wd (dv.cv dJ);ac_rfl;calc⟨a,oh nofun ?_,X _ _ ea⟩;rw[List.length_append,List.length_singleton,List.getElem?_append_right (by simp;lia)];rw[show 1+v3.length-1 - [V.ref S].length=(r.mm (m.goal B)).hr.length-1 by simp;lia];exact ev'
  ·have ez:(r.mm (m.goal B)).hr=[]:=List.length_eq_zero_iff.mp ();have ev3:v3=[]:=List.length_eq_zero_iff.mp ();refine⟨S,?_,?_⟩
   ·rw[ev3];exact oh nofun rfl
   ·rw[ez];show H8 S=some (.lst (List.map V.int (List.getD ([]:List (List Int)) _ _)));exact s78 _ _ (wH _ _ elq)
 obtain⟨rl,erl,ym⟩:=Wr;refine bt elb erl ?_;walk_at "j";refine bI _ (Hm (X _ _ N)) ?_;obtain⟨v5,e5,d5⟩:=M.bN.lst (t:=5) (i:=B) L rfl;have KW:=O.ls B L;walk_at "j";refine bt (X _ _ o5.1) (aZ L) ?_;obtain⟨v5k,ev5,Yt⟩:=d5.get (i:=k) (d:=ni ((r.ww B).snd.getD k none)) (by rw[List.getElem?_map,aY (d:=none) ()];rfl);refine bt (X _ _ e5) (ax ev5) ?_;walk_at "j";rename_i N2 Sh T2 U2 O0 hU2;have Ws:(ou m r B k).length=m.ms.length:=by
  have:=xD W O L (k:=k);rw[LD,List.length_set]at this;exact this
 have rest:∀(Yu:Addr) (z11 Qj:Option V) (H9:Hp),aq H8 H9->H9 Yu=some (.lst ((ou m r B k).map V.int))->N2 [some (V.ref d),some (V.int ((B:Nat):Int)),some (V.int ((k:Nat):Int)),some (V.int ((m.goal B:Nat):Int)),some (V.int ((m.place B:Nat):Int)),some (V.ref D2),some (V.ref ev),some Jq,some (V.ref RK),some (V.ref MJ),some (V.ref Yu),z11,Qj,none,none] H9:=by
  clear O0 hU2 T2 U2;intro Yu z11 Qj H9 s89 Wt;have Sg:=s48.trans s89;have M6:=Ys.trans Sg;have b9:=M.bN.same M6;walk_at "j";refine bI _ (Lw (M6 _ _ N)) ?_;walk_at "j";refine bt (M6 _ _ o3.1) (aZ I) ?_;refine⟨.inl ⟨rfl,_,aP.of (M6 _ _ e3)⟩,?_⟩;refine bL ?_;walk_at "j";refine bI _ (.inl ⟨_,aP.of Wt,rfl⟩) ?_;walk_at "j";rw[List.length_map,Ws];refine gI () () (λhl Wu=>?_);rw[Int.toNat_natCast];refine bq (J:=CA 0 m.ms.length) (n:=m.ms.length) (λi ys H'=>aq H9 H'/\ys=(List.range i).map λj=>V.int ((ou m r B k).getD j 0+(if decide (((j:Nat):Int)=((m.goal B:Nat):Int))=true then 1 else 0))) (S' (aA ())) ⟨aq.new _ Wu,rfl⟩ (λi ys H' hi _=>hi) (λys H' _=>P' _) ?_ ?_
  ·intro i ys H' hi bx lX xT x H2' xU;nofun;obtain⟨Y,rfl⟩:=xT;obtain⟨rfl,rfl⟩:=xU;ac_rfl;walk_at "xf";walk_at "j"
   try rw[if_pos trivial]
   calc bt (Y _ _ Wt) (show ip _ (0+(i:Int))=some (.int ((ou m r B k).getD i 0)) from by rw[Int.zero_add];calc ax (by rw[List.getElem?_map,aY (d:=0) ()];rfl)) ?_;refine .inr ?_
   try rw[Int.zero_add]
   calc cn bx lX hi (S' (aA ())) ⟨λc o e=>by rw[av (ao e Wu)];calc Y _ _ e,?_⟩;rw[List.range_succ,List.map_append];rfl
  rintro ys Er bx lX ⟨D7,rfl⟩;clear lX;have D8:=M6.trans D7;walk_at "j";refine gJ v3 (D8 _ _ e3) (small ()) ?_;walk_at "j";have nA:ad 3 (m.goal B)≠hl:=λz=>by have:=M6 _ _ e3;rw[z,Wu]at this;cases this
  have kA:∀b o,b≠ad 3 (m.goal B)->Er b=some o->upd Er (ad 3 (m.goal B)) (.lst (v3++[.ref hl])) b=some o:=λb o n e=>by rw[av n];exact e
  have HG:∀{b:Addr} {o:HO},Er b=some o->¬FP m.n ad b->b≠ad 3 (m.goal B):=λ{b o} _ h z=>h ⟨3,m.goal B,I,z⟩;have M7:=D7 _ _ (Sg _ _ abT);have nev:ev≠ad 3 (m.goal B):=λz=>by have:=D8 _ _ e3;rw[<-z,M7]at this;cases this
  refine cX (kA _ _ nev M7) (ax (j:=1) rfl) ?_;refine bI _ (Lw (kA _ _ (HG (D8 _ _ N) nP) (D8 _ _ N))) ?_;walk_at "j";refine bt (kA _ _ (HG (D8 _ _ o3.1) o3.2.2) (D8 _ _ o3.1)) (aZ I) ?_;refine bt ab kx ?_;walk_at "j";refine⟨_,m.goal B,kA _ _ (Ne.symm nA) bx,gT (by simp;lia),?_⟩;rw[LF Ws I,show(ou m r B k).set (m.goal B) (((r.mm (m.goal B)).fN.length:Nat):Int)=m.gH r B k from rfl,HE nA];have sK:aq H9 (upd Er hl (.lst ((m.gH r B k).map V.int))):=λb o e=>by rw[av (ao e Wu)];exact D7 _ _ e
  have eK:upd Er hl (.lst ((m.gH r B k).map V.int)) hl=some (.lst ((m.gH r B k).map V.int)):=ab;generalize hGK:upd Er hl (.lst ((m.gH r B k).map V.int))=K10 at *;have Yv:=M6.trans sK;have bK:=M.bN.same Yv;have FSK:FS F K10:=j8.fr (Z:=λ_=>False) Yv.fr (λ_ _ h=>h);have fresh:∀{b:Addr},H9 b=none->¬(F b\/FP m.n ad b):=λ{b} hb z=>by
   rcases z with z|z
   ·obtain⟨o,e,_⟩:=j8 b z;rw[M6 _ _ e]at hb;cases hb
   ·obtain⟨o,e,_⟩:=b9.fp z;rw[e]at hb;cases hb
  have e3K:=Yv _ _ e3;have uy:=(BF.mk bK Yv.fr (Sg.trans sK).fr).app (t:=3) (i:=m.goal B) I rfl e3K (eJ.one (show HD _ 4 (.ref hl) (.lst ((m.gH r B k).map .int)) from .lst (by rw[fE (fresh Wu)];exact eK) nofun (λi u e G he=>(eJ.ints (H:=iq (λb=>F b\/FP m.n ad b) K10) (n:=3) (m.gH r B k)).2 i u e G he)));generalize Vv:upd K10 (ad 3 (m.goal B)) (.lst (v3++[.ref hl]))=Yb at *;clear kA HG;walk_at "j";refine bI _ (QF (uy.f.at N nP)) ?_;obtain⟨M3,e6,d6⟩:=uy.b.ZD (t:=6) (i:=B) L rfl;have hlk:=O.lk B L;have Uu:=O.bs B L;walk_at "j";refine bt (uy.f.at o6.1 o6.2.2) (aZ L) ?_;have TM:((r.ww B).eC.countP Option.isSome)<=(r.ww B).eC.length:=List.countP_le_length;have h6l:=d6.1;refine⟨ad 6 B,_,rfl,lL.k (k:=Sum.inl ((k:Nat):Int)) e6 (small ()),?_⟩;have yP:=BF.mk (uy.b.upd (t:=6) (i:=B) L (QT d6 hc.lies ((uy.b.ht (j8.fr uy.f M.bN.vZ) (Wo.aG uy.g.aM)).mono ∅))) (uy.f.upd ⟨6,B,L,rfl⟩ e6 trivial) (uy.g.upd ⟨6,B,L,rfl⟩ e6 trivial);generalize Vw:upd Yb (ad 6 B) (.dK (putK M3 (Sum.inl ((k:Nat):Int)) (.ref ev)))=Vx at *;walk_at "j";refine bI _ (QG (yP.f.at N nP)) ?_;obtain⟨v1',e1',d1'⟩:=yP.b.lst (t:=1) (i:=m.goal B) I rfl;have z1':v1'.length=(r.mm (m.goal B)).fN.length:=by simpa using d1'.1
  walk_at "j";refine bt (yP.f.at o1.1 o1.2.2) (aZ I) ?_;refine⟨.inl ⟨rfl,_,aP.of e1'⟩,?_⟩;walk_at "j";refine gJ v1' e1' (small ()) ?_;have Jv:=yP.app (t:=1) (i:=m.goal B) I rfl e1' (eJ.one (show HD _ 4 Jq (rQ ((m.work r B k).ns,(m.work r B k).row)) from(yP.b.ht (j8.fr yP.f M.bN.vZ) (Af.aG yP.g.aM)).mono ∅));generalize ah5:upd Vx (ad 1 (m.goal B)) (.lst (v1'++[Jq]))=Qg at *;walk_at "j";refine bI _ (V6 (Jv.f.at N nP)) ?_;obtain⟨v2,e2,d2⟩:=Jv.b.lst (t:=2) (i:=m.goal B) I rfl;have z2:v2.length=(r.mm (m.goal B)).wp.length:=by simpa using d2.1
  have hlw:=O.lw _ I;walk_at "j";refine bt (Jv.f.at o2.1 o2.2.2) (aZ I) ?_;refine⟨.inl ⟨rfl,_,aP.of e2⟩,?_⟩;refine bI _ (V6 (Jv.f.at N nP)) ?_;walk_at "j";refine bt (Jv.f.at o2.1 o2.2.2) (aZ I) ?_;nofun;obtain⟨vw,evw,dvw⟩:=d2.get (i:=(r.mm (m.goal B)).wp.length-1) (d:=.lst (((r.mm (m.goal B)).wp.bE []).map .int)) (by rw[List.getElem?_map,nQ (d:=[]) ()];rfl);obtain⟨lw,rfl,elw⟩:=wd (dvw.cv dJ);ac_rfl;refine bt e2 (oh () (by rw[z2];exact evw)) ?_;have He:¬FP m.n ad RK:=λz=>by
   obtain⟨u,e,_⟩:=(M.bN.same R).fp z;rw[fl1]at e;cases e
  have Qf:¬FP m.n ad MJ:=λz=>by
   obtain⟨u,e,_⟩:=(M.bN.same R).fp z;rw[fl2]at e;cases e
  have hbw:=O.bw _ I _ (gK (l:=(r.mm (m.goal B)).wp) (d:=[]) ());calc .inl ⟨_,_,elw,Jv.g.at Ag Qf,S' (small (by simp;lia)),λnw hnw=>?_⟩;have HH:=aq.new (.lst (((r.mm (m.goal B)).wp.bE []).map V.int++(m.work r B k).words.map V.int)) hnw;have enw:upd Qg nw (.lst (((r.mm (m.goal B)).wp.bE []).map V.int++(m.work r B k).words.map V.int)) nw=some (.lst (((r.mm (m.goal B)).wp.bE []++(m.work r B k).words).map V.int)):=by rw[ab,List.map_append]
  generalize abL:upd Qg nw (.lst (((r.mm (m.goal B)).wp.bE []).map V.int++(m.work r B k).words.map V.int))=H14 at *;have w14:=Jv.same HH;have nnw:¬(F nw\/FP m.n ad nw):=λz=>by
   rcases z with z|z
   ·obtain⟨o,e,_⟩:=(j8.fr Jv.f M.bN.vZ) nw z;rw[hnw]at e;cases e
   ·obtain⟨o,e,_⟩:=Jv.b.fp z;rw[hnw]at e;cases e
  walk_at "j";refine gJ v2 (HH _ _ e2) (small ()) ?_;have Yw:=w14.app (t:=2) (i:=m.goal B) I rfl (HH _ _ e2) (eJ.one (show HD _ 4 (.ref nw) (.lst (((r.mm (m.goal B)).wp.bE []++(m.work r B k).words).map .int)) from .lst (by rw[fE nnw];exact enw) nofun (λi u e G he=>(eJ.ints (H:=iq (λb=>F b\/FP m.n ad b) H14) (n:=3) ((r.mm (m.goal B)).wp.bE []++(m.work r B k).words)).2 i u e G he)));generalize aib:upd H14 (ad 2 (m.goal B)) (.lst (v2++[.ref nw]))=H15 at *;walk_at "j";refine bI _ (QH (Yw.f.at N nP)) ?_;obtain⟨v0,e0,d0⟩:=Yw.b.lst (t:=0) (i:=0) i0 rfl;have z0:v0.length=r.picks.length:=by simpa using d0.1
  walk_at "j";refine gI (.inl ⟨rfl,_,aP.of e0⟩) dH (λtp Jl=>?_);have M8:=aq.new (.tup [.int ((B:Nat):Int),.int ((k:Nat):Int)]) Jl;have Wv:HT (upd H15 tp (.tup [.int ((B:Nat):Int),.int ((k:Nat):Int)])) 1 (.ref tp) (pairD ((B:Int),(k:Int))):=dg (n:=0) ab (.int _) (.int _);generalize aic:upd H15 tp (.tup [.int ((B:Nat):Int),.int ((k:Nat):Int)])=Wi at *;have Yx:=Yw.same M8;have Ww:=M8 _ _ e0;walk_at "j";refine gJ v0 Ww (small ()) ?_;have M9:=Yx.app (t:=0) (i:=0) i0 rfl Ww (eJ.one ((Yx.b.ht (j8.fr Yx.f M.bN.vZ) Wv).mono ∅));generalize aid:upd Wi (ad 0 0) (.lst (v0++[.ref tp]))=H17 at *;have ab3:bW F H17 d (.ref tt) m (r.step m B k) ad:=M.own M9.f (M9.b.congr LG);have Na:SL H17 zs (m.work r B k).cA:=n0.aG M9.g.aM;have Wx:=M9.g.at Qe He;have Nb:=Wo.aG M9.g.aM;have nD2:¬FP m.n ad D2:=λz=>by
   obtain⟨u,e,_⟩:=(M.bN.same QU).fp z;rw[zX]at e;cases e
  have ab5:=M9.g.at H4o nD2;clear b9 bK uy yP Jv w14 Yw Yx d0 d1' d2 d6;walk_at "j";have hzl:zs.length=(m.work r B k).cA.length:=Na.1;have Qh:=O.step W L (k:=k);have Qi:∀a c,some (m.ev r B)=some (a,c)->0<=a/\a<m.ms.length/\1<=c/\c<=((r.step m B k).mm a.toNat).hr.length:=B1 W O L;refine⟨_,rfl,.inl ⟨⟨_,aP.of Wx⟩,eU (K:=K) (xs:=zs) (λi σ H'=>(∃Qk z14,σ=[some (V.ref d),some (V.int ((B:Nat):Int)),some (V.int ((k:Nat):Int)),some (V.int ((m.goal B:Nat):Int)),some (V.int ((m.place B:Nat):Int)),some (V.ref D2),some (V.ref ev),some Jq,some (V.ref RK),some (V.ref MJ),some (V.ref Yu),z11,Qj,Qk,z14])/\Fr (FP m.n ad) H17 H'/\bW F H' d (.ref tt) m ((r.step m B k).send (m.outs (m.goal B)) (m.ev r B) ((m.work r B k).cA.take i)) ad) ?_ ?_ ?_ ?_⟩⟩
  ·exact⟨⟨_,_,rfl⟩,Fr.refl,ab3⟩
  ·rintro i σ H' hi ⟨_,fi,_⟩;exact aP.of (fi.at Wx He)
  ·intro i z σ H' hz GD;nofun;obtain⟨⟨Qk,z14,rfl⟩,fi,B8⟩:=GD;have qz:i < zs.length:=(List.getElem?_eq_some_iff.mp hz).1;have KH:i < (m.work r B k).cA.length:=by lia
   have rZ:(m.work r B k).cA[i]?=some (m.work r B k).cA[i]:=cy KH;have Ql:=wk4 _ (aae KH);have Qm:=(Na.2 i z _ hz rZ).aG fi.aM;have Lo:(r.step m B k).send (m.outs (m.goal B)) (m.ev r B) ((m.work r B k).cA.take (i+1))=((r.step m B k).send (m.outs (m.goal B)) (m.ev r B) ((m.work r B k).cA.take i)).send (m.outs (m.goal B)) (m.ev r B) [(m.work r B k).cA[i]]:=by
    rw[List.take_succ,rZ];exact pJ _
   have Ah:=(RS.sZ.send (outs:=m.outs (m.goal B)) (ev:=m.ev r B) ((m.work r B k).cA.take i) Qh Qi).mono (show _<=19998 by simp;lia);generalize (m.work r B k).cA[i]=p at *;obtain⟨pj,px⟩:=p;obtain⟨tz,u1,u2,kz,rfl,Ek,y1,y2⟩:=dI Qm;obtain rfl:=y1.cB;obtain rfl:=y2.cB;ac_rfl;refine wD (bz.of Ek) ?_;have eDi:=fi.at ab5 nD2;walk_at "j";refine bI _ (.inl ⟨_,aP.of eDi,rfl⟩) ?_;walk_at "j";have hlen:((tS m 0 (m.goal B)).map λi=>V.int ((i:Nat):Int)).length=(m.outs (m.goal B)).length:=by rw[List.length_map];rfl
   rw[hlen];have ej:((pj.toNat:Nat):Int)=pj:=aaQ Ql;by_cases iz:pj<((m.outs (m.goal B)).length:Nat)
   ·rw[if_pos (by simpa using iz)];have Ml:pj.toNat < (m.outs (m.goal B)).length:=by lia
    have qU:(m.outs (m.goal B)).getD pj.toNat 0<m.ws.length:=by
     have:=getD_mem (d:=0) Ml;unfold NT.outs at this ⊢;rw[List.mem_filter,List.mem_range]at this;exact this.1
    have Vp:ip ((tS m 0 (m.goal B)).map λi=>V.int ((i:Nat):Int)) pj=some (.int (((m.outs (m.goal B)).getD pj.toNat 0:Nat):Int)):=by
     rw[<-ej];calc ax ?_;rw[List.getElem?_map];show Option.map _ (m.outs (m.goal B))[_]?=_;rw[Int.toNat_natCast,aY (d:=0) Ml];rfl
    nofun;obtain⟨U,how⟩:∃U,U=(m.outs (m.goal B)).getD pj.toNat 0:=⟨_,rfl⟩
    rw[<-how]at qU Vp;generalize hri:(r.step m B k).send (m.outs (m.goal B)) (m.ev r B) ((m.work r B k).cA.take i)=ri at *;obtain⟨oi,Wy,nFi,nPi,Wz⟩:=B8.dk;have oi4:=Wz 4 ∅ ∅;have WA:=Wz 5 ∅ ∅;have bi:=B8.bN;obtain⟨w4,x4,y4⟩:=bi.lst (t:=4) (i:=U) qU rfl;ac_rfl;have l4:w4.length=(ri.ww U).say.length:=by simpa using y4.1
    have hb4:=Ah.bs U qU;have hb5:=Ah.ls U qU;walk_at "j";refine bI _ (Lv Wy) ?_;walk_at "j";refine bt eDi Vp ?_;refine bt oi4.1 (aZ qU) ?_;refine⟨.inl ⟨rfl,_,aP.of x4⟩,?_⟩;walk_at "j";refine gJ w4 x4 (small ()) ?_;have bj:=bi.app (t:=4) (i:=U) qU rfl x4 (eJ.one (.int px));have fj:Fr (FP m.n ad) H' (upd H' (ad 4 U) (.lst (w4++[.int px]))):=Fr.refl.upd ⟨4,U,qU,rfl⟩ x4 trivial;generalize hGj:upd H' (ad 4 U) (.lst (w4++[.int px]))=Hj at *;obtain⟨w5,x5,y5⟩:=bj.lst (t:=5) (i:=U) qU rfl;have l5:w5.length=(ri.ww U).snd.length:=by simpa using y5.1
    walk_at "j";refine bI _ (Hm (fj.at Wy nPi)) ?_;walk_at "j";refine bt (fj.at eDi nD2) Vp ?_;refine bt (fj.at WA.1 WA.2.2) (aZ qU) ?_;refine⟨.inl ⟨rfl,_,aP.of x5⟩,?_⟩;walk_at "j";refine gJ w5 x5 (small ()) ?_;have FSj:FS F Hj:=j8.fr ((M9.f.trans fi).trans fj) M.bN.vZ;have bk:=bj.app (t:=5) (i:=U) qU rfl x5 (eJ.one (show HD _ 4 (.ref ev) (ni (some (m.ev r B))) from(bj.ht FSj ((Nb.aG fi.aM).aG fj.aM)).mono ∅));have fk:Fr (FP m.n ad) H' (upd Hj (ad 5 U) (.lst (w5++[.ref ev]))):=fj.upd ⟨5,U,qU,rfl⟩ x5 trivial;walk_at "j";refine gI ⟨_,_,rfl,rfl⟩ (fi.trans fk) ?_;rw[Lo];show bW F _ d _ m (if pj.toNat<_ then _ else _) ad;rw[if_pos Ml];show bW F _ d _ m (ri.put ((m.outs (m.goal B)).getD pj.toNat 0) px (some (m.ev r B))) ad;rw[<-how];exact B8.own fk (bk.congr HC)
   ·rw[if_neg (by simpa using iz)];walk_at "j";refine gI ⟨_,_,rfl,rfl⟩ fi ?_;rw[Lo];show bW F H' d _ m (if pj.toNat<_ then _ else _) ad;rw[if_neg ()];exact B8
  ·intro σ H' K6;obtain⟨⟨Qk,z14,rfl⟩,fi,B8⟩:=K6;walk_at "j";rw[hzl,List.take_length]at B8;exact q _ _ (M9.f.trans fi) B8 (Nb.aG fi.aM)
 clear Sh
 cases DK:(r.ww B).snd.getD k none with
 |none=>
  rw[DK]at Yt;have:=Ae Yt;subst this;walk_at "j"
  try rw[if_neg ∅]
  walk_at "j";refine rest rl _ _ H8 (aq.refl _) ?_;unfold ou;rw[DK];exact ym
 |some sc=>
  nofun;obtain⟨s0,c0⟩:=sc;rw[DK]at Yt;obtain⟨ae,rfl,XR⟩:=qS (Yt.cv dJ);have aca:=X _ _ XR;have xh:some (s0,c0)∈(r.ww B).snd:=by rw[<-DK];exact getD_mem ()
  obtain⟨q1,q2,q3,q4⟩:=O.sd B L s0 c0 xh;ac_rfl;walk_at "j"
  try rw[if_pos ∅]
  walk_at "j";refine bI _ (Hm (X _ _ N)) ?_;walk_at "j";refine bt (X _ _ o5.1) (aZ L) ?_;refine bt (X _ _ e5) (ax ev5) ?_;refine wD (bz.of aca) ?_;walk_at "j";refine bL ?_;walk_at "j";refine bI _ (Lw (X _ _ N)) ?_;have hsm:s0.toNat<m.ms.length:=by lia
  have es0:((s0.toNat:Nat):Int)=s0:=aaQ q1;have ec0:(((c0-1).toNat:Nat):Int)=c0-1:=aaQ ();walk_at "j";refine bt (X _ _ o3.1) (show ip _ s0=some (.ref (ad 3 s0.toNat)) from by have:=aZ (n:=m.n) (ad:=ad) (t:=3) hsm;rw[es0]at this;exact this) ?_;nofun;obtain⟨vs3,es3,ds3⟩:=M.bN.lst (t:=3) (i:=s0.toNat) hsm rfl;obtain⟨vr,evr,dvr⟩:=ds3.get (i:=(c0-1).toNat) (d:=.lst (((r.mm s0.toNat).hr.getD (c0-1).toNat []).map .int)) (by rw[List.getElem?_map,aY (d:=[]) ()];rfl);obtain⟨lo,rfl,elo⟩:=wd (dvr.cv dJ);ac_rfl;refine bt (X _ _ es3) (show ip _ (c0-1)=some (.ref lo) from by rw[<-ec0];exact ax evr) ?_;have LH:=X _ _ elo;walk_at "j";refine e9 true true _ _ (Sq.l ym) (Sq.l LH) (λD3 yb=>?_);have aeD:((r.mm (m.goal B)).hr.bE (List.replicate m.ms.length 0)).length=m.ms.length:=by
   by_cases h1:1<=(r.mm (m.goal B)).hr.length
   ·exact O.hl _ I _ (gK h1)
   ·have ez:(r.mm (m.goal B)).hr=[]:=List.length_eq_zero_iff.mp ();rw[ez];simp[List.bE]
  have aeE:((r.mm s0.toNat).hr.getD (c0-1).toNat []).length=m.ms.length:=O.hl _ hsm _ (getD_mem ());have ehr:ou m r B k=List.zipWith max ((r.mm (m.goal B)).hr.bE (List.replicate m.ms.length 0)) ((r.mm s0.toNat).hr.getD (c0-1).toNat []):=by
   unfold ou;rw[DK]
  generalize hA:(r.mm (m.goal B)).hr.bE (List.replicate m.ms.length 0)=LA at *;generalize hB:(r.mm s0.toNat).hr.getD (c0-1).toNat []=LB at *;refine bq (J:=TZ true true K rl lo) (n:=m.ms.length) (λi ys H'=>aq H8 H'/\ys=((List.zipWith max LA LB).take i).map V.int) (S' (aA ())) ⟨aq.new _ yb,rfl⟩ ?_ ?_ ?_ ?_
  ·rintro i ys H' hi ⟨Y,_⟩;exact⟨_,_,_,_,Sq.l (Y _ _ ym),Sq.l (Y _ _ LH),by rw[List.getElem?_map,aY (d:=0) ()];rfl,by rw[List.getElem?_map,aY (d:=0) ()];rfl⟩
  ·rintro ys H' ⟨Y,_⟩;exact⟨_,_,Sq.l (Y _ _ ym),Sq.l (Y _ _ LH),.inl (by simp;lia)⟩
  ·intro i ys H' hi bx hl K8 xx H4' zq9;nofun;obtain⟨Y,rfl⟩:=K8;obtain⟨t',Wn,rfl,y⟩:=zq9;obtain⟨x1,x2,WB,WC,rfl⟩:=y _ _ (Sq.l (Y _ _ ym)) (Sq.l (Y _ _ LH));rw[List.getElem?_map,aY (d:=0) ()] at WB WC;obtain rfl:=Option.some.inj WB;obtain rfl:=Option.some.inj WC;ac_rfl;have s2:=aq.new (.tup [.int (LA.getD i 0),.int (LB.getD i 0)]) Wn;have qj:upd H' t' (.tup [.int (LA.getD i 0),.int (LB.getD i 0)]) t'=some (.tup [.int (LA.getD i 0),.int (LB.getD i 0)]):=ab;calc wD (bz.of qj) ⟨Ext.set (Ext.set (Ext.refl _) rfl) rfl,?_⟩;walk_at "j"
   try rw[if_pos trivial]
   calc cn (s2 _ _ bx) hl hi (S' (aA ())) ⟨λc o e=>by rw[av (ao e yb)];calc s2 _ _ (Y _ _ e),?_⟩;rw[List.take_succ,List.getElem?_zipWith,aY (l:=LA) (d:=0) (),aY (l:=LB) (d:=0) (),List.map_append];show _++[V.int (if LB.getD i 0 > LA.getD i 0 then LB.getD i 0 else LA.getD i 0)]=_++[V.int (max (LA.getD i 0) (LB.getD i 0))]
   congr 3;split<;>lia
  rintro ys H9 bx hl ⟨s89,rfl⟩;rw[List.take_of_length_le (by simp;lia),<-ehr]at bx;walk_at "j";exact rest D3 _ _ H9 s89 bx
theorem qm.nil{ct:Nat->Hp->HO->Prop}:qm H0 H' D [] 0 ct:=⟨rfl,List.nodup_nil,λa h=>by simp at h,λj a h=>by simp at h⟩
theorem qm.snoc{H0 H1 H':Hp}{D a:Addr}{as:List Addr}{n:Nat}{ct:Nat->Hp->HO->Prop}(h:qm H0 H1 D as n ct)(q:aq H0 H1)(r:H1 D≠none)(g:H1 a=none){o:HO}(e:H' a=some o)(c:ct n H' o)(s:∀b o,b≠D->H1 b=some o->H' b=some o)(f:∀j o,ct j H1 o->ct j H' o):qm H0 H' D (as++[a]) (n+1) ct:=by
 refine⟨by simp[h.len],?_,λb d=>?_,λj b d=>?_⟩
 ·rw[List.nodup_append];calc gI h.nd nofun (λb d c l=>?_);simp at l;subst l;intro z;subst z;obtain⟨j,k⟩:=List.getElem?_of_mem d;obtain⟨m,i,_⟩:=h.ins j b k;rw[g]at i;cases i
 ·rcases List.mem_append.mp d with d | d
  ·exact h.new b d
  ·simp at d;subst d;refine⟨?_,λz=>r (z ▸ g)⟩
   cases t:H0 b with
   |none=>rfl
   |some o=>rw[q _ _ t]at g;cases g
 ·by_cases k:j < as.length
  ·rw[List.getElem?_append_left k]at d;obtain⟨m,i,g⟩:=h.ins j b d;exact⟨m,s _ _ (h.new b (aad d)).2 i,f _ _ g⟩
  ·rw[List.getElem?_append_right ()] at d
   cases p:j-as.length with
   |zero=>
    rw[p]at d;simp at d;subst d;have:j=n:=by have:=h.len;lia
    subst this;calc⟨o,e,c⟩
   |succ k=>rw[p]at d;simp at d
theorem qm.keep{n:Nat}{ct:Nat->Hp->HO->Prop}(h:qm H0 H1 D as n ct)(s:∀(j:Nat) (b:Addr) (o:HO),H1 b=some o->ct j H1 o->H' b=some o/\ct j H' o):qm H0 H' D as n ct:=
 ⟨h.len,h.nd,h.new,λj a e=>by
  obtain⟨c,d,f⟩:=h.ins j a e;calc⟨c,s _ _ _ d f⟩⟩
theorem qW{K:W.Frag}{ix:List (Option Nat)}{m:TE}{l:Addr}{xs:List V}{o:HO}(r:H l=some (.lst xs))(t:H D=none)(G:xs.length<=10)(w:∀x,Ext (tw ix σ) ((tw ix σ).set 0 (some x)))(y:∀d g (R:VK),(∀p,g p=none->R (.ref p) (upd g p o))->m d g R)(q:∀as H1,H1 D=some (.lst (as.map V.ref))->aq H H1->qm H H1 D as xs.length (λ_ _ u=>u=o)->Q (.ref D) H1):ko ix (wQ K l) (fL 0) iB m σ H Q D:=by
 refine bq (n:=xs.length) (λi ys H'=>∃as:List Addr,ys=as.map V.ref/\aq H H'/\qm H H' D as i (λ_ _ u=>u=o)) (S' (small ())) ⟨[],rfl,aq.new _ t,qm.nil⟩ ?_ ?_ ?_ ?_
 ·rintro i ys H' j ⟨_,_,a,_⟩;exact⟨_,xs[i],aP.of (a _ _ r),cy j⟩
 ·rintro ys H' ⟨_,_,a,_⟩;exact⟨_,aP.of (a _ _ r),P' _⟩
 ·intro i ys H' j c v z B I C;obtain⟨as,rfl,a,k⟩:=z;obtain⟨rfl,d⟩:=C;calc⟨w B,?_⟩;simp only[iB,if_true];calc y _ _ _ λp d=>?_;have g:=aq.new o d;have i:p≠D:=Ne.symm (ao c d);refine cn (g _ _ c) v j (S' (small ())) ⟨as++[p],nofun,λb o e=>?_,?_⟩
  ·rw[av (ao e t)];exact g _ _ (a _ _ e)
  ·refine k.snoc a (by rw[c];simp) d (o:=o) ?_ rfl (λb o a e=>?_) (λj u e=>e)
   ·rw[av i];exact ab
   ·rw[av a];exact g _ _ e
 ·intro ys H1 c v F;obtain⟨as,rfl,a,k⟩:=F;calc q as H1 c a k
theorem qm.some{n:Nat}{ct:Nat->Hp->HO->Prop}(h:qm H0 H1 D as n ct):∀a∈as,H1 a≠none:=λa m=>by
 obtain⟨j,e⟩:=List.getElem?_of_mem m;obtain⟨b,e,_⟩:=h.ins j a e;rw[e];calc λz=>nomatch z
abbrev kS:Stmt:=top 62
inductive HI(vs:List V)(H:Hp)(Q:VK):Prop
 |mk (F:Addr->Prop) (tn:V) (nt:NT) (ls:List (Int×Int)) (h0:vs=[tn]) (h1:ToldN (iq F H) tn nt.ms nt.ws ls) (h2:FS F H) (h3:nt.Ok) (h4:ls.length<=20) (h5:∀l∈ls,0<=l.1/\l.1<nt.ws.length) (h6:∀d ad H',aq H H'->(∀b,FP nt.n ad b->H b=none)->H d=none->bW F H' d tn nt (RS.begin nt ls) ad->Q (.ref d) H'):HI vs H Q
def B9:Sp:=λvs H Q _=>HI vs H Q
theorem yz(D:cZ K mg "_law_begun" "_law_begun" kS ["_law_net_here"])(T:Tx K mg C CN CR F FD):Def P w K mg base "_law_begun" 1 ["_law_net_here"] B9:=by
 have sc:aB ["_law_net_here","_law_run","_law_way","_law_said"] ["_law_net_here"] (ay kS):=by walk_at "s"
 symm;obtain⟨F,tn,g,ls,rfl,hN,j8,aO,qy,rz,q⟩:=h;have Y:=hr.units;have o9:=Pd Y;refine⟨_,(ag (aR (i:=1) sc.nd rfl Sort (J6 (rm aC (au 0) (rm aC (dy (N':=["_law_way"]) (ix:=[none]) (bS (aj Y (au 0) ai)) (λ_ _ _ _=>(aQ (i:=0) (show(["_law_way"]:List Str).Nodup by decide +kernel) rfl Sort)) oI (λ_ _ _ _=>(bu aa))) (rm aC (dy (N':=["_law_way"]) (ix:=[none]) (bS (aj Y (au 0) ai)) (λ_ _ _ _=>(aQ (i:=0) (show(["_law_way"]:List Str).Nodup by decide +kernel) rfl Sort)) oI (λ_ _ _ _=>(bu aa))) J5))) rfl rfl ∅ ∅))
  (ag (gg o9 (au 1) aC (dy (N':=["_law_way"]) (ix:=[none]) (bS (aj Y (au 0) ai)) (λ_ _ _ _=>(aQ (i:=0) (show(["_law_way"]:List Str).Nodup by decide +kernel) rfl Sort)) oI (λ_ _ _ _=>xb)) rfl)
  (ag (gg o9 (au 1) aC (dy (N':=["_law_one"]) (ix:=[none]) (bS (aj Y (au 0) ai)) (λ_ _ _ _=>(aQ (i:=0) (show(["_law_one"]:List Str).Nodup by decide +kernel) rfl Sort)) oI (λ_ _ _ _=>(bu (af (bD (af (cQ (nJ (K:=K) rfl) rfl T.bX qJ (af (fA (K:=K) rfl Y (au 0) ai) aa)) (af (cQ (nJ (K:=K) rfl) rfl T.bX qJ (af (fA (K:=K) rfl Y (au 0) ai) aa)) aa))) aa)))) rfl)
  (ag (gg o9 (au 1) aC (dy (N':=["_law_one"]) (ix:=[none]) (bS (aj Y (au 0) ai)) (λ_ _ _ _=>(aQ (i:=0) (show(["_law_one"]:List Str).Nodup by decide +kernel) rfl Sort)) oI (λ_ _ _ _=>(bu (af (bu aa) aa)))) rfl)
  (ag (gg o9 (au 1) aC (dy (N':=["_law_one"]) (ix:=[none]) (bS (aj Y (au 0) ai)) (λ_ _ _ _=>(aQ (i:=0) (show(["_law_one"]:List Str).Nodup by decide +kernel) rfl Sort)) oI (λ_ _ _ _=>(bu aa))) rfl)
  (ag (gg o9 (au 1) aC (bu aa) rfl)
  (ag (df PassesOwn.never rfl (bS (aj Y (au 0) ai)) (eZ (i:=2) (j:=3) rfl sc.nd rfl rfl Sort Sort)
  (ag (bP (cY oE qH qI bZ (aj Y (aj Y (au 1) aC) (au 2)) (af (au 3) aa)))
  (ak (bP (cY oE qH qI bZ (aj Y (aj Y (au 1) aC) (au 2)) (af kg aa))))))
  (ak (aE (au 1)))))))))),?_⟩
 nofun;obtain⟨I,am,aw,al,mv,wv,lv,rfl,h1,h2,h3,h4,h5,h6,h7⟩:=id hN;have g1:=(de h1 (λk z=>by cases z)).2;have g2:=(de h2 (λk z=>by cases z)).2;have g3:=(de h3 (λk z=>by cases z)).2;have g4:=(de h4 (λk z=>by cases z)).2
 replace h5:=h5.cv dJ
 replace h6:=h6.aG dJ.aM
 replace h7:=h7.aG dJ.aM
 ac_rfl;have kd:wv.length=g.ws.length:=by simpa using h6.1
 have mw:mv.length=g.ms.length:=h5.1;have uN:lv.length=ls.length:=by simpa using h7.1
 have T:wv.length<=10:=by rw[kd];exact aO.F6
 have T:mv.length<=5:=by rw[mw];exact aO.Kv
 walk_at "j";refine Kq λd tQ=>?_;have Si:=aq.new (.dK []) tQ;have ed0:upd H d (.dK []) d=some (.dK []):=ab;generalize hGd:upd H d (.dK [])=C1 at *;walk_at "j";refine bL ?_;walk_at "j";refine cX (Si _ _ g1) (ax (j:=1) rfl) ?_;walk_at "j";refine .inl ⟨⟨_,aP.of (Si _ _ g3)⟩,λx yO=>?_⟩;refine qW (o:=.lst []) (Si _ _ g3) yO () (λ_=>Ext.set (Ext.refl _) rfl) (λ_ _ _ r=>And.intro ∅ r) ?_;intro A1 H1 l RO Yf;have VJ:=l;clear l;have fD1:C1 x=none:=yO;walk_at "j";generalize hC2:H1=C2 at *;have S2:=Si.trans RO;have Sj:=RO _ _ ed0;have Yg:∀b o,b≠d->C1 b=some o->C2 b=some o:=λb o _ e=>RO _ _ e;refine bL ?_;walk_at "j";refine cX (S2 _ _ g1) (ax (j:=1) rfl) ?_;walk_at "j";refine .inl ⟨⟨_,aP.of (S2 _ _ g3)⟩,λy zX=>?_⟩;refine qW (o:=.lst []) (S2 _ _ g3) zX () (λ_=>Ext.set (Ext.refl _) rfl) (λ_ _ _ r=>And.intro ∅ r) ?_;intro A2 H2 l Qq Qr;have RU:=l;clear l;have UT:C2 y=none:=zX;walk_at "j";have Ca:H2 d=some (.dK []):=Qq _ _ Sj;refine⟨Ca,[((Sum.inr "net":Key),V.ref I),((Sum.inr "put":Key),V.ref x),((Sum.inr "sender":Key),V.ref y)],rfl,nofun,?_⟩;have W:l7 [] ([((Sum.inr "net":Key),V.ref I),((Sum.inr "put":Key),V.ref x),((Sum.inr "sender":Key),V.ref y)]:List (Key×V))=[((Sum.inr "net":Key),V.ref I),((Sum.inr "put":Key),V.ref x),((Sum.inr "sender":Key),V.ref y)]:=by kernel_rfl
 rw[W];obtain⟨C3,hC3,Sk,RT,ke2⟩:=fC (d:=d) ([((Sum.inr "net":Key),V.ref I),((Sum.inr "put":Key),V.ref x),((Sum.inr "sender":Key),V.ref y)]) Qq;rw[hC3];have S3:aq H C3:=λb o e=>RT b o (ao e tQ) (S2 _ _ e);clear hC3;clear Ca W;walk_at "j";refine bL ?_;walk_at "j";refine cX (S3 _ _ g1) (ax (j:=1) rfl) ?_;walk_at "j";refine .inl ⟨⟨_,aP.of (S3 _ _ g3)⟩,λM yb=>?_⟩;refine qW (o:=.dK []) (S3 _ _ g3) yb () (λ_=>Ext.set (Ext.refl _) rfl) (λ_ _ _ r=>r) ?_;intro A3 T l Qs Yh;have RY:=l;clear l;have UX:C3 M=none:=yb;walk_at "j";have Ca:=Qs _ _ Sk;refine cM d _ rfl (lL.k (k:=Sum.inr "worker") Ca (small nofun)) ?_;have W:putK ([((Sum.inr "net":Key),V.ref I),((Sum.inr "put":Key),V.ref x),((Sum.inr "sender":Key),V.ref y)]:List (Key×V)) (Sum.inr "worker":Key) (V.ref M)=[((Sum.inr "net":Key),V.ref I),((Sum.inr "put":Key),V.ref x),((Sum.inr "sender":Key),V.ref y),((Sum.inr "worker":Key),V.ref M)]:=by kernel_rfl
 rw[W];obtain⟨C4,hC4,QV,RX,ke3⟩:=fC (d:=d) ([((Sum.inr "net":Key),V.ref I),((Sum.inr "put":Key),V.ref x),((Sum.inr "sender":Key),V.ref y),((Sum.inr "worker":Key),V.ref M)]) Qs;rw[hC4];have S4:aq H C4:=λb o e=>RX b o (ao e tQ) (S3 _ _ e);clear hC4;clear Ca W;walk_at "j";refine bL ?_;walk_at "j";refine cX (S4 _ _ g1) (ax (j:=0) rfl) ?_;walk_at "j";refine .inl ⟨⟨_,aP.of (S4 _ _ g2)⟩,λR R1=>?_⟩;refine bq (J:=wQ K am) (n:=mv.length) (λi ys H'=>∃as:List Addr,ys=as.map V.ref/\aq C4 H'/\qm C4 H' R as i (λj H' o=>∃v,o=.lst [v]/\HT H' 2 v (xt (g.ms.getD j default).ns (g.ms.getD j default).row))) (S' (small ())) ⟨[],rfl,aq.new _ R1,qm.nil⟩ ?_ ?_ ?_ ?_
 ·rintro i ys H' hi ⟨_,_,X,_⟩;exact⟨_,mv[i],aP.of (X _ _ (S4 _ _ g2)),cy hi⟩
 ·rintro ys H' ⟨_,_,X,_⟩;exact⟨_,aP.of (X _ _ (S4 _ _ g2)),P' _⟩
 ·intro i ys H' hi l hl tM xx H4 xT;nofun;obtain⟨as,rfl,X,hL⟩:=tM;obtain⟨rfl,hy⟩:=xT;ac_rfl;have ex:=hy _ (aP.of (X _ _ (S4 _ _ g2)));walk_at "xf";walk_at "j"
  try rw[if_pos trivial]
  have Lq:i<g.ms.length:=by lia
  obtain⟨mt,ln,lr,ld,xsd,rfl,m1,m2,m3,T,m5⟩:=h5.2 i xx _ ex (aY (d:=default) Lq);have Yy:=(S4.trans X)
  refine cX (Yy _ _ m1) (ax (j:=1) rfl) ?_;walk_at "j";refine .inl ⟨_,aP.of (Yy _ _ m2),λt1 T=>?_⟩;have r1:=aq.new (.tup ((g.ms.getD i default).ns.map V.int)) T;refine cX (r1 _ _ (Yy _ _ m1)) (ax (j:=2) rfl) ?_;walk_at "j";refine .inl ⟨_,aP.of (r1 _ _ (Yy _ _ m3)),λt2 T=>?_⟩;have r2:=aq.new (.tup ((g.ms.getD i default).row.map V.int)) T;refine⟨dH,λt3 xV=>?_⟩;have r3:=aq.new (.tup [.ref t1,.ref t2]) xV;have sP:=r1.trans (r2.trans r3);have Z:HT (upd (upd (upd H4 t1 (.tup ((g.ms.getD i default).ns.map V.int))) t2 (.tup ((g.ms.getD i default).row.map V.int))) t3 (.tup [.ref t1,.ref t2])) 2 (.ref t3) (xt (g.ms.getD i default).ns (g.ms.getD i default).row):=dg ab (nK (r3 _ _ (r2 _ _ ab))) (nK (r3 _ _ ab));generalize hGP:upd (upd (upd H4 t1 (.tup ((g.ms.getD i default).ns.map V.int))) t2 (.tup ((g.ms.getD i default).row.map V.int))) t3 (.tup [.ref t1,.ref t2])=HP at *;have D9:=sP _ _ l;walk_at "j";refine⟨∅,λp hp=>?_⟩;have sN:=aq.new (.lst [.ref t3]) hp;have QW:=sN _ _ D9;have nD:p≠R:=Ne.symm (ao D9 hp);refine cn QW hl hi (S' (small ())) ⟨as++[p],nofun,λb o e=>?_,?_⟩
  ·rw[av (ao e R1)];exact sN _ _ (sP _ _ (X _ _ e))
  ·refine hL.snoc X (by rw[l];simp) (sP.free hp) (o:=.lst [.ref t3]) ?_ ⟨_,rfl,Z.aG (λb xs e=>by rw[av (λz=>by rw[z,D9] at e;cases e)];calc sN _ _ e)⟩ (λb o nb e=>?_) (λj o ⟨v,e,h⟩=>⟨v,e,h.aG (λb xs e=>by rw[av (λz=>by rw[z,l] at e;cases e)];calc sN _ _ (sP _ _ e))⟩)
   ·rw[av nD];exact ab
   ·rw[av nb];exact sN _ _ (sP _ _ e)
 intro ys H4 l hl xU;obtain⟨A4,rfl,MT,Yi⟩:=xU;have R4:=l;clear l hl;have fD4:C4 R=none:=R1;walk_at "j";have Ca:=MT _ _ QV;refine cM d _ rfl (lL.k (k:=Sum.inr "states") Ca (small nofun)) ?_;have W:putK ([((Sum.inr "net":Key),V.ref I),((Sum.inr "put":Key),V.ref x),((Sum.inr "sender":Key),V.ref y),((Sum.inr "worker":Key),V.ref M)]:List (Key×V)) (Sum.inr "states":Key) (V.ref R)=[((Sum.inr "net":Key),V.ref I),((Sum.inr "put":Key),V.ref x),((Sum.inr "sender":Key),V.ref y),((Sum.inr "worker":Key),V.ref M),((Sum.inr "states":Key),V.ref R)]:=by kernel_rfl
 rw[W];obtain⟨C5,hC5,Nc,R3,ke4⟩:=fC (d:=d) ([((Sum.inr "net":Key),V.ref I),((Sum.inr "put":Key),V.ref x),((Sum.inr "sender":Key),V.ref y),((Sum.inr "worker":Key),V.ref M),((Sum.inr "states":Key),V.ref R)]) MT;rw[hC5];have S5:aq H C5:=λb o e=>R3 b o (ao e tQ) (S4 _ _ e);clear hC5;clear Ca W;walk_at "j";refine bL ?_;walk_at "j";refine cX (S5 _ _ g1) (ax (j:=0) rfl) ?_;walk_at "j";refine .inl ⟨⟨_,aP.of (S5 _ _ g2)⟩,λN BC=>?_⟩;refine bq (J:=wQ K am) (n:=mv.length) (λi ys H'=>∃as:List Addr,ys=as.map V.ref/\aq C5 H'/\qm C5 H' N as i (λ_ H' o=>∃q,o=.lst [.ref q]/\H' q=some (.lst [])/\C5 q=none/\q≠N)) (S' (small ())) ⟨[],rfl,aq.new _ BC,qm.nil⟩ ?_ ?_ ?_ ?_
 ·rintro i ys H' hi ⟨_,_,X,_⟩;exact⟨_,mv[i],aP.of (X _ _ (S5 _ _ g2)),cy hi⟩
 ·rintro ys H' ⟨_,_,X,_⟩;exact⟨_,aP.of (X _ _ (S5 _ _ g2)),P' _⟩
 ·intro i ys H' hi l hl GD xx H4 K6;nofun;obtain⟨as,rfl,X,hL⟩:=GD;obtain⟨rfl,hy⟩:=K6;ac_rfl;have ex:=hy _ (aP.of (X _ _ (S5 _ _ g2)));walk_at "xf";walk_at "j"
  try rw[if_pos trivial]
  refine⟨Y' _,λqq hqq=>?_⟩;have sP:=aq.new (.lst []) hqq;have eqq:upd H4 qq (.lst []) qq=some (.lst []):=ab;have nqD:qq≠N:=Ne.symm (ao l hqq);generalize hGP:upd H4 qq (.lst [])=HP at *;have D9:=sP _ _ l;walk_at "j";refine⟨∅,λp hp=>?_⟩;have sN:=aq.new (.lst [.ref qq]) hp;have QW:=sN _ _ D9;have nD:p≠N:=Ne.symm (ao D9 hp);refine cn QW hl hi (S' (small ())) ⟨as++[p],nofun,λb o e=>?_,?_⟩
  ·rw[av (ao e BC)];exact sN _ _ (sP _ _ (X _ _ e))
  ·refine hL.snoc X (by rw[l];simp) (sP.free hp) (o:=.lst [.ref qq]) ?_ ⟨qq,rfl,by rw[av nqD];calc sN _ _ eqq,X.free hqq,nqD⟩ (λb o nb e=>?_) (λj o ⟨T,e,h,h',h2⟩=>⟨T,e,by rw[av h2];calc sN _ _ (sP _ _ h),h',h2⟩)
   ·rw[av nD];exact ab
   ·rw[av nb];exact sN _ _ (sP _ _ e)
 intro ys H5 l hl K8;obtain⟨A5,rfl,MU,Yj⟩:=K8;have R8:=l;clear l hl;have fD5:C5 N=none:=BC;walk_at "j";have Ca:=MU _ _ Nc;refine cM d _ rfl (lL.k (k:=Sum.inr "words") Ca (small nofun)) ?_;have W:putK ([((Sum.inr "net":Key),V.ref I),((Sum.inr "put":Key),V.ref x),((Sum.inr "sender":Key),V.ref y),((Sum.inr "worker":Key),V.ref M),((Sum.inr "states":Key),V.ref R)]:List (Key×V)) (Sum.inr "words":Key) (V.ref N)=[((Sum.inr "net":Key),V.ref I),((Sum.inr "put":Key),V.ref x),((Sum.inr "sender":Key),V.ref y),((Sum.inr "worker":Key),V.ref M),((Sum.inr "states":Key),V.ref R),((Sum.inr "words":Key),V.ref N)]:=by kernel_rfl
 rw[W];obtain⟨C6,hC6,QX,R7,ke5⟩:=fC (d:=d) ([((Sum.inr "net":Key),V.ref I),((Sum.inr "put":Key),V.ref x),((Sum.inr "sender":Key),V.ref y),((Sum.inr "worker":Key),V.ref M),((Sum.inr "states":Key),V.ref R),((Sum.inr "words":Key),V.ref N)]) MU;rw[hC6];have S6:aq H C6:=λb o e=>R7 b o (ao e tQ) (S5 _ _ e);clear hC6;clear Ca W;walk_at "j";refine bL ?_;walk_at "j";refine cX (S6 _ _ g1) (ax (j:=0) rfl) ?_;walk_at "j";refine .inl ⟨⟨_,aP.of (S6 _ _ g2)⟩,λD6 VZ=>?_⟩;refine qW (o:=.lst []) (S6 _ _ g2) VZ () (λ_=>Ext.set (Ext.refl _) rfl) (λ_ _ _ r=>And.intro ∅ r) ?_;intro A6 T l Qt Yk;have Sd:=l;clear l;have fD6:C6 D6=none:=VZ;walk_at "j";have Ca:=Qt _ _ QX;refine cM d _ rfl (lL.k (k:=Sum.inr "heard") Ca (small nofun)) ?_;have W:putK ([((Sum.inr "net":Key),V.ref I),((Sum.inr "put":Key),V.ref x),((Sum.inr "sender":Key),V.ref y),((Sum.inr "worker":Key),V.ref M),((Sum.inr "states":Key),V.ref R),((Sum.inr "words":Key),V.ref N)]:List (Key×V)) (Sum.inr "heard":Key) (V.ref D6)=[((Sum.inr "net":Key),V.ref I),((Sum.inr "put":Key),V.ref x),((Sum.inr "sender":Key),V.ref y),((Sum.inr "worker":Key),V.ref M),((Sum.inr "states":Key),V.ref R),((Sum.inr "words":Key),V.ref N),((Sum.inr "heard":Key),V.ref D6)]:=by kernel_rfl
 rw[W];obtain⟨C7,hC7,Sl,Sb,ke6⟩:=fC (d:=d) ([((Sum.inr "net":Key),V.ref I),((Sum.inr "put":Key),V.ref x),((Sum.inr "sender":Key),V.ref y),((Sum.inr "worker":Key),V.ref M),((Sum.inr "states":Key),V.ref R),((Sum.inr "words":Key),V.ref N),((Sum.inr "heard":Key),V.ref D6)]) Qt;rw[hC7];have S7:aq H C7:=λb o e=>Sb b o (ao e tQ) (S6 _ _ e);clear hC7;clear Ca W;walk_at "j";refine⟨Y' _,λpe rZ=>?_⟩;have sE7:=aq.new (.lst []) rZ;have aci:upd C7 pe (.lst []) pe=some (.lst []):=ab;have npe:pe≠d:=Ne.symm (ao Sl rZ);generalize ait:upd C7 pe (.lst [])=E7 at *;refine cM d _ rfl (lL.k (k:=Sum.inr "events") (sE7 _ _ Sl) (small nofun)) ?_;have W:putK ([((Sum.inr "net":Key),V.ref I),((Sum.inr "put":Key),V.ref x),((Sum.inr "sender":Key),V.ref y),((Sum.inr "worker":Key),V.ref M),((Sum.inr "states":Key),V.ref R),((Sum.inr "words":Key),V.ref N),((Sum.inr "heard":Key),V.ref D6)]:List (Key×V)) (Sum.inr "events":Key) (V.ref pe)=[((Sum.inr "net":Key),V.ref I),((Sum.inr "put":Key),V.ref x),((Sum.inr "sender":Key),V.ref y),((Sum.inr "worker":Key),V.ref M),((Sum.inr "states":Key),V.ref R),((Sum.inr "words":Key),V.ref N),((Sum.inr "heard":Key),V.ref D6),((Sum.inr "events":Key),V.ref pe)]:=by kernel_rfl
 rw[W];obtain⟨GF,l,edF,kd7,T⟩:=fC (d:=d) ([((Sum.inr "net":Key),V.ref I),((Sum.inr "put":Key),V.ref x),((Sum.inr "sender":Key),V.ref y),((Sum.inr "worker":Key),V.ref M),((Sum.inr "states":Key),V.ref R),((Sum.inr "words":Key),V.ref N),((Sum.inr "heard":Key),V.ref D6),((Sum.inr "events":Key),V.ref pe)]) sE7;rw[l];have epe:=T _ _ npe aci;have SF:aq H GF:=λb o e=>kd7 b o (ao e tQ) (S7 _ _ e);clear l T;clear W;have L:∀(A:Hp) (kv:List (Key×V)) (b:Addr) (vs:List V),A d=some (.dK kv)->A b=some (.lst vs)->b≠d:=λA kv b vs S e2 z=>by rw[z,S]at e2;cases e2
 have ndk:∀(A:Hp) (p:Key×V) (kv:List (Key×V)) (b:Addr),A d=some (.dK (p::kv))->A b=some (.dK [])->b≠d:=λA p kv b S e2 z=>by rw[z,S]at e2;cases e2
 have Jz:∀(A:Hp) (kv:List (Key×V)) (b:Addr) (vs:List V),A d=some (.dK kv)->A b=some (.tup vs)->b≠d:=λA kv b vs S e2 z=>by rw[z,S]at e2;cases e2
 have kc7:=kd7;have Yz:∀b o,b≠d->C6 b=some o->GF b=some o:=λb o n e=>kc7 b o n (Sb b o n e);have Lr:∀b o,b≠d->C5 b=some o->GF b=some o:=λb o n e=>Yz b o n (R7 b o n e);have MV:∀b o,b≠d->C4 b=some o->GF b=some o:=λb o n e=>Lr b o n (R3 b o n e);have MW:∀b o,b≠d->C3 b=some o->GF b=some o:=λb o n e=>MV b o n (RX b o n e);have Qu:∀b o,b≠d->C2 b=some o->GF b=some o:=λb o n e=>MW b o n (RT b o n e);have WD:qm C1 C2 x A1 wv.length (λ_ _ o=>o=.lst []):=Yf;have HJ:=VJ;have WE:=WD.keep (λj b o e c=>by subst c;calc⟨Qu b _ (L _ _ _ _ Sj e) e,rfl⟩);have WG:=Qu _ _ (L _ _ _ _ Sj HJ) HJ;have WH:qm C2 C3 y A2 wv.length (λ_ _ o=>o=.lst []):=Qr.keep (λj b o e c=>by subst c;calc⟨ke2 b _ (L _ _ _ _ (Qq _ _ Sj) e) e,rfl⟩);have HK:=ke2 _ _ (L _ _ _ _ (Qq _ _ Sj) RU) RU;have WI:=WH.keep (λj b o e c=>by subst c;calc⟨MW b _ (L _ _ _ _ Sk e) e,rfl⟩);have WJ:=MW _ _ (L _ _ _ _ Sk HK) HK;have WK:qm C3 C4 M A3 wv.length (λ_ _ o=>o=.dK []):=Yh.keep (λj b o e c=>by subst c;calc⟨ke3 b _ (ndk _ _ _ _ (Qs _ _ Sk) e) e,rfl⟩);have HL:=ke3 _ _ (L _ _ _ _ (Qs _ _ Sk) RY) RY;have WL:=WK.keep (λj b o e c=>by subst c;calc⟨MV b _ (ndk _ _ _ _ QV e) e,rfl⟩);have WM:=MV _ _ (L _ _ _ _ QV HL) HL;have WN:qm C4 C5 R A4 mv.length (λj H' o=>∃v,o=.lst [v]/\HT H' 2 v (xt (g.ms.getD j default).ns (g.ms.getD j default).row)):=Yi.keep (λj b o e c=>by
  obtain⟨v,rfl,Z⟩:=c;calc⟨ke4 b _ (L _ _ _ _ (MT _ _ QV) e) e,v,rfl,Z.aG (λb' xs e'=>ke4 b' _ (Jz _ _ _ _ (MT _ _ QV) e') e')⟩)
 have HM:=ke4 _ _ (L _ _ _ _ (MT _ _ QV) R4) R4;have WO:=WN.keep (λj b o e c=>by
  obtain⟨v,rfl,Z⟩:=c;calc⟨Lr b _ (L _ _ _ _ Nc e) e,v,rfl,Z.aG (λb' xs e'=>Lr b' _ (Jz _ _ _ _ Nc e') e')⟩)
 have WQ:=Lr _ _ (L _ _ _ _ Nc HM) HM;have wb:qm C5 C6 N A5 mv.length (λ_ H' o=>∃q,o=.lst [.ref q]/\H' q=some (.lst [])/\C5 q=none/\q≠N):=Yj.keep (λj b o e c=>by
  obtain⟨v,rfl,Z,QQ,WR⟩:=c;calc⟨ke5 b _ (L _ _ _ _ (MU _ _ Nc) e) e,v,rfl,ke5 v _ (L _ _ _ _ (MU _ _ Nc) Z) Z,QQ,WR⟩)
 have uX:=ke5 _ _ (L _ _ _ _ (MU _ _ Nc) R8) R8;have nn:∀{A:Hp} {b:Addr} {o:HO},A b=some o->A b≠none:=λe z=>by rw[e]at z;cases z
 have WT:qm C5 C6 N A5 mv.length (λ_ H' o=>∃q,o=.lst [.ref q]/\H' q=some (.lst [])/\C5 q=none/\C6 q≠none):=⟨wb.len,wb.nd,wb.new,λj a e=>by
  obtain⟨o,S,q,rfl,e2,l,_⟩:=wb.ins j a e;calc⟨_,S,q,rfl,e2,l,nn e2⟩⟩
 have QY:=WT.keep (λj b o e c=>by
  obtain⟨v,rfl,Z,QQ,WR⟩:=c;calc⟨Yz b _ (L _ _ _ _ QX e) e,v,rfl,Yz v _ (L _ _ _ _ QX Z) Z,QQ,WR⟩)
 have WU:=Yz _ _ (L _ _ _ _ QX uX) uX;have WV:qm C6 C7 D6 A6 mv.length (λ_ _ o=>o=.lst []):=Yk.keep (λj b o e c=>by subst c;calc⟨ke6 b _ (L _ _ _ _ (Qt _ _ QX) e) e,rfl⟩);have HN:=ke6 _ _ (L _ _ _ _ (Qt _ _ QX) Sd) Sd;have WW:=WV.keep (λj b o e c=>by subst c;calc⟨kc7 b _ (L _ _ _ _ Sl e) e,rfl⟩);have WX:=kc7 _ _ (L _ _ _ _ Sl HN) HN;rw[kd]at WE;rw[kd]at WI;rw[kd]at WL;rw[mw]at WO;rw[mw]at QY;rw[mw]at WW;obtain⟨ad,Qn⟩:∃ad:Nat->Nat->Addr,∀t i,ad t i=([[pe],A4,A5,A6,A1,A2,A3].getD t []).getD i 0:=⟨_,λ_ _=>rfl⟩
 have pz:∀{A B:Hp},(∀b o,b≠d->A b=some o->B b=some o)->∀{o},B d=some o->∀b,A b≠none->B b≠none:=λ{A B} h {o} e b hb=>by
  by_cases z:b=d
  ·rw[z,e];exact λz=>nomatch z
  ·cases S:A b with
   |none=>calc absurd S hb
   |some u=>rw[h b u z S];exact λz=>nomatch z
 have VE:∀a<7,∀b<7,[6,3,4,5,0,1,2].getD a 7=[6,3,4,5,0,1,2].getD b 7->a=b:=by decide
 obtain⟨bN,MN,hDo⟩:=B3 (F:=F) (G:=GF) (n:=g.n) (c:=(RS.new g).tv) (λt=>[C1,C2,C3,C4,C5,C6,C7].getD t GF) (λt=>[6,3,4,5,0,1,2].getD t 7) _ (λt=>[d,R,N,D6,x,y,M].getD t d) (λt=>[λ_ _ u=>u=.lst [],λj H' o=>∃v,o=.lst [v]/\HT H' 2 v (xt (g.ms.getD j default).ns (g.ms.getD j default).row),λ_ H' o=>∃q,o=.lst [.ref q]/\H' q=some (.lst [])/\C5 q=none/\C6 q≠none,λ_ _ o=>o=.lst [],λ_ _ o=>o=.lst [],λ_ _ o=>o=.lst []].getD t λ_ _ o=>o=.dK []) Qn (λ_=>rfl) (λt l h h'=>VE t () l ())
  (λt=>match t with
   |0=>pz Yg Sj
   |1=>pz RT Sk
   |2=>pz RX QV
   |3=>pz R3 Nc
   |4=>pz R7 QX
   |5=>pz Sb Sl
   |6=>pz kd7 edF
   | (t + 7)=>λb h=>h)
  (λb h=>by
   obtain⟨o,e,l⟩:=j8 b h;calc⟨nn (Si _ _ e),o,SF _ _ e,l⟩)
  (λt ht=>match t,ht with
   | 0,_=>⟨⟨rfl,nofun,λa m=>by rw[List.mem_singleton.mp m];exact⟨rZ,Ne.symm (ao Sl rZ)⟩,λj a e=>by cases j with
    |zero=>cases e;calc⟨_,epe,rfl⟩
    | succ j=>cases e⟩,λa m=>by rw[List.mem_singleton.mp m];calc nn epe,λh=>absurd h ∅⟩
   |1,_=>⟨WO,WN.some,λ_=>⟨fD4,nn HM⟩⟩
   |2,_=>⟨QY,wb.some,λ_=>⟨fD5,nn uX⟩⟩
   |3,_=>⟨WW,WV.some,λ_=>⟨fD6,nn HN⟩⟩
   |4,_=>⟨WE,WD.some,λ_=>⟨fD1,nn HJ⟩⟩
   |5,_=>⟨WI,WH.some,λ_=>⟨UT,nn HK⟩⟩
   |6,_=>⟨WL,WK.some,λ_=>⟨UX,nn HL⟩⟩
   | (t + 7),h=>absurd h ())
  (λt i u ht h=>by
   match t,ht,h with
   |0,_,h|3,_,h|4,_,h|5,_,h|6,_,h=>cases h;trivial
   |1,_,⟨_,e,_⟩|2,_,⟨_,e,_⟩=>cases e;trivial
   | (t + 7),h,_=>calc absurd h ())
  (λhz fo t i u ht hi e h=>by
   match t,ht,h with
   |0,_,h|3,_,h|4,_,h|5,_,h=>cases h;calc(eJ.nil:eJ _ 4 [] [])
   |1,_,⟨v,e,Z⟩=>cases e;calc(eJ.one ((Hf hz Z).mono ∅):eJ _ 4 [v] [_])
   |2,_,⟨v,e,Z,QQ,WR⟩=>
    cases e;have nq:=fo 4 v QQ WR (λt ht es m=>by
     have:=VE t () 2 () es;subst this;obtain⟨j,e⟩:=List.getElem?_of_mem m;obtain⟨_,S,q,rfl,_⟩:=QY.ins j _ e;rw[Z] at S;cases S)
    show eJ (iq (λb=>F b\/FP g.n ad b) GF) 4 [.ref v] [.lst []];calc eJ.one (.lst (by rw[fE nq];calc Z) rfl (λi u e Y=>by simp at Y))
   |6,_,h=>
    cases h;exact⟨Y' _,λk=>by
     have S:jC ((RS.new g).ww i).eC k=none:=by
      show jC [] k=none;unfold jC;split<;>rfl
     rw[S];calc E8⟩
   | (t + 7),h,_=>calc absurd h ())
 have O:∀b,FP g.n ad b->H b=none:=λb hb=>Si.free (MN b hb).1;have nF:∀b,H b=none->¬F b:=λb e z=>by
  obtain⟨o,S,_⟩:=j8 b z;rw[e]at S;cases S
 have hT:bW F GF d (.ref I) g (RS.new g) ad:=by
  refine⟨⟨λt=>[d,R,N,D6,x,y,M].getD t d,?_,nF d tQ,λz=>nn ed0 (MN d z).1,λt h1 h6=>?_⟩,bN,⟨ls,hN.cv ?_⟩,aO⟩
  ·rw[edF,Jt,Qn];rfl
  ·obtain⟨k,l,u⟩:=hDo t h1 h6;calc⟨?_,k,l⟩;rw[<-u]
   match t,h1,h6 with
   |1,_,_=>calc WQ
   |2,_,_=>calc WU
   |3,_,_=>calc WX
   |4,_,_=>calc WG
   |5,_,_=>calc WJ
   |6,_,_=>calc WM
   |(t+7),_,h=>exact absurd h ()
  ·intro b l e n;obtain⟨k,z2⟩:=de e n;rw[fE]
   ·exact SF _ _ z2
   ·rintro(z | z)
    ·exact k z
    ·rw[O b z]at z2;cases z2
 have h7F:=h7.aG SF.aM;walk_at "j";refine cX (SF _ _ g1) (ax (j:=2) rfl) (.inl ⟨⟨_,aP.of (SF _ _ g4)⟩,eU (K:=K) (xs:=lv) (λi σ H'=>(∃z2 z3,σ=[some (V.ref I),some (V.ref d),z2,z3])/\Fr (FP g.n ad) GF H'/\bW F H' d (.ref I) g ((RS.new g).nR (ls.take i)) ad) ?_ ?_ ?_ ?_⟩)
 ·exact⟨⟨_,_,rfl⟩,Fr.refl,hT⟩
 ·rintro i σ H' hi ⟨_,fi,_⟩;exact aP.of (fi.at (SF _ _ g4) (λz=>by rw[O _ z]at g4;cases g4))
 ·intro i z σ H' hzz acm;nofun;obtain⟨⟨z2,z3,rfl⟩,fi,B8⟩:=acm;have j:i < ls.length:=by rw[<-uN];exact(List.getElem?_eq_some_iff.mp hzz).1
  have k:ls[i]?=some ls[i]:=cy j;have Qm:=(h7F.2 i z (nZ ls[i]) hzz (by rw[List.getElem?_map,k];rfl)).aG fi.aM;have Hl:=rz _ (aae j);have Lo:(RS.new g).nR (ls.take (i+1))=((RS.new g).nR (ls.take i)).put ls[i].1.toNat ls[i].2 none:=by
   rw[List.take_succ,k];exact pK _
  have Ah:=(qV (ls.take i) (Aj aO)).mono (show _<=19998 by simp;lia);generalize ls[i]=p at *;obtain⟨U,px⟩:=p;obtain⟨tz,u1,u2,kz,rfl,Ek,y1,y2⟩:=dI Qm;obtain rfl:=y1.cB;obtain rfl:=y2.cB;have k:=Hl.1;have j:=Hl.2;simp only at k j;have ej:((U.toNat:Nat):Int)=U:=aaQ k;have qU:U.toNat<g.ws.length:=by lia
  generalize hri:(RS.new g).nR (ls.take i)=ri at *;ac_rfl;calc wD (bz.of Ek) ?_;nofun;obtain⟨l,Wy,k,nPi,j⟩:=B8.dk;have oi4:=j 4 ∅ ∅;have WA:=j 5 ∅ ∅;have bi:=B8.bN;obtain⟨w4,x4,j⟩:=bi.lst (t:=4) (i:=U.toNat) qU rfl;ac_rfl;have k:w4.length=(ri.ww U.toNat).say.length:=by simpa using j.1
  have j:=Ah.bs _ qU;have j:=Ah.ls _ qU;walk_at "j";refine bI _ (Lv Wy) ?_;walk_at "j";have ra:ip (lY g.n ad 4) U=some (.ref (ad 4 U.toNat)):=by have:=aZ (n:=g.n) (ad:=ad) (t:=4) qU;rw[ej]at this;exact this
  have rb:ip (lY g.n ad 5) U=some (.ref (ad 5 U.toNat)):=by have:=aZ (n:=g.n) (ad:=ad) (t:=5) qU;rw[ej]at this;exact this
  refine bt oi4.1 ra ?_;refine⟨.inl ⟨rfl,_,aP.of x4⟩,?_⟩;walk_at "j";refine gJ w4 x4 (small ()) ?_;have bj:=bi.app (t:=4) (i:=U.toNat) qU rfl x4 (eJ.one (.int px));have fj:Fr (FP g.n ad) H' (upd H' (ad 4 U.toNat) (.lst (w4++[.int px]))):=Fr.refl.upd ⟨4,U.toNat,qU,rfl⟩ x4 trivial;generalize hGj:upd H' (ad 4 U.toNat) (.lst (w4++[.int px]))=Hj at *;obtain⟨w5,x5,j⟩:=bj.lst (t:=5) (i:=U.toNat) qU rfl;have k:w5.length=(ri.ww U.toNat).snd.length:=by simpa using j.1
  walk_at "j";refine bI _ (Hm (fj.at Wy nPi)) ?_;walk_at "j";refine bt (fj.at WA.1 WA.2.2) rb ?_;refine⟨.inl ⟨rfl,_,aP.of x5⟩,?_⟩;walk_at "j";refine gJ w5 x5 (small ()) ?_;have bk:=bj.app (t:=5) (i:=U.toNat) qU rfl x5 (eJ.one (show HD _ 4 .bC (ni none) from .bC));have fk:Fr (FP g.n ad) H' (upd Hj (ad 5 U.toNat) (.lst (w5++[.bC]))):=fj.upd ⟨5,U.toNat,qU,rfl⟩ x5 trivial;walk_at "j";refine gI ⟨_,_,rfl,rfl⟩ (fi.trans fk) ?_;rw[Lo];exact B8.own fk (bk.congr HC)
 ·intro σ H' aco;obtain⟨⟨z2,z3,rfl⟩,fi,B8⟩:=aco;walk_at "j";rw[uN,List.take_length]at B8;refine q d ad H' (λb o e=>?_) O tQ B8;exact fi.at (SF _ _ e) (λz=>by rw[O b z]at e;cases e)
def j4(nt:NT)(r:RS)(s:List (Int×Int)):RS:=s.foldl (λr p=>r.pick nt p.1.toNat p.2.toNat) r
def sT(nt:NT)(r:RS)(s:List (Int×Int)):Prop:=∀(i:Nat) p,s[i]?=some p->∃w k:Nat,p=((w:Int),(k:Int))/\(j4 nt r (s.take i)).Jo nt w k
theorem mK{nt:NT}{w k:Nat}:j4 nt r (s++[((w:Int),(k:Int))])=(j4 nt r s).pick nt w k:=by
 unfold j4;rw[List.foldl_append];rfl
theorem HQ{nt:NT}:sT nt r []:=λi p e=>by simp at e
theorem Ea{nt:NT}{w k:Nat}(h:sT nt r s)(a:(j4 nt r s).Jo nt w k):sT nt r (s++[((w:Int),(k:Int))]):=λi p e=>by
 by_cases b:i<s.length
 ·rw[List.getElem?_append_left b]at e;rw[List.take_append_of_le_length ()];exact h i p e
 ·have c:i=s.length:=by
   have:=(List.getElem?_eq_some_iff.mp e).1;simp at this;lia
  subst c;rw[List.getElem?_append_right (Nat.le_refl _),Nat.sub_self]at e;obtain rfl:=Option.some.inj e;calc⟨w,k,rfl,by rw[List.take_left];calc a⟩
theorem Eb{nt:NT}{p:Int×Int}(h:sT nt r (s++[p])):sT nt r s/\∃w k:Nat,p=((w:Int),(k:Int))/\(j4 nt r s).Jo nt w k:=by
 refine⟨λi q e=>?_,?_⟩
 ·have a:=(List.getElem?_eq_some_iff.mp e).1;have:=h i q (by rw[List.getElem?_append_left a];calc e);rw[List.take_append_of_le_length ()]at this;exact this
 ·have:=h s.length p (by rw[List.getElem?_append_right (Nat.le_refl _),Nat.sub_self];rfl);rw[List.take_left]at this;calc this
theorem Cb{nt:NT}(d:nt.Ok){r:RS}(h:r.Ok nt)(e:r.picks=[]):∀n (s:List (Int×Int)),s.length=n->sT nt r s->(j4 nt r s).Ok nt/\(j4 nt r s).picks=s
 |0,s,c,_=>by
  have:s=[]:=List.length_eq_zero_iff.mp c;subst this;calc⟨h,e⟩
 |n+1,s,c,g=>by
  rcases List.eq_nil_or_concat s with rfl|⟨i,p,f⟩
  ·simp at c
  rw[List.concat_eq_append]at f;subst f;obtain⟨j,w,k,rfl,l⟩:=Eb g;obtain⟨a,b⟩:=Cb d h e n i (by simpa using c) j;rw[mK];have:=RS.Ok.pick d a (k:=k) l.lt;rw[b]at this;calc this
theorem take_snoc{i:Nat}{p:Int×Int}(e:s[i]?=some p):s.take (i+1)=s.take i++[p]:=by rw[List.take_add_one,e];rfl
abbrev jQ:Stmt:=top 51
inductive HR(C CN CR:Addr)(vs:List V)(H:Hp)(Q:VK):Prop
 |mk (F:Addr->Prop) (ba l:Addr) (nt:NT) (ls:List (Int×Int)) (ms:List Addr) (wv lv ys:List V) (s:List (Int×Int)) (h0:vs=[.ref ba,.ref l]) (h2:sx C CN H ba nt) (h3:kK CN H ba ms wv lv) (h4:gw H 1 lv (ls.map nZ)) (h5:ls.length<=20) (h6:∀l∈ls,0<=l.1/\l.1<nt.ws.length) (hl:H l=some (.lst ys)) (hs:gw H 1 ys (s.map pairD)) (hn:s.length<=100) (hF:FS F H) (hc:sT nt (RS.begin nt ls) s) (q:∀x ad H',aq H H'->H x=none->(∀b,FP nt.n ad b->H b=none)->bJ C CN CR F H' x ba nt (j4 nt (RS.begin nt ls) s) ad->Q (.ref x) H'):HR C CN CR vs H Q
def Cc(C CN CR:Addr):Sp:=λvs H Q _=>HR C CN CR vs H Q
theorem Ec{nt:NT}(h:sT nt r s)(n:Nat):sT nt r (s.take n):=λi p e=>by
 have a:=(List.getElem?_eq_some_iff.mp e).1;rw[List.length_take]at a;rw[List.getElem?_take,if_pos ()]at e;rw[List.take_take,Nat.min_eq_left ()];calc h i p e
theorem we(D:cZ K mg "played_run" "played_run" jQ ["net","schedule"])(T:Tx K mg C CN CR F FD)(N:ck P w K mg base CR "pick_at" 6 ["self","way","number","at"] (v8 C CN CR))(sU:vK P w K mg base "Run" CR 2 ["self","net"] (wa C CN CR)):Def P w K mg base "played_run" 7 ["net","schedule"] (Cc C CN CR):=by
 have sc:aB ["net","schedule","run","at","way","number"] ["net","schedule"] (ay jQ):=by walk_at "s"
 symm;obtain⟨F,ba,l,a,ls,ms,wv,lv,ys,s,rfl,G,Y,W3,I,rz,m,J,W4,L,M,q⟩:=h;have hu:=hr.units;refine⟨_,(ag (aR (i:=2) sc.nd rfl Sort (xo sU hr (af (au 0) aa)))
  (ag (df PassesOwn.never rfl (jB rfl T.dE (af (au 1) aa)) (yV rfl (gM (aQ (i:=3) sc.nd rfl Sort) (gM (eZ (i:=4) (j:=5) rfl sc.nd rfl rfl Sort Sort) vi)))
  (ak (bP (eW N T.aS hr (au 2) (af (au 4) (af (au 5) (af (au 3) aa)))))))
  (ak (aE (au 2))))),?_⟩
 have Jw:=G.ok;obtain⟨Q0,RM⟩:=yt Jw I;refine L2.cG λN h1=>?_;walk_at "j";intro g N O T W5;have c:aq H (upd (upd H N (.own g)) g (.ins CR N [])):=λb o e=>by rw[av (ao e O),av (ao e T)];exact e
 calc⟨F,g,N,ba,a,ls,ms,wv,lv,rfl,ab,G.fr (Z:=λ_=>False) c.fr,Y.same c,W3.aG c.aM,I,rz,L.fr (Z:=λ_=>False) c.fr (λ_ _ h=>h),λad H3 k0 f0 Sm=>?_⟩;have p:aq H H3:=λb o e=>k0 b o (ao e O) (c _ _ e);have x:∀b,FP a.n ad b->H b=none:=λb hb=>by
  cases e:H b with
  |none=>rfl
  |some o=>
   have:=f0 b hb;rw[c _ _ e]at this;cases this
 clear k0 f0 c;calc⟨rfl,L2.cH h1 ?_⟩;clear h1;walk_at "j";have Q2:ys.length=s.length:=by simpa using J.1
 refine⟨true,ys,Sq.l (p _ _ m),kr (xs:=ys) (λi σ H'=>(∃R S U,σ=[some (V.ref ba),some (V.ref l),some (V.ref g),R,S,U])/\Fr (FP a.n ad) H3 H'/\bJ C CN CR F H' g ba a (j4 a (RS.begin a ls) (s.take i)) ad) ?_ ?_ ?_ ?_⟩
 ·exact⟨⟨_,_,_,rfl⟩,Fr.refl,Sm⟩
 ·rintro i σ H' ⟨_,d,_⟩;exact Sq.l (d.at (p _ _ m) (λz=>by rw[x _ z]at m;cases m))
 ·intro i r σ H' y hx ir Qb;nofun;obtain⟨⟨R,S,U,rfl⟩,d,u⟩:=ir;have c:i < s.length:=by rw[<-Q2];exact(List.getElem?_eq_some_iff.mp hx).1
  have B:s[i]?=some s[i]:=cy c;have v:=aq.new (.tup [.int (i:Nat),r]) Qb;have V7:upd H' y (.tup [.int (i:Nat),r]) y=some (.tup [.int (i:Nat),r]):=ab;have t:=(((J.2 i r (pairD s[i]) hx (by rw[List.getElem?_map,B];rfl)).aG p.aM).aG d.aM).aG v.aM;generalize Ja:upd H' y (.tup [.int (i:Nat),r])=G2 at *;obtain⟨wy,k,ep,hc⟩:=M i _ B;rw[ep]at t B;obtain⟨ta,u1,u2,kk,rfl,tW,y1,y2⟩:=dI t;obtain rfl:=y1.cB;obtain rfl:=y2.cB;ac_rfl;refine⟨y,_,rfl,bz.of V7,rfl,_,_,rfl,_,_,rfl,⟨ta,_,rfl,bz.of tW,rfl,_,_,rfl,_,_,rfl,rfl,rfl,?_⟩⟩;walk_at "j";nofun;obtain⟨c,l,zz,m⟩:=u.ins;obtain⟨W,X⟩:=Cb Jw Q0 RM _ _ rfl (Ec M i);ac_rfl;have Ab:∀{G:Hp},aq G2 G->aq H G:=λc b o e=>c _ _ (v _ _ (d.at (p _ _ e) (λz=>by rw[x _ z]at e;cases e)));refine gm (v _ _ zz) (fI ⋯) ?_;refine⟨F,g,ba,a,_,ad,wy,k,.int (i:Nat),rfl,u.same v,L.fr (Z:=λ_=>False) (Ab (aq.refl _)).fr (λ_ _ h=>h),W,hc,by rw[X,List.length_take];lia,λt c f a g=>?_⟩;refine⟨⟨_,_,_,rfl,rfl,rfl⟩,(d.trans v.fr).trans f,?_⟩;rw[take_snoc B,mK];exact a
 ·intro σ H' iu;obtain⟨⟨R,S,U,rfl⟩,d,u⟩:=iu;rw[Q2,List.take_length]at u;walk_at "j";exact q _ _ _ (λb o e=>d.at (p _ _ e) (λz=>by rw[x _ z]at e;cases e)) O x u
abbrev iY:Stmt:=(b8 (top 50)).getD 17 (.Pass ⟨0,0,0,0⟩)
def yB(C CN CR:Addr):Sp:=λvs H Q _=>∃(F:Addr->Prop) (x ba:Addr) (nt:NT) (r:RS) (ad:Nat->Nat->Addr) (a i:Nat),vs=[.ref x,.int a,.int i]/\bJ C CN CR F H x ba nt r ad/\r.Ok nt/\a<nt.ws.length/\i<(r.ww a).say.length/\∀v,HT H 1 v (ni ((r.ww a).snd.getD i none))->Q v H
theorem t9(D:gG K CR "sent_by" "Run.sent_by" iY ["self","way","number"])(T:Tx K mg C CN CR F FD)(o:ck P w K mg base CR "need_letter" 4 ["self","way","number","at"] (BZ C CN CR)):ck P w K mg base CR "sent_by" 5 ["self","way","number"] (yB C CN CR):=by
 have sc:aB ["self","way","number"] ["self","way","number"] (ay iY):=by walk_at "s"
 symm;obtain⟨F,x,ba,j,r,ad,a,i,rfl,c,k,b,g,q⟩:=h;have m:=hr.units;refine⟨_,(ag (bP (eW o T.aS hr (au 0) (af (au 1) (af (au 2) (af ai aa)))))
  (ak (aE (aj m (aj m (bF (au 0) rfl) (au 1)) (au 2))))),?_⟩
 obtain⟨m,o,n,p⟩:=c.ins;walk_at "j";refine gm n (fI ⋯) ?_;refine⟨_,x,ba,j,r,ad,a,i,_,rfl,c,b,g,?_⟩;walk_at "j";have l:=(p 5 ∅ ∅).1;nofun;obtain⟨v,e,d⟩:=c.bN.lst (t:=5) (i:=a) b rfl;have y:i<(r.ww a).snd.length:=by rw[<-k.ls a b];exact g
 obtain⟨u,z,B⟩:=d.get (i:=i) (d:=ni ((r.ww a).snd.getD i none)) (by rw[List.getElem?_map,aY (d:=none) y];rfl);ac_rfl;refine fv n T.aS T.eN Vo ?_;walk_at "j";refine bt l (aZ b) ?_;refine bt e (ax z) ?_;exact q _ (uU (B.cv dJ))
abbrev gB:Stmt:=(b8 (top 50)).getD 18 (.Pass ⟨0,0,0,0⟩)
def Ce(C CN CR:Addr):Sp:=λvs H Q _=>∃(F:Addr->Prop) (x ba:Addr) (nt:NT) (r:RS) (ad:Nat->Nat->Addr) (a i:Nat),vs=[.ref x,.int a,.int i]/\bJ C CN CR F H x ba nt r ad/\r.Ok nt/\a<nt.ws.length/\i<(r.ww a).say.length/\∀v,HT H 1 v (ni ((r.ww a).eC.getD i none))->Q v H
theorem qB(D:gG K CR "worked_by" "Run.worked_by" gB ["self","way","number"])(T:Tx K mg C CN CR F FD)(o:ck P w K mg base CR "need_letter" 4 ["self","way","number","at"] (BZ C CN CR)):ck P w K mg base CR "worked_by" 5 ["self","way","number"] (Ce C CN CR):=by
 have sc:aB ["self","way","number"] ["self","way","number"] (ay gB):=by walk_at "s"
 symm;obtain⟨F,x,ba,j,r,ad,a,i,rfl,c,k,b,g,q⟩:=h;have m:=hr.units;refine⟨_,(ag (bP (eW o T.aS hr (au 0) (af (au 1) (af (au 2) (af ai aa)))))
  (ak (aE (aj m (aj m (bF (au 0) rfl) (au 1)) (au 2))))),?_⟩
 obtain⟨m,o,n,p⟩:=c.ins;walk_at "j";refine gm n (fI ⋯) ?_;refine⟨_,x,ba,j,r,ad,a,i,_,rfl,c,b,g,?_⟩;walk_at "j";have l:=(p 6 ∅ ∅).1;nofun;obtain⟨v,e,d⟩:=c.bN.lst (t:=6) (i:=a) b rfl;have y:i<(r.ww a).eC.length:=by rw[<-k.lk a b];exact g
 obtain⟨u,z,B⟩:=d.get (i:=i) (d:=ni ((r.ww a).eC.getD i none)) (by rw[List.getElem?_map,aY (d:=none) y];rfl);ac_rfl;refine fv n T.aS T.cT GY ?_;walk_at "j";refine bt l (aZ b) ?_;refine bt e (ax z) ?_;exact q _ (uU (B.cv dJ))
theorem sV{v:V}(h:HT H 1 v (pairD e)):∃a,v=.ref a/\H a=some (.tup [.int e.1,.int e.2]):=by
 obtain⟨b,g,i,j,rfl,c,d,f⟩:=dI h;obtain rfl:=d.cB;obtain rfl:=f.cB;calc⟨b,rfl,c⟩
theorem LJ {n:Nat}{vs:List V}(h:eJ H n vs (s.map pairD)):gw H 1 vs (s.map pairD):=⟨h.1,λi v d b a=>by
 rw[List.getElem?_map] at a;obtain⟨p,c,rfl⟩:=Option.map_eq_some_iff.mp a;calc uU (e:=some p) (h.2 i v _ b (by rw[List.getElem?_map,c];rfl))⟩
theorem HS{K:W.Frag}(e:H a=some (.dT kvs)):Tr K "dict" (.ref a) H:=.inr (.inr (.inl ⟨rfl,.inr ⟨_,e⟩⟩))
theorem mL:2<=sizeLine:=by rw[sizeLine_eq];lia
def fe(H:Hp)(kvs:List (List Key×V))(D:List (Ev×List Int)):Prop:=Paired (λ(q:List Key×V) (x:Ev×List Int)=>q.1=kE x.1/\∃b,q.2=.ref b/\H b=some (.tup (x.2.map V.int))) kvs D
theorem fe.same{D:List (Ev×List Int)}(h:fe H kvs D)(s:aq H H'):fe H' kvs D:=Paired.Cr h λ_ _ z=>⟨z.1,let ⟨b,e,f⟩:=z.2;⟨b,e,s _ _ f⟩⟩
theorem fe.keys{H:Hp}{kvs:List (List Key×V)}{D:List (Ev×List Int)}(h:fe H kvs D):kvs.map (·.1)=D.map λx=>kE x.1:=by
 induction h with
 |nil=>rfl
 |cons h _ a=>rw[List.map_cons,List.map_cons,a,h.1]
theorem fe.val{H:Hp}{kvs:List (List Key×V)}{D:List (Ev×List Int)}(h:fe H kvs D)(p:Ev):(eA D p=none/\dW kvs (kE p)=none)\/∃R b,eA D p=some R/\dW kvs (kE p)=some (.ref b)/\H b=some (.tup (R.map V.int)):=by
 induction h with
 |nil=>calc .inl ⟨rfl,rfl⟩
 | @cons q x c a h _ d=>
  obtain⟨c,b,g,i⟩:=h;by_cases e:x.1=p
  ·exact .inr ⟨x.2,b,by simp[eA,List.find?_cons,e],by rw[dq (c.trans (by rw[e])),g],i⟩
  ·have g:eA (x::a) p=eA a p:=by simp[eA,List.find?_cons,e]
   rw[g,dw (λz=>e (vO (c.symm.trans z)))];calc d
theorem Cf{n:Nat}{D:List (Ev×List Int)}(h:fe H kvs D){a:Addr}(e:H a=some (.tup ((List.replicate n 0).map V.int)))(p:Ev):∃b,(dW kvs (kE p)).getD (.ref a)=.ref b/\H b=some (.tup ((eQ n D (some p)).map V.int)):=by
 rcases h.val p with⟨c,d⟩|⟨R,b,c,d,f⟩
 ·exact⟨a,by rw[d];rfl,by rw[show eQ n D (some p)=List.replicate n 0 by simp[eQ,c]];calc e⟩
 ·calc⟨b,by rw[d];rfl,by rw[show eQ n D (some p)=R by simp[eQ,c]];calc f⟩
theorem Ed{n:Nat}{H:Hp}{kvs:List (List Key×V)}{D:List (Ev×List Int)}(h:fe H kvs D)(g:∀p∈D.map (·.1),p∈jF){d c:Addr}(f:H d=some (.tup ((List.replicate n 0).map V.int)))(i:H c=some (.dT kvs)){v:V}{s:Option Ev}(j:HT H 1 v (ni s)){Q:VK}(q:∀b,H b=some (.tup ((eQ n D s).map V.int))->Q (.ref b) H):Mp (.ref c) [v,.ref d] H Q:=by
 cases s with
 |none=>
  have:v=.bC:=by cases(show HT H 1 v .bC from j);rfl
  subst this;calc⟨c,_,_,none,rfl,rfl,.inr ⟨rfl,rfl,kvs,.inl i,λp l=>?_⟩,q d f⟩;have:p.1∈kvs.map (·.1):=List.mem_map.mpr ⟨p,l,rfl⟩;rw[h.keys]at this;obtain⟨y,d,e⟩:=List.mem_map.mp this;calc⟨xK y.1,by rw[<-e];calc Bs _,KN _ (g _ (List.mem_map.mpr ⟨y,d,rfl⟩))⟩
 |some p=>
  obtain⟨a,rfl,d⟩:=sV (show HT H 1 v (pairD p) from j);obtain⟨b,g,l⟩:=Cf h f p;calc Pf c _ _ _ rfl rfl (.inl (.t (k:=kE p) i d)) ?_;rw[g];calc q b l
theorem yC{n:Nat}{L:Lg}(h:gn n L)(o:Option Ev):(eQ n (cw n L) o).length=n:=by
 cases o with
 |none=>calc List.length_replicate
 |some p=>
  by_cases a:p∈L.map (·.1)
  ·obtain⟨R,S,b,_,c⟩:=h.all.2.2 p a;rw[show eQ n (cw n L) (some p)=R by simp[eQ,b]];exact c.len
  ·rw[show eQ n (cw n L) (some p)=List.replicate n 0 by simp[eQ,gO (show p∉(cw n L).map (·.1) by rw[h.all.1];calc a)]];calc List.length_replicate
theorem fe.put{D:List (Ev×List Int)}(h:fe H kvs D){p:Ev}(a:p∉D.map (·.1)){R:List Int}{b:Addr}(e:H b=some (.tup (R.map V.int))):fe H (putK kvs (kE p) (.ref b)) (D++[(p,R)]):=by
 have:¬(kvs.any λc=>decide (c.1=kE p))=true:=by
  rw[ji];rcases h.val p with⟨_,z⟩|⟨c,d,z,_⟩
  ·rw[z];exact T'
  ·rw[gO a]at z;cases z
 unfold putK;rw[if_neg this];calc Paired.snoc h ⟨rfl,b,rfl,e⟩
abbrev jR:Stmt:=top 15
def HU(C CN CR:Addr):Sp:=λvs H Q _=>∃(F:Addr->Prop) (x ba:Addr) (nt:NT) (r:RS) (ad:Nat->Nat->Addr) (m c:Int),vs=[.ref x,.int m,.int c]/\bJ C CN CR F H x ba nt r ad/\0<=m/\m<nt.ms.length/\1<=c/\c<(r.mm m.toNat).fN.length/\∀H',aq H H'->Q .bC H'
theorem wg(D:cZ K mg "need_event" "need_event" jR ["run","m","c"])(T:Tx K mg C CN CR F FD)(e:Def P w K mg base "is_within" 2 ["thing","low","beyond"] bY)(g:ck P w K mg base CN "machines" 1 ["self"] (fG CN))(u:ck P w K mg base CR "count" 4 ["self","m"] (Ha C CN CR))(v:ck P w K mg base CR "net" 1 ["self"] (v7 C CN CR)):Def P w K mg base "need_event" 5 ["run","m","c"] (HU C CN CR):=by
 have sc:aB ["run","m","c"] ["run","m","c"] (ay jR):=by walk_at "s"
 symm;obtain⟨F,x,ba,c,r,ad,m,d,rfl,a,i,j,b,n,q⟩:=h;have o:=hr.units;refine⟨_,(ak (aT (PW.pt (pw_or (cb (bA (aJ e hr (af (au 1) (af ai (af (bg aN rfl T.cm W' (af (eS g T.cD hr (eS v T.aS hr (au 0))) aa)) aa)))))) (pw_or1 (cb (bA (aJ e hr (af (au 2) (af ai (af (aW cR (eW u T.aS hr (au 0) (af (au 1) aa)) ai) aa))))))))) (ak cP) aI)),?_⟩;nofun;obtain⟨y,o,z,J⟩:=a.ins;obtain⟨⟨ms,wv,lv,p,B,e,g⟩,o⟩:=a.DN;ac_rfl;walk_at "r";refine⟨x,y,_,rfl,z,fI ⋯,F,x,ba,c,r,ad,rfl,a,?_⟩;have o:=p;obtain⟨e,_,_,_,g,_⟩:=o;refine⟨ba,e,_,rfl,g,by rfl,ba,ms,wv,lv,rfl,p,λl u=>?_⟩;have t:=aq.new (.lst (ms.map V.ref)) u;have I:upd H l (.lst (ms.map V.ref)) l=some (.lst (ms.map V.ref)):=ab;generalize L:upd H l (.lst (ms.map V.ref))=G at *;refine⟨_,.inl ⟨_,aP.of I,rfl⟩,.int m,_,0,_,rfl,.int _,?_⟩;rw[show inR 0 (((ms.map V.ref).length:Nat):Int) (.int m)=true by rw[List.length_map,B];simp[inR];exact⟨i,j⟩];refine zJ ?_;rw[if_neg ∅];nofun;obtain⟨k,rfl⟩:∃k:Nat,m=k:=⟨m.toNat,()⟩
 rw[Int.toNat_natCast]at n;have e:=a.same t;obtain⟨g,j,i,l⟩:=e.ins;ac_rfl;calc⟨x,g,_,rfl,i,fI ⋯,F,x,ba,c,r,ad,k,rfl,e,(),?_⟩;calc e9 (.int d) _ 1 _ rfl (.int _) ?_;rw[show inR 1 _ (.int d)=true by simp[inR];calc⟨b,()⟩];calc zJ ?_;rw[if_neg ∅];calc q G t
abbrev kU:Stmt:=top 16
inductive Cg(C CN CR:Addr)(vs:List V)(H:Hp)(Q:VK):Prop
 |mk (F:Addr->Prop) (x ba:Addr) (nt:NT) (r:RS) (ad:Nat->Nat->Addr) (L:Lg) (h0:vs=[.ref x]) (h1:bJ C CN CR F H x ba nt r ad) (h2:r.Ok nt) (h3:r.Lk nt L) (h4:L.length<=40) (q:∀a kvs H',aq H H'->H' a=some (.dT kvs)->fe H' kvs (cw nt.ms.length L)->Q (.ref a) H'):Cg C CN CR vs H Q
def yD(C CN CR:Addr):Sp:=λvs H Q _=>Cg C CN CR vs H Q
theorem yE(D:cZ K mg "all_heard" "all_heard" kU ["run"])(T:Tx K mg C CN CR F FD)(bo:ck P w K mg base CN "machines" 1 ["self"] (fG CN))(gL:ck P w K mg base CR "net" 1 ["self"] (v7 C CN CR))(ia:ck P w K mg base CR "schedule" 1 ["self"] (Hb C CN CR))(iZ:ck P w K mg base CR "sent_by" 5 ["self","way","number"] (yB C CN CR))(gC:ck P w K mg base CR "worked_by" 5 ["self","way","number"] (Ce C CN CR)):Def P w K mg base "all_heard" 6 ["run"] (yD C CN CR):=by
 have sc:aB ["run","noughts","heard","way","number","m","c","before","sender","counts"] ["run"] (ay kU):=by walk_at "s"
 symm;obtain⟨F,x,ba,a,r,ad,L,rfl,R,dQ,qC,oz,q⟩:=h;have hu:=hr.units;have o9:=Pd hu;refine⟨_,(ag (aR (i:=1) sc.nd rfl Sort (cQ bO rfl T.bX qJ (af (dy (N':=["machine"]) (ix:=[none]) (bS (eS bo T.cD hr (eS gL T.aS hr (au 0)))) (λ_ _ _ _=>(aQ (i:=0) (show(["machine"]:List Str).Nodup by decide +kernel) rfl Sort)) oI (λ_ _ _ _=>ai)) aa)))
  (ag (aR (i:=2) sc.nd rfl Sort (rj))
  (ag (df PassesOwn.never rfl (bS (eS ia T.aS hr (au 0))) (eZ (i:=3) (j:=4) rfl sc.nd rfl rfl Sort Sort)
  (ag (dU (eW gC T.aS hr (au 0) (af (au 3) (af (au 4) aa))) (eZ (i:=5) (j:=6) rfl sc.nd rfl rfl Sort Sort))
  (ag (aR (i:=7) sc.nd rfl Sort (cY SK IL Xs (xJ o9) (au 2) (af (bD (af (au 5) (af (aW eX (au 6) ai) aa))) (af (au 1) aa))))
  (ag (aR (i:=8) sc.nd rfl Sort (cY SK IL Xs (xJ o9) (au 2) (af (eW iZ T.aS hr (au 0) (af (au 3) (af (au 4) aa))) (af (au 1) aa))))
  (ag (gk (i:=9) sc.nd rfl Sort (N':=["one","other"]) (ix:=[none,none]) (zA rfl T.Bx (af (au 7) (af (au 8) aa))) (λ_ _ _ _=>(lH (K:=K) rfl (i:=0) (j:=1) rfl (show(["one","other"]:List Str).Nodup by decide +kernel) rfl rfl Sort Sort)) oI (λ_ _ _ _=>(bg (uz rfl) rfl T.Gm PyProof.Rows.boot_max (af (au 0) (af (au 1) aa)))))
  (ag (dU (au 6) (fO (au 9) (au 5) cL))
  (ak (gg o9 (au 2) (bD (af (au 5) (af (au 6) aa))) (cQ bO rfl T.bX qJ (af (au 9) aa)) rfl))))))))
  (ak (aE (au 2)))))),?_⟩
 nofun;obtain⟨dx,o,hx,T⟩:=R.ins;obtain⟨⟨ms,wv,lv,hf,mw,T,Jp⟩,aO⟩:=R.DN;ac_rfl;have T:=aO.Kv;refine L2.cG λT h1=>?_;walk_at "r";refine bL ?_;walk_at "r";refine⟨x,dx,_,rfl,hx,fI ⋯,F,x,ba,a,r,ad,rfl,R,?_⟩;have JB:=hf;obtain⟨T,_,_,_,hxn,_⟩:=JB;refine⟨ba,T,_,rfl,hxn,by rfl,ba,ms,wv,lv,rfl,hf,λl hl=>?_⟩;have N:=aq.new (.lst (ms.map V.ref)) hl;have el:upd H l (.lst (ms.map V.ref)) l=some (.lst (ms.map V.ref)):=ab;generalize hG:upd H l (.lst (ms.map V.ref))=G at *;refine .inl ⟨⟨_,aP.of el⟩,λD hD=>?_⟩;refine bq (J:=wQ K l) (n:=ms.length) (λi ys H'=>aq G H'/\ys=List.replicate i (.int 0)) (S' (aA ())) ⟨aq.new _ hD,rfl⟩ ?_ ?_ ?_ ?_
 ·rintro i ys H' S ⟨I,_⟩;exact⟨_,_,aP.of (I _ _ el),by rw[List.getElem?_map,cy S];rfl⟩
 ·rintro ys H' ⟨I,_⟩;exact⟨_,aP.of (I _ _ el),nofun⟩
 ·intro i ys H' S O hl ir xx H4 iu;nofun;obtain⟨I,rfl⟩:=ir;obtain⟨rfl,y⟩:=iu;ac_rfl;walk_at "xf";walk_at "r"
  try rw[if_pos trivial]
  calc cn O hl S (S' (aA ())) ⟨λc o e=>by rw[av (ao e hD)];calc I _ _ e,?_⟩;exact List.replicate_succ'.symm
 rintro ys H1 O Q2 ⟨I,rfl⟩;rw[mw]at O;calc .inl ⟨_,aP.of O,λnz T=>?_⟩;have t2:=aq.new (.tup (List.replicate a.ms.length (.int 0))) T;have enz:upd H1 nz (.tup (List.replicate a.ms.length (.int 0))) nz=some (.tup ((List.replicate a.ms.length 0).map V.int)):=by rw[List.map_replicate];exact ab
 have U:aq H (upd H1 nz (.tup (List.replicate a.ms.length (.int 0)))):=N.trans (I.trans t2);generalize Ja:upd H1 nz (.tup (List.replicate a.ms.length (.int 0)))=Y at *;refine L2.cH h1 ?_;clear h1 I t2 O Q2;walk_at "r";intro M W;have t3:=aq.new (.dT []) W;have ehd:upd Y M (.dT []) M=some (.dT []):=ab;have s3:aq H (upd Y M (.dT [])):=U.trans t3;have T:H M=none:=U.free W;have W6:=t3 _ _ enz;generalize PY:upd Y M (.dT [])=G3 at *;walk_at "r";refine⟨x,dx,_,rfl,s3 _ _ hx,fI ⋯,F,x,ba,a,r,ad,rfl,R.same s3,λls vs T hvs=>?_⟩;have Z:=aq.new (.lst vs) T;have LK:upd G3 ls (.lst vs) ls=some (.lst vs):=ab;have T:aq H (upd G3 ls (.lst vs)):=s3.trans Z;have W7:=Z _ _ ehd;have T:=Z _ _ W6;have nls:ls≠M:=eD LK W7 (λz=>nomatch z);have W8:=(LJ hvs).aG Z.aM;have t24:aq Y (upd G3 ls (.lst vs)):=t3.trans Z;have VD:=R.same U;generalize RJ:upd G3 ls (.lst vs)=G4 at *;clear t3 Z W6 ehd s3 hvs R;have GG:vs.length=r.picks.length:=by simpa using W8.1
 refine .inl ⟨⟨_,aP.of LK⟩,eU (K:=K) (xs:=vs) (λi σ H'=>(∃z3 z4 z5 z6 z7 z8 z9,σ=[some (V.ref x),some (V.ref nz),some (V.ref M),z3,z4,z5,z6,z7,z8,z9])/\aq Y H'/\H' ls=some (.lst vs)/\gw H' 1 vs (r.picks.map pairD)/\∃kvs,H' M=some (.dT kvs)/\fe H' kvs (cw a.ms.length (L.take i))) ?_ ?_ ?_ ?_⟩
 ·exact⟨⟨_,_,_,_,_,_,_,rfl⟩,t24,LK,W8,[],W7,Paired.nil⟩
 ·rintro i σ H' S ⟨_,_,X,_⟩;exact aP.of X
 ·intro i z σ H' hz nX;nofun;obtain⟨⟨z3,z4,z5,z6,z7,z8,z9,rfl⟩,X,W9,Q3,kvs,HV,qo⟩:=nX;have qz:i < r.picks.length:=by rw[<-GG];exact(List.getElem?_eq_some_iff.mp hz).1
  obtain⟨wy,k,e,s,ep,eL,ew,es,hw⟩:=qC.at i _ (cy qz);have Xa:=Q3.2 i z (pairD r.picks[i]) hz (by rw[List.getElem?_map,cy qz];rfl);rw[ep]at Xa;obtain⟨ta,rfl,R⟩:=sV Xa;ac_rfl;calc wD (bz.of R) ?_;have tf:=VD.same X;obtain⟨wC,R,zz,T⟩:=tf.ins;have B0:k<(r.ww wy).say.length:=by rw[dQ.lk wy hw];exact(List.getElem?_eq_some_iff.mp ew).1
  walk_at "r";refine⟨x,wC,_,rfl,zz,fI ⋯,_,x,ba,a,r,ad,wy,k,rfl,tf,dQ,hw,B0,λv hv=>?_⟩;nofun;rw[getD_at ew]at hv;obtain⟨te,rfl,R⟩:=sV hv;obtain⟨m,g⟩:=e;ac_rfl;refine wD (bz.of R) ?_;refine L2.cG λT h2=>?_;walk_at "r";refine gI (HS HV) mL (λI R=>?_);have u1:=aq.new (.tup [.int m,.int (g-1)]) R;have et1:upd H' I (.tup [.int m,.int (g-1)]) I=some (.tup ((kE (m,g-1)).map kV)):=ab;have Xb:=u1 _ _ (X _ _ enz);have HW:=qo.same u1;have LL:=u1 _ _ HV;generalize hJ1:upd H' I (.tup [.int m,.int (g-1)])=J1 at *;obtain⟨b1,R,YC⟩:=Cf HW Xb (m,g-1);refine Pf M _ _ _ rfl rfl (.inl (.t LL et1)) ?_;rw[R];refine L2.cH h2 ?_;clear h2;refine L2.cG λI h3=>?_;walk_at "r";have I:=tf.same u1;have So:L.take (i+1)=L.take i++[((m,g),s)]:=by rw[List.take_add_one,eL];rfl
  have R:=qC.good.take (i+1);rw[So]at R;obtain⟨Jx,T,Z,_,Q4,DK⟩:=R.inv;have wG:=Jx.all.1;have hD:∀p∈(cw a.ms.length (L.take i)).map (·.1),p∈jF:=λp R=>by
   rw[wG]at R;exact Jx.XX aO.Kv (aab (by rw[List.length_take];lia) oz) R
  refine⟨HS LL,x,wC,_,rfl,u1 _ _ zz,fI ⋯,_,x,ba,a,r,ad,wy,k,rfl,I,dQ,hw,B0,λv hv=>?_⟩;nofun;ac_rfl;rw[getD_at es]at hv;refine Ed HW hD Xb LL hv λb2 Q5=>?_;refine L2.cH h3 ?_;clear h3 hv;refine L2.cG λx h4=>?_;walk_at "r";refine bL ?_;walk_at "r";refine e9 false false _ _ (Sq.t YC) (Sq.t Q5) (λD3 yb=>?_);have x:(eQ a.ms.length (cw a.ms.length (L.take i)) (some (m,g-1))).length=a.ms.length:=yC Jx _;have x:(eQ a.ms.length (cw a.ms.length (L.take i)) s).length=a.ms.length:=yC Jx _;have ehr:rX a.ms.length (cw a.ms.length (L.take i)) ((m,g),s)=(List.zipWith max (eQ a.ms.length (cw a.ms.length (L.take i)) (some (m,g-1))) (eQ a.ms.length (cw a.ms.length (L.take i)) s)).set m.toNat g:=rfl;generalize eQ a.ms.length (cw a.ms.length (L.take i)) (some (m,g-1))=u at *;generalize eQ a.ms.length (cw a.ms.length (L.take i)) s=B at *;refine bq (J:=TZ false false K b1 b2) (n:=a.ms.length) (λi ys H'=>aq J1 H'/\ys=((List.zipWith max u B).take i).map V.int) (S' (aA ())) ⟨aq.new _ yb,rfl⟩ ?_ ?_ ?_ ?_
  ·rintro i ys H' S ⟨N,_⟩;exact⟨_,_,_,_,Sq.t (N _ _ YC),Sq.t (N _ _ Q5),by rw[List.getElem?_map,aY (d:=0) ()];rfl,by rw[List.getElem?_map,aY (d:=0) ()];rfl⟩
  ·rintro ys H' ⟨N,_⟩;exact⟨_,_,Sq.t (N _ _ YC),Sq.t (N _ _ Q5),.inl (by simp;lia)⟩
  ·intro i ys H' S O hl tM xx H4' xT;nofun;obtain⟨N,rfl⟩:=tM;obtain⟨t',Wn,rfl,y⟩:=xT;obtain⟨x1,x2,WB,WC,rfl⟩:=y _ _ (Sq.t (N _ _ YC)) (Sq.t (N _ _ Q5));rw[List.getElem?_map,aY (d:=0) ()] at WB WC;obtain rfl:=Option.some.inj WB;obtain rfl:=Option.some.inj WC;ac_rfl;have U:=aq.new (.tup [.int (u.getD i 0),.int (B.getD i 0)]) Wn;have qj:upd H' t' (.tup [.int (u.getD i 0),.int (B.getD i 0)]) t'=some (.tup [.int (u.getD i 0),.int (B.getD i 0)]):=ab;calc wD (bz.of qj) ⟨Ext.set (Ext.set (Ext.refl _) rfl) rfl,?_⟩;walk_at "r"
   try rw[if_pos trivial]
   calc cn (U _ _ O) hl S (S' (aA ())) ⟨λc o e=>by rw[av (ao e yb)];calc U _ _ (N _ _ e),?_⟩;rw[List.take_succ,List.getElem?_zipWith,aY (l:=u) (d:=0) (),aY (l:=B) (d:=0) (),List.map_append];show _++[V.int (if B.getD i 0 > u.getD i 0 then B.getD i 0 else u.getD i 0)]=_++[V.int (max (u.getD i 0) (B.getD i 0))]
   congr 3;split<;>lia
  rintro ys H9 O Q2 ⟨s9,rfl⟩;rw[List.take_of_length_le (by simp;lia)]at O;calc L2.cH h4 ?_;clear h4 Q2;walk_at "r";have l:=s9 _ _ LL;have l:m.toNat<a.ms.length:=by lia
  calc⟨_,m.toNat,O,by rw[show m=((m.toNat:Nat):Int) by lia];calc gT (by simp;lia),.inl ⟨_,aP.of ab,λtv htv=>⟨mL,λtk Rq=>?_⟩⟩⟩;have w2:aq J1 (upd H9 D3 (.lst (((List.zipWith max u B).map V.int).set m.toNat (.int g)))):=λb o e=>by rw[av (ao e yb)];exact s9 _ _ e
  generalize hJ2:upd H9 D3 (.lst (((List.zipWith max u B).map V.int).set m.toNat (.int g)))=J2 at *;have w3:=aq.new (.tup (((List.zipWith max u B).map V.int).set m.toNat (.int g))) htv;have etv:upd J2 tv (.tup (((List.zipWith max u B).map V.int).set m.toNat (.int g))) tv=some (.tup ((rX a.ms.length (cw a.ms.length (L.take i)) ((m,g),s)).map V.int)):=by rw[ab,ehr,List.map_set]
  generalize hJ3:upd J2 tv (.tup (((List.zipWith max u B).map V.int).set m.toNat (.int g)))=J3 at *;have w4:=aq.new (.tup [.int m,.int g]) Rq;have Sr:upd J3 tk (.tup [.int m,.int g]) tk=some (.tup ((kE (m,g)).map kV)):=ab;have Xd:=w4 _ _ etv;have Ss:aq H' (upd J3 tk (.tup [.int m,.int g])):=u1.trans (w2.trans (w3.trans w4));generalize hJ4:upd J3 tk (.tup [.int m,.int g])=J4 at *;have a:=Ss _ _ HV;have i:∀b o,Y b=some o->b≠M:=λb o e=>ao e W;have l:kvs.length<sizeLine:=by
   have u:=Paired.length qo;have u:=congrArg List.length wG;rw[List.length_map,List.length_map,List.length_take]at u;rw[sizeLine_eq];lia
  refine⟨M,_,rfl,lL.t (k:=kE (m,g)) (v:=.ref tv) a Sr l,⟨_,_,_,_,_,_,_,rfl,rfl,rfl,rfl,rfl,rfl,rfl⟩,λb o e=>?_,?_,?_,_,ab,?_⟩
  ·rw[av (i b o e)];exact Ss _ _ (X _ _ e)
  ·rw[av nls];exact Ss _ _ W9
  ·exact Q3.aG λb ys e=>by rw[av (eD (Ss _ _ e) a (λz=>nomatch z))];exact Ss _ _ e
  ·rw[So,rY];calc fe.put ?_ (by rw[wG];calc Q4) (by rw[av (eD Xd a (λz=>nomatch z))];calc Xd);exact Paired.Cr (qo.same Ss) λq y z=>⟨z.1,let ⟨b,e,f⟩:=z.2;⟨b,e,by rw[av (eD f a (λz=>nomatch z))];calc f⟩⟩
 ·intro σ H' xU;obtain⟨⟨z3,z4,z5,z6,z7,z8,z9,rfl⟩,X,W9,Q3,kvs,HV,qo⟩:=xU;walk_at "r";rw[GG,<-qC.len,List.take_length]at qo;exact q M kvs H' (U.trans X) HV qo
abbrev mM:Stmt:=top 17
inductive HX(C CN CR:Addr)(vs:List V)(H:Hp)(Q:VK):Prop
 |mk (F:Addr->Prop) (x ba:Addr) (nt:NT) (r:RS) (ad:Nat->Nat->Addr) (L:Lg) (m c:Int) (h0:vs=[.ref x,.int m,.int c]) (h1:bJ C CN CR F H x ba nt r ad) (h2:r.Ok nt) (h3:r.Lk nt L) (h4:L.length<=40) (h5:(m,c)∈L.map (·.1)) (q:∀b R H',aq H H'->eA (cw nt.ms.length L) (m,c)=some R->H' b=some (.tup (R.map V.int))->Q (.ref b) H'):HX C CN CR vs H Q
def Ci(C CN CR:Addr):Sp:=λvs H Q _=>HX C CN CR vs H Q
theorem Ao(D:cZ K mg "heard_of" "heard_of" mM ["run","m","c"])(T:Tx K mg C CN CR F FD)(o:Def P w K mg base "all_heard" 6 ["run"] (yD C CN CR))(u:Def P w K mg base "need_event" 5 ["run","m","c"] (HU C CN CR)):Def P w K mg base "heard_of" 7 ["run","m","c"] (Ci C CN CR):=by
 have sc:aB ["run","m","c"] ["run","m","c"] (ay mM):=by walk_at "s"
 symm;obtain⟨F,x,ba,e,r,ad,L,m,c,rfl,g,k,d,l,i,q⟩:=h;have v:=hr.units;have y:=Pd v;refine⟨_,(ag (bP (aJ u hr (af (au 0) (af (au 1) (af (au 2) aa)))))
  (ak (aE (qL y (aJ o hr (af (au 0) aa)) (bD (af (au 1) (af (au 2) aa))) (kq rfl))))),?_⟩
 obtain⟨B,I,J,o⟩:=(d.good.mem m c).mp i;have M:=d.cnt m.toNat ()
 rw[show((m.toNat:Nat):Int)=m by lia]at M;walk_at "r";refine⟨F,x,ba,e,r,ad,m,c,rfl,g,B,I,J,(),λH1 n=>?_⟩;walk_at "r";refine⟨F,x,ba,e,r,ad,L,rfl,g.same n,k,d,l,λa kvs H2 N O S=>?_⟩;refine⟨mL,λp e=>?_⟩;have j:=aq.new (.tup [.int m,.int c]) e;have U:upd H2 p (.tup [.int m,.int c]) p=some (.tup ((kE (m,c)).map kV)):=ab;generalize hG:upd H2 p (.tup [.int m,.int c])=G at *;rcases(S.same j).val (m,c) with⟨z,_⟩|⟨R,b,W,X,Y⟩
 ·obtain⟨R,S,Z,_⟩:=d.good.all.2.2 _ i;rw[Z]at z;cases z
 ·calc⟨a,.ref b,rfl,by rw[<-X];calc .t (j _ _ O) U,q b R G (n.trans (N.trans j)) W Y⟩
theorem bW.wk{F:Addr->Prop}{d:Addr}{l:V}{nt:NT}(h:bW F H d l nt r ad){w:Nat}(c:w<nt.ws.length)(k:Nat):∃kvs g,H (ad 6 w)=some (.dK kvs)/\fK H (ad 6 w) (.int (k:Nat)) g/\HT H 1 (g.getD .bC) (ni ((r.ww w).eC.getD k none))/\∀e,(r.ww w).eC.getD k none=some e->∃a,g=some (.ref a)/\H a=some (.tup [.int e.1,.int e.2]):=by
 obtain⟨f,g,l⟩:=h.bN.ZD (t:=6) (i:=w) c rfl;have b:=l.2 (k:Int);have h:jC (r.ww w).eC (k:Int)=((r.ww w).eC.getD k none).map pairD:=by unfold jC;rw[if_pos (),Int.toNat_natCast]
 rw[h]at b;refine⟨f,dW f (.inl (k:Int)),g,fK.k (k:=.inl (k:Int)) g,?_⟩
 cases c:(r.ww w).eC.getD k none with
 |none=>
  rw[c]at b;have b:dW f (.inl (k:Int))=none:=b;rw[b];calc⟨.bC,λe z=>by cases z⟩
 |some e=>
  rw[c]at b;obtain⟨v,m,n⟩:=(show ∃v,dW f (.inl (k:Int))=some v/\HD _ 4 v (pairD e) from b)
  rw[m];obtain⟨a,rfl,j⟩:=qS (e:=e) (n.cv dJ);calc⟨dg j (.int _) (.int _),λb z=>by cases z;calc⟨a,rfl,j⟩⟩
theorem yF{b:List (List Key×V)}{S:List Ev}(h:b.map (·.1)=S.map kE)(p:Ev)(v:V):(putK b (kE p) v).map (·.1)=(jH S p).map kE:=by
 have e:((b.any λc=>decide (c.1=kE p))=true)↔p∈S:=by
  rw[List.any_eq_true];constructor
  ·rintro⟨x,c,e⟩;have:x.1∈b.map (·.1):=List.mem_map.mpr ⟨x,c,rfl⟩;rw[h,of_decide_eq_true e]at this;obtain⟨y,d,e⟩:=List.mem_map.mp this;rw[<-vO e];exact d
  ·intro a;have:kE p ∈ b.map (·.1):=by rw[h];exact List.mem_map.mpr ⟨p,a,rfl⟩
   obtain⟨x,c,e⟩:=List.mem_map.mp this;exact⟨x,c,decide_eq_true e⟩
 unfold putK jH;by_cases a:p∈S
 ·rw[if_pos a,if_pos (e.mpr a),<-h,List.map_map];exact List.map_congr_left λx _=>by
   show(if x.1=kE p then(x.1,v) else x).1=x.1;split<;>rfl
 ·rw[if_neg a,if_neg (λz=>a (e.mp z)),List.map_append,List.map_append,h];rfl
theorem sW:∀{a c:List (List Key×V)}{S T:List Ev},c.map (·.1)=S.map kE->a.map (·.1)=T.map kE->(ku c a).map (·.1)=(T.foldl jH S).map kE
 | [],c,S,T,d,b=>by
  have:T=[]:=List.map_eq_nil_iff.mp b.symm;subst this;calc d
 |q::a,c,S,T,d,b=>by
  cases T with
  |nil=>cases b
  |cons p T=>
   rw[List.map_cons,List.map_cons]at b;injection b with b h3
   show(ku (putK c q.1 q.2) a).map (·.1)=(T.foldl jH (jH S p)).map kE;calc sW (by rw[b];calc yF d p q.2) h3
structure Cj(S:List Ev):Prop where
 nd:S.Nodup
 «in»:∀p∈S,p∈jF
theorem HY{α:Type} [BEq α] [LawfulBEq α]:∀{l m:List α},l.Nodup->(∀x∈l,x∈m)->l.length<=m.length
 | [],m,_,_=>Y' _
 |a::l,m,h,g=>by
  rw[List.nodup_cons]at h;have b:=g a aag;have:=HY (l:=l) (m:=m.erase a) h.2 λx c=>(List.mem_erase_of_ne (show x≠a from λz=>h.1 (by rw[<-z];calc c))).mpr (g x (aac _ c));have d:=List.length_pos_of_mem b;rw[List.length_erase_of_mem b]at this;rw[List.length_cons];lia
theorem Cj.len{S:List Ev}(h:Cj S):S.length<=205:=HY h.nd h.in
theorem Cj.sz{S T:List Ev}(h:Cj S)(g:Cj T){d c:List (List Key×V)}(e:d.map (·.1)=S.map kE)(f:c.map (·.1)=T.map kE):d.length+c.length<=sizeLine:=by
 have a:=congrArg List.length e;have b:=congrArg List.length f;rw[List.length_map,List.length_map]at a b;have:=h.len;have:=g.len;rw[sizeLine_eq];lia
theorem Cj.add{S:List Ev}(h:Cj S){p:Ev}(a:p∈jF):Cj (jH S p):=⟨vP h.nd,λq b=>(nW.mp b).elim (h.in q) λz=>by rw[z];calc a⟩
theorem Cj.all{S T:List Ev}(h:Cj S)(g:Cj T):Cj (T.foldl jH S):=⟨o7 h.nd,λq a=>(mh.mp a).elim (h.in q) (g.in q)⟩
theorem Pr.XX{n:Nat}{L:Lg}{e:Ev}{R:List Int}{S:List Ev}(h:Pr n L e R S)(c:n<=5)(d:L.length<=40):Cj S:=⟨h.nd,λp c=>by
 have a:=(h.mem p.1 p.2).mp (.inl c);have b:=h.pos p.1.toNat ()
 have c:gv L ((p.1.toNat:Nat):Int)<=L.length:=List.length_filter_le _ _;calc Bt () () () ()⟩
def jw(H:Hp)(a:Addr)(kvs:List (List Key×V))(A:List (Ev×List Ev)):Prop:=Paired (λ(q:List Key×V) (x:Ev×List Ev)=>q.1=kE x.1/\∃b c,q.2=.ref b/\b≠a/\H b=some (.dT c)/\c.map (·.1)=x.2.map kE) kvs A
theorem jw.keep{A:List (Ev×List Ev)}(h:jw H a kvs A)(s:∀b c,b≠a->H b=some (.dT c)->H' b=some (.dT c)):jw H' a kvs A:=Paired.Cr h λ_ _ z=>⟨z.1,let ⟨b,c,e,n,f,g⟩:=z.2;⟨b,c,e,n,s b c n f,g⟩⟩
theorem jw.same{A:List (Ev×List Ev)}(h:jw H a kvs A)(s:aq H H'):jw H' a kvs A:=h.keep λ_ _ _ e=>s _ _ e
theorem jw.keys{H:Hp}{a:Addr}{kvs:List (List Key×V)}{A:List (Ev×List Ev)}(h:jw H a kvs A):kvs.map (·.1)=(A.map (·.1)).map kE:=by
 induction h with
 |nil=>rfl
 |cons h _ b=>rw[List.map_cons,List.map_cons,List.map_cons,b,h.1]
theorem jw.val{H:Hp}{a:Addr}{kvs:List (List Key×V)}{A:List (Ev×List Ev)}(h:jw H a kvs A){p:Ev}{S:List Ev}(e:eA A p=some S):∃b c,dW kvs (kE p)=some (.ref b)/\b≠a/\H b=some (.dT c)/\c.map (·.1)=S.map kE:=by
 induction h with
 |nil=>cases e
 | @cons q x n d h _ i=>
  obtain⟨g,b,c,j,k,l,m⟩:=h;by_cases z:x.1=p
  ·have:eA (x::d) p=some x.2:=by simp[eA,List.find?_cons,z]
   rw[this]at e;obtain rfl:=Option.some.inj e;exact⟨b,c,by rw[dq (g.trans (by rw[z])),j],k,l,m⟩
  ·have c:eA (x::d) p=eA d p:=by simp[eA,List.find?_cons,z]
   rw[c]at e;rw[dw (λy=>z (vO (g.symm.trans y)))];calc i e
theorem jw.put{A:List (Ev×List Ev)}(h:jw H a kvs A){p:Ev}(d:p∉A.map (·.1)){S:List Ev}{b:Addr}{c:List (List Key×V)}(n:b≠a)(e:H b=some (.dT c))(g:c.map (·.1)=S.map kE):jw H a (putK kvs (kE p) (.ref b)) (A++[(p,S)]):=by
 have:¬(kvs.any λf=>decide (f.1=kE p))=true:=by
  rw[List.any_eq_true];rintro⟨x,f,e⟩;have:x.1∈kvs.map (·.1):=List.mem_map.mpr ⟨x,f,rfl⟩;rw[h.keys,of_decide_eq_true e]at this;obtain⟨y,i,e⟩:=List.mem_map.mp this;exact d (by rw[<-vO e];calc i)
 unfold putK;rw[if_neg this];calc Paired.snoc h ⟨rfl,b,c,rfl,n,e,g⟩
def Ap(H:Hp)(yN:List (Key×V))(L:Lg):Prop:=∀m:Int,(gv L m=0/\dW yN (.inl m)=none)\/∃b,dW yN (.inl m)=some (.ref b)/\gv L m≠0/\H b=some (.tup [.int m,.int (gv L m:Nat)])
theorem Ap.get{L:Lg}(h:Ap H yN L){e:Ev}(a:e.2=gv L e.1+1):HT H 1 ((dW yN (.inl e.1)).getD .bC) (ni (dA e)):=by
 rcases h e.1 with⟨a,c⟩|⟨b,a,c,d⟩
 ·rw[c,show dA e=none by unfold dA;rw[if_pos ()]];exact .bC
 ·rw[a,show dA e=some (e.1,((gv L e.1:Nat):Int)) by unfold dA;rw[if_neg (),show e.2-1=((gv L e.1:Nat):Int) by lia]];calc dg d (.int _) (.int _)
theorem Ap.put{L:Lg}(h:Ap H yN L)(t:cj H H'){e:Ev}{s:Option Ev}(c:e.2=gv L e.1+1){b:Addr}(a:H' b=some (.tup [.int e.1,.int e.2])):Ap H' (putK yN (.inl e.1) (.ref b)) (L++[(e,s)]):=λm=>by
 rw[jq];by_cases q:e.1=m
 ·subst q;rw[if_pos rfl];exact .inr ⟨b,by rw[q9,if_pos rfl],(),by rw[show((gv L e.1+1:Nat):Int)=e.2 by lia];calc a⟩
 ·rw[if_neg q,Nat.add_zero,q9,if_neg (λz=>q (Sum.inl.inj z).symm)];calc(h m).imp id λ⟨b,a,c,d⟩=>⟨b,a,c,t _ _ d⟩
abbrev kX:Stmt:=top 67
inductive HZ(vs:List V)(H:Hp)(Q:VK):Prop
 |mk (F:Addr->Prop) (d:Addr) (tn:V) (nt:NT) (r:RS) (ad:Nat->Nat->Addr) (L:Lg) (h0:vs=[.ref d]) (h1:bW F H d tn nt r ad) (h2:r.Ok nt) (h3:r.Lk nt L) (h4:L.length<=40) (q:∀a kvs H',aq H H'->H a=none->H' a=some (.dT kvs)->jw H' a kvs (cp L)->Q (.ref a) H'):HZ vs H Q
def wj:Sp:=λvs H Q _=>HZ vs H Q
theorem yG(D:cZ K mg "_law_ahead" "_law_ahead" kX ["_law_run"])(T:Tx K mg C CN CR F FD):Def P w K mg base "_law_ahead" 1 ["_law_run"] wj:=by
 have sc:aB ["_law_run","_law_found","_law_last","_law_way","_law_number","_law_event","_law_mine","_law_one"] ["_law_run"] (ay kX):=by walk_at "s"
 symm;obtain⟨F,d,tn,nt,r,ad,L,rfl,hT,dQ,qC,oz,q⟩:=h;have M:=hr.units;have Z:=Pd M;refine⟨_,(ag (aR (i:=1) sc.nd rfl Sort (rj))
  (ag (aR (i:=2) sc.nd rfl Sort (xb))
  (ag (df PassesOwn.never rfl (bS (aj M (au 0) aC)) (eZ (i:=3) (j:=4) rfl sc.nd rfl rfl Sort Sort)
  (ag (aR (i:=5) sc.nd rfl Sort (qL Z (aj M (aj M (au 0) aC) (au 3)) (au 4) (kq rfl)))
  (ag (aR (i:=6) sc.nd rfl Sort (rj))
  (ag (df PassesOwn.never rfl (bS (bu (af (Ff Z (au 2) (aj M (au 5) ai) ⟨rfl,rfl,rfl,rfl⟩) (af (aj M (aj M (aj M (au 0) aC) (au 3)) (au 4)) aa)))) (aQ (i:=7) sc.nd rfl Sort)
  (ak (aT (az oV (au 7) kg (aH _)) (ag (bP (cY SK PySem.F.slot_dict_update PySem.F.type_dict_update (KI Z) (au 6) (af (qL Z (au 1) (au 7) (kq rfl)) aa)))
  (ak (gg Z (au 6) (au 7) je rfl))) aI)))
  (ag (gg Z (au 1) (au 5) (au 6) rfl)
  (ak (gg Z (au 2) (aj M (au 5) ai) (au 5) rfl)))))))
  (ak (aE (au 1)))))),?_⟩
 nofun;obtain⟨o',hd,nF,nP,oF⟩:=hT.dk;have l6:=(oF 6 ∅ ∅).1;have l5:=(oF 5 ∅ ∅).1;obtain⟨v0,e0,d0⟩:=hT.bN.lst (t:=0) (i:=0) (by show 0<1;decide) rfl;ac_rfl;have z0:v0.length=r.picks.length:=by simpa using d0.1
 have aO:=hT.ok;walk_at "r";intro g Su u Wq;have s1:aq H (upd (upd H g (.dT [])) u (.dK [])):=(aq.new _ Su).trans (aq.new _ Wq);have nfl:g≠u:=ao ab Wq;have efa:upd (upd H g (.dT [])) u (.dK []) g=some (.dT []):=by rw[av nfl];exact ab
 have ela:upd (upd H g (.dT [])) u (.dK []) u=some (.dK []):=ab;have acx:H u=none:=(aq.new (.dT []) Su).free Wq;generalize hG:upd (upd H g (.dT [])) u (.dK [])=G at *;walk_at "r";refine⟨_,QH (s1 _ _ hd),.inl ⟨⟨_,aP.of (s1 _ _ e0)⟩,eU (K:=K) (xs:=v0) (λi σ H'=>(∃z3 z4 z5 z6 z7,σ=[some (V.ref d),some (V.ref g),some (V.ref u),z3,z4,z5,z6,z7])/\aq H H'/\∃kvs yN,H' g=some (.dT kvs)/\jw H' g kvs (cp (L.take i))/\H' u=some (.dK yN)/\Ap H' yN (L.take i)/\yN.length<=i) ?_ ?_ ?_ ?_⟩⟩
 ·exact⟨⟨_,_,_,_,_,rfl⟩,s1,[],[],efa,Paired.nil,ela,λm=>.inl ⟨rfl,rfl⟩,P' _⟩
 ·rintro i σ H' hi ⟨_,I,_⟩;exact aP.of (I _ _ e0)
 ·intro i z σ H' hz ir;nofun;obtain⟨⟨z3,z4,z5,z6,z7,rfl⟩,I,kvs,yN,HV,hA,YD,hL,uN⟩:=ir;have qz:i < r.picks.length:=by rw[<-z0];exact(List.getElem?_eq_some_iff.mp hz).1
  obtain⟨wy,k,e,s,ep,eL,ew,es,hw⟩:=qC.at i _ (cy qz);have Xa:=d0.2 i z (pairD r.picks[i]) hz (by rw[List.getElem?_map,cy qz];rfl);rw[ep]at Xa;obtain⟨ta,rfl,tW⟩:=sV (uU (e:=some ((wy:Int),(k:Int))) (Xa.cv dJ));ac_rfl;refine wD (bz.of (I _ _ tW)) ?_;refine L2.cG λN2 h2=>?_;walk_at "r";refine bI _ (QF (I _ _ hd)) ?_;walk_at "r";refine bt (I _ _ l6) (aZ hw) ?_;nofun;obtain⟨M3,ov,g1,g2,g3,g4⟩:=(hT.same I).wk hw k;obtain⟨te,rfl,Js⟩:=g4 e (getD_at ew);ac_rfl;refine cM _ _ rfl g2 ?_;refine L2.cH h2 ?_;clear h2 g1 g2 g3 g4;obtain⟨m,c⟩:=e;walk_at "r";intro l DR;have N:=aq.new (.dT []) DR;have emi:upd H' l (.dT []) l=some (.dT []):=ab;have YE:l≠g:=Ne.symm (ao HV DR);have nml:l≠u:=Ne.symm (ao YD DR);have acy:H l=none:=I.free DR;have Xe:=N _ _ HV;have Q6:=N _ _ YD;have hA2:=hA.same N;have Qr:Ap (upd H' l (.dT [])) yN (L.take i):=λm=>(hL m).imp id λ⟨b,x1,x2,x3⟩=>⟨b,x1,x2,N _ _ x3⟩
  have LM:=N _ _ Js;have sj:aq H (upd H' l (.dT [])):=I.trans N;nofun;generalize hJ:upd H' l (.dT [])=J at *;clear HV YD hL Js I;have So:L.take (i+1)=L.take i++[((m,c),s)]:=by rw[List.take_add_one,eL];rfl
  have Xc:=qC.good.take (i+1);rw[So]at Xc;obtain⟨Jx,zM,xZ,Rn,Q4,DK⟩:=Xc.inv;ac_rfl;have Xf:(L.take i).length<=40:=aab (by rw[List.length_take];lia) oz;calc⟨u,rfl,.inl ⟨_,.inl Q6⟩,cX LM (ax (j:=0) rfl) ⟨_,fK.k (k:=.inl m) Q6,?_⟩⟩;nofun;obtain⟨v5,e5,d5⟩:=(hT.same sj).bN.lst (t:=5) (i:=wy) hw rfl;obtain⟨u5,eu5,du5⟩:=d5.get (i:=k) (d:=ni s) (by rw[List.getElem?_map,es];rfl);ac_rfl;calc⟨_,Hm (sj _ _ hd),bt (sj _ _ l5) (aZ hw) (bt e5 (ax eu5) ⟨mL,λlt iz=>?_⟩)⟩;have X4:=Qr.get (e:=(m,c)) Rn;have X2:=uU (du5.cv dJ);generalize (dW yN (.inl (m,c).1)).getD .bC=v1 at *;have B:=aq.new (.lst [v1,u5]) iz;have elt:upd J lt (.lst [v1,u5]) lt=some (.lst [v1,u5]):=ab;have ZR:∀q,dA (m,c)=some q->q∈(L.take i).map (·.1):=λq e=>by
   unfold dA at e;split at e
   ·cases e
   ·rename_i YB
    cases e;have Rt:¬c<=1:=YB;have hc3:c=gv (L.take i) m+1:=Rn;exact(Jx.mem m (c-1)).mpr ⟨zM,xZ,(),()⟩
  have ho:∀(j:Nat) x o,[v1,u5][j]?=some x->[dA (m,c),s][j]?=some o->HT (upd J lt (.lst [v1,u5])) 1 x (ni o)/\∀p,o=some p->p∈(L.take i).map (·.1):=λj x o O U=>by
   match j,O,U with
   |0,O,U=>cases O;cases U;calc⟨X4.aG B.aM,ZR⟩
   |1,O,U=>cases O;cases U;calc⟨X2.aG B.aM,DK⟩
   |j+2,O,U=>simp at O
  have Ia:=B _ _ emi;have nmt:lt≠l:=eD elt Ia (λz=>nomatch z);generalize hJ2:upd J lt (.lst [v1,u5])=J2 at *;refine .inl ⟨⟨_,aP.of elt⟩,eU (K:=K) (xs:=[v1,u5]) (λj σ H'=>(∃z7,σ=[some (V.ref d),some (V.ref g),some (V.ref u),some (V.int wy),some (V.int k),some (V.ref te),some (V.ref l),z7])/\(∀b o,b≠l->J2 b=some o->H' b=some o)/\∃W,H' l=some (.dT W)/\W.map (·.1)=(([dA (m,c),s].take j).foldl (gP (cp (L.take i))) []).map kE/\Cj (([dA (m,c),s].take j).foldl (gP (cp (L.take i))) [])) ?_ ?_ ?_ ?_⟩
  ·exact⟨⟨_,rfl⟩,λb o _ e=>e,[],Ia,rfl,⟨List.nodup_nil,λp hp=>by cases hp⟩⟩
  ·rintro j σ H2 hj ⟨_,y,_⟩;exact aP.of (y _ _ nmt elt)
  ·intro j x σ H2 hx iu;nofun;obtain⟨⟨z7,rfl⟩,y,W,Xg,Q7,hS⟩:=iu;have hj:j < 2:=(List.getElem?_eq_some_iff.mp hx).1;obtain⟨o,eo⟩:∃o,[dA (m,c),s][j]?=some o:=⟨[dA (m,c),s][j],cy hj⟩
   obtain⟨hxo,hop⟩:=ho j x o hx eo;ac_rfl;have Sr:[dA (m,c),s].take (j+1)=[dA (m,c),s].take j++[o]:=by rw[List.take_add_one,eo];rfl
   cases o with
   |none=>
    have:x=.bC:=by cases(show HT J2 1 x .bC from hxo);rfl
    subst this;walk_at "r"
    try rw[if_neg ∅]
    walk_at "r";rw[Sr,List.foldl_append];exact⟨⟨_,rfl⟩,y,W,Xg,Q7,hS⟩
   |some p=>
    nofun;obtain⟨xa,rfl,RN⟩:=sV (show HT J2 1 x (pairD p) from hxo);have X1:xa≠l:=eD RN Ia (λz=>nomatch z);have Xh:=y _ _ X1 RN;have ua:=y _ _ (Ne.symm YE) (B _ _ Xe);have Xi:=hop p rfl;obtain⟨R,S,_,r2,kn⟩:=Jx.all.2.2 p Xi;have YF:=Pr.XX kn aO.Kv Xf;have rZ:=Jx.XX aO.Kv Xf Xi;obtain⟨b,ks2,y1,y2,y3,y4⟩:=hA.val r2;ac_rfl;have nbm:b≠l:=ao y3 DR;have y3':H2 b=some (.dT ks2):=y _ _ nbm (B _ _ (N _ _ y3));walk_at "r"
    try rw[if_pos ∅]
    walk_at "r";have em:gP (cp (L.take i)) (([dA (m,c),s].take j).foldl (gP (cp (L.take i))) []) (some p)=jH (S.foldl jH (([dA (m,c),s].take j).foldl (gP (cp (L.take i))) [])) p:=by simp[gP,r2]
    rw[Sr,List.foldl_append];show Tr K "dict" _ _/\_;rw[List.foldl_cons,List.foldl_nil,em];generalize ([dA (m,c),s].take j).foldl (gP (cp (L.take i))) []=S0 at *;have km:=sW Q7 y4;have h1:=hS.all YF;have kl:(ku W ks2).length<sizeLine:=by
     have a:=congrArg List.length km;rw[List.length_map,List.length_map]at a;have:=h1.len;rw[sizeLine_eq];lia
    calc⟨HS Xg,g,.ref b,rfl,by rw[<-y1];calc .t (k:=kE p) ua Xh,l,b,W,ks2,rfl,rfl,Ne.symm nbm,Xg,.inl y3',hS.sz YF Q7 y4,λ_=>Dn y4 YF.nd YF.in,?_⟩;exact⟨l,_,rfl,lL.t (k:=kE p) (v:=.bl true) ab (by rw[av X1];calc Xh) kl,⟨_,rfl⟩,λb' o' n e=>by rw[av n,av n];calc y _ _ n e,_,ab,yF km p _,h1.add rZ⟩
  ·intro σ H2 nX;obtain⟨⟨z7,rfl⟩,y,W,Xg,Q7,hS⟩:=nX;have Q7:W.map (·.1)=(oZ (cp (L.take i)) ((m,c),s)).map kE:=Q7;walk_at "r";have ua:=y _ _ (Ne.symm YE) (B _ _ Xe);have Q8:=y _ _ (Ne.symm nml) (B _ _ Q6);have Ib:=y _ _ (eD (B _ _ LM) Ia (λz=>nomatch z)) (B _ _ LM);have kl:kvs.length<sizeLine:=by
    have O:=Paired.length hA;have U:=congrArg List.length Jx.all.2.1;rw[List.length_map,List.length_map]at U;rw[sizeLine_eq];lia
   have ll:yN.length<sizeLine:=by have:=qC.len;rw[sizeLine_eq];lia
   have ntf:te≠g:=eD Ib ua (λz=>nomatch z);have tp:∀{b ys X Y},J b=some (.tup ys)->upd (upd H2 g X) u Y b=some (.tup ys):=λ{b ys X Y} e=>by
    have e4:=y _ _ (eD (B _ _ e) Ia (λz=>nomatch z)) (B _ _ e);rw[av (eD e4 Q8 (λz=>nomatch z)),av (eD e4 ua (λz=>nomatch z))];exact e4
   have dt:∀{b ys X Y},b≠g->H2 b=some (.dT ys)->upd (upd H2 g X) u Y b=some (.dT ys):=λ{b ys X Y} n e=>by
    rw[av (eD e Q8 (λz=>nomatch z)),av n];exact e
   refine⟨g,_,rfl,lL.t (k:=kE (m,c)) (v:=.ref l) ua Ib kl,_,_,.inr (bz.of (by rw[av ntf];calc Ib)),ax (j:=0) rfl,u,_,rfl,lL.k (k:=.inl m) (v:=.ref te) (by rw[av (Ne.symm nfl)];calc Q8) ll,⟨_,_,_,_,_,rfl,rfl,rfl,rfl,rfl⟩,λb o e=>?_,_,_,by rw[av nfl];calc ab,?_,ab,?_,aab (iA _ _ _) (Nat.succ_le_succ uN)⟩
   ·rw[av (ao e acx),av (ao e Su)];exact y _ _ (ao e acy) (B _ _ (sj _ _ e))
   ·rw[So,qi];exact jw.put (hA.keep λb ys n e=>dt n (y _ _ (ao e DR) (B _ _ (N _ _ e)))) (by rw[Jx.all.2.1];calc Q4) YE (dt YE Xg) Q7
   ·rw[So];exact Qr.put (λb ys e=>tp e) Rn (tp LM)
 ·intro σ H' tM;obtain⟨⟨z3,z4,z5,z6,z7,rfl⟩,I,kvs,yN,HV,hA,YD,hL,uN⟩:=tM;walk_at "r";rw[z0,<-qC.len,List.take_length]at hA;exact q g kvs H' I Su HV hA
abbrev pO:Stmt:=top 69
inductive Ic(vs:List V)(H:Hp)(Q:VK):Prop
 |mk (a e:Addr) (n:Nat) (m c:Int) (kvs:List (List Key×V)) (A:List (Ev×List Ev)) (S:List Ev) (h0:vs=[.ref a,.ref e,.int n]) (h1:Rd H a (.dT kvs)) (h2:jw H a kvs A) (h3:H e=some (.tup [.int m,.int c])) (h4:eA A (m,c)=some S) (h5:∀x∈S,0<=x.1/\x.1<n) (h6:0<=m) (h7:m<n) (h8:n<=5) (q:∀b H',aq H H'->H' b=some (.tup ((xM n (m,c) S).map V.int))->Q (.ref b) H'):Ic vs H Q
def Ck:Sp:=λvs H Q _=>Ic vs H Q
theorem Ee(D:cZ K mg "_law_due" "_law_due" pO ["_law_ahead_here","_law_event","_law_many"])(T:Tx K mg C CN CR F FD):Def P w K mg base "_law_due" 1 ["_law_ahead_here","_law_event","_law_many"] Ck:=by
 have sc:aB ["_law_ahead_here","_law_event","_law_many","_law_found","_law_m","_law_c"] ["_law_ahead_here","_law_event","_law_many"] (ay pO):=by walk_at "s"
 symm;obtain⟨a,e,n,m,L,kvs,A0,S,rfl,ha,hA,M,hS,r,zM,xZ,N,q⟩:=h;have N:=hr.units;have o9:=Pd N;refine⟨_,(ag (aR (i:=3) sc.nd rfl Sort (aW xB (bu (af ai aa)) (au 2)))
  (ag (dU ai (fO (au 3) (aj N (au 1) ai) cL))
  (ag (Bp (df PassesOwn.never rfl (Bo (qL o9 (au 0) (au 1) (kq rfl))) (eZ (i:=4) (j:=5) rfl sc.nd rfl rfl Sort Sort)
  (ak (dU (aW cR (aj N (au 3) (au 4)) ai) (fO (au 3) (au 4) cL)))))
  (ak (aE (cQ bO rfl T.bX qJ (af (au 3) aa))))))),?_⟩
 obtain⟨g,p,y1,N,y3,y4⟩:=hA.val hS;walk_at "r";refine⟨by rw[sizeLine_eq];lia,λO N=>?_⟩;have R:=aq.new (.lst [.int 0]) N;have Yd:upd H O (.lst [.int 0]) O=some (.lst [.int 0]):=ab;generalize hG0:upd H O (.lst [.int 0])=U at *;refine Kz (.int 0) Yd () () (λc IV=>?_);rw[Int.toNat_natCast];have s1:=aq.new (.lst (List.replicate n (.int 0))) IV;have B:upd U c (.lst (List.replicate n (.int 0))) c=some (.lst (List.replicate n (.int 0))):=ab;have t:aq H (upd U c (.lst (List.replicate n (.int 0)))):=R.trans s1;have Xj:H c=none:=R.free IV;generalize X6:upd U c (.lst (List.replicate n (.int 0)))=W at *;refine⟨_,_,.inr (bz.of (t _ _ M)),ax (j:=0) rfl,_,m.toNat,B,by rw[show m=((m.toNat:Nat):Int) by lia];exact gT (by simp;lia),?_⟩;have N:(List.replicate n (V.int 0)).set m.toNat (.int 1)=((List.replicate n (0:Int)).set m.toNat 1).map V.int:=by rw[List.map_set,List.map_replicate]
 rw[N];have I:aq H (upd W c (.lst (((List.replicate n (0:Int)).set m.toNat 1).map V.int))):=λb o e=>by rw[av (ao e Xj)];exact t _ _ e
 have Xk:upd W c (.lst (((List.replicate n (0:Int)).set m.toNat 1).map V.int)) c=some (.lst (((List.replicate n (0:Int)).set m.toNat 1).map V.int)):=ab;generalize PY:upd W c (.lst (((List.replicate n (0:Int)).set m.toNat 1).map V.int))=G3 at *;clear R s1 t B Yd;have X:=I _ _ y3;have u:g≠c:=eD X Xk (λz=>nomatch z);have l:p.length=S.length:=by have:=congrArg List.length y4;simpa using this
 refine⟨a,.ref g,rfl,.inr ⟨kvs,kE (m,L),e,ha.imp (λz=>I _ _ z) (λ⟨o,z⟩=>⟨o,I _ _ z⟩),rfl,I _ _ M,y1.symm⟩,g,p,rfl,X,λY=>xI (a:=g) (kvs:=p) (o:=Y) (λi σ H'=>(∃Z z5,σ=[some (V.ref a),some (V.ref e),some (V.int n),some (V.ref c),Z,z5])/\(∀b y,b≠g->b≠c->G3 b=some y->H' b=some y)/\H' g=some (.lD Y (.dT p))/\H' c=some (.lst (((S.take i).foldl (λf x=>f.set x.1.toNat (f.getD x.1.toNat 0+1)) ((List.replicate n (0:Int)).set m.toNat 1)).map V.int))) ?_ ?_ ?_ ?_⟩
 ·exact⟨⟨_,_,rfl⟩,λb y n1 n2 e=>by rw[av n1];calc e,ab,by rw[av (Ne.symm u)];calc Xk⟩
 ·rintro i σ H' ⟨_,_,z,_⟩;exact z
 ·intro i k v b σ H' hk ir hb;nofun;obtain⟨⟨Z,z5,rfl⟩,b2,eb,J⟩:=ir;have hi:i < S.length:=by rw[<-l];exact(List.getElem?_eq_some_iff.mp hk).1
  have ek:k=kE S[i]:=by
   have t:(p.map (·.1))[i]?=some k:=by rw[List.getElem?_map,hk];rfl
   rw[y4,List.getElem?_map,cy hi]at t;exact(Option.some.inj t).symm
  subst ek;obtain⟨x0,x1⟩:=r _ (aae hi);have Sr:S.take (i+1)=S.take i++[S[i]]:=by rw[List.take_add_one,cy hi];rfl
  obtain⟨k,_⟩:=zN (n:=n) (S.take i) ((List.replicate n (0:Int)).set m.toNat 1) nofun λx hx=>r x (List.mem_of_mem_take hx);ac_rfl;rw[Sr,List.foldl_append,List.foldl_cons,List.foldl_nil];nofun;generalize (S.take i).foldl (λf x=>f.set x.1.toNat (f.getD x.1.toNat 0+1)) ((List.replicate n (0:Int)).set m.toNat 1)=f0 at *;generalize S[i]=x at *;obtain⟨xm,xc⟩:=x;obtain⟨j,rfl⟩:∃j:Nat,xm=j:=⟨xm.toNat,by simp only at x0;lia⟩
  ac_rfl;have hj:j<f0.length:=by simp only at x1;lia
  have hb:H' b=some (.tup [.int (j:Nat),.int xc]):=hb;refine⟨b,_,rfl,bz.of hb,rfl,_,_,rfl,_,_,rfl,rfl,?_⟩;walk_at "r";refine bt J (ax (j:=j) (v:=.int (f0.getD j 0)) (by rw[List.getElem?_map,aY (d:=0) hj];rfl)) ?_;walk_at "r";refine⟨_,j,J,gT (by simpa using hj),⟨_,_,rfl,rfl⟩,λb y n1 n2 e=>by rw[av n2];exact b2 b y n1 n2 e,by rw[av u];exact eb,?_⟩;rw[ab,<-List.map_set];rfl
 ·intro σ H' iu;obtain⟨⟨Z,z5,rfl⟩,b2,eb,J⟩:=iu;calc⟨g,Y,.dT p,(λy u' z=>by rw[X]at z;cases z),eb,(λy u' z=>nomatch z),?_⟩;rw[l,List.take_length]at J;have sE:aq H (upd H' g (.dT p)):=λb o z=>by
   by_cases h:b=g
   ·subst h;rw[y3]at z;cases z;exact ab
   ·rw[av h];exact b2 b o h (ao z Xj) (I _ _ z)
  have ef2:upd H' g (.dT p) c=some (.lst ((xM n (m,L) S).map V.int)):=by rw[av (Ne.symm u)];exact J
  generalize upd H' g (.dT p)=G at *;walk_at "r";refine .inl ⟨_,aP.of ef2,λl c=>q l _ (sE.trans (aq.new _ c)) ab⟩
abbrev pP:Stmt:=top 68
def Cm:Sp:=λvs H Q _=>∃(i:Int),vs=[.int i]/\Q (.bl true) H
theorem Ef(D:cZ K mg "_law_int" "_law_int" pP ["_law_found"])(T:Tx K mg C CN CR F FD):Def P w K mg base "_law_int" 1 ["_law_found"] Cm:=by
 have sc:aB ["_law_found"] ["_law_found"] (ay pP):=by walk_at "s"
 symm;obtain⟨i,rfl,q⟩:=h;have a:=hr.units;refine⟨_,(ak (aE (iI (bg cS rfl T.bb wK (af (au 0) (af (cV (v:=.ty "int") rfl T.Bv PyProof.Rows.boot_int rfl) aa))) (iH (yS (bg cS rfl T.bb wK (af (au 0) (af (cV (v:=.ty "bool") rfl T.zP PyProof.Rows.boot_bool rfl) aa)))))))),?_⟩;walk_at "r";refine cM _ true (.int _) rfl ?_;rw[if_pos rfl];exact⟨_,false,.int _,rfl,q⟩
abbrev kY:Stmt:=top 70
inductive Ie(C CN CR:Addr)(vs:List V)(H:Hp)(Q:VK):Prop
 |mk (F:Addr->Prop) (x ba:Addr) (nt:NT) (r:RS) (ad:Nat->Nat->Addr) (L:Lg) (a e:Addr) (kvs:List (List Key×V)) (m c:Int) (h0:vs=[.ref x,.ref a,.ref e,.int (nt.ms.length:Nat)]) (h1:bJ C CN CR F H x ba nt r ad) (h2:r.Ok nt) (h3:r.Lk nt L) (h4:L.length<=40) (h5:Rd H a (.dT kvs)) (h6:jw H a kvs (cp L)) (h7:H e=some (.tup [.int m,.int c])) (h8:(m,c)∈L.map (·.1)) (q:∀H',aq H H'->Q (.bl true) H'):Ie C CN CR vs H Q
def wm(C CN CR:Addr):Sp:=λvs H Q _=>Ie C CN CR vs H Q
theorem yH(D:cZ K mg "_law_right" "_law_right" kY ["_law_run","_law_ahead_here","_law_event","_law_many"])(T:Tx K mg C CN CR F FD)(pQ:Def P w K mg base "_law_due" 1 ["_law_ahead_here","_law_event","_law_many"] Ck)(pR:Def P w K mg base "_law_int" 1 ["_law_found"] Cm)(mN:Def P w K mg base "heard_of" 7 ["run","m","c"] (Ci C CN CR)):Def P w K mg base "_law_right" 8 ["_law_run","_law_ahead_here","_law_event","_law_many"] (wm C CN CR):=by
 have sc:aB ["_law_run","_law_ahead_here","_law_event","_law_many","_law_found"] ["_law_run","_law_ahead_here","_law_event","_law_many"] (ay kY):=by walk_at "s"
 symm;obtain⟨F,x,ba,B,r,ad,L,a,e,kvs,m,o,rfl,G,O,t,U,W,X,y,u,q⟩:=h;have c:=hr.units;refine⟨_,(ag (aR (i:=4) sc.nd rfl Sort (aJ mN hr (af (au 0) (af (aj c (au 2) ai) (af (aj c (au 2) ai) aa)))))
  (ag (aT (PW.pt (pw_or (cb (bA (bg cS rfl T.bb wK (af (au 4) (af (cV (v:=.ty "tuple") rfl T.bX qJ rfl) aa))))) (pw_or1 (az (jE c) (dy (N':=["_law_one"]) (ix:=[none]) (bS (pv 4)) (λ_ _ _ _=>(aQ (i:=0) (show(["_law_one"]:List Str).Nodup by decide +kernel) rfl Sort)) (λ_ _ _ _=>(jA (cb (bA (aJ pR hr (af (au 0) aa)))))) (λ_ _ _ _=>(au 0))) (bu aa) (aH _))))) (ak (aE je)) aI)
  (ak (aE (jy (aU c) (au 4) (aJ pQ hr (af (au 1) (af (au 2) (af (au 3) aa)))) (aH _)))))),?_⟩
 nofun;obtain⟨R,S,r1,r2,I⟩:=t.good.all.2.2 _ u;obtain⟨Y,Z,T,e4⟩:=(t.good.mem m o).mp u;ac_rfl;have aO:=G.DN.2;have M:=I.due Y Z;refine L2.cG λT h1=>?_;walk_at "r";refine cX y (ax (j:=0) rfl) ?_;walk_at "r";refine cX y (ax (j:=1) rfl) ?_;refine⟨F,x,ba,B,r,ad,L,m,o,rfl,G,O,t,U,u,λb T H1 d r3 k=>?_⟩;rw[r1]at r3;obtain rfl:=Option.some.inj r3;refine L2.cH h1 ?_;clear h1;walk_at "r";refine cM _ true (.tup k) rfl ?_;rw[if_neg ∅];have t:R.length<=5:=by rw[I.len];exact aO.Kv
 refine bL ?_;walk_at "r";refine .inr ⟨⟨_,bz.of k⟩,λD t=>?_⟩;refine bq (J:=Rp K b) (n:=(R.map V.int).length) (λi g H'=>g=[]/\aq H1 H') (S' (small (by simp;lia))) ⟨rfl,aq.new _ t⟩ ?_ ?_ ?_ ?_
 ·rintro i g H' lV ⟨_,d⟩;exact⟨_,(R.map V.int)[i],bz.of (d _ _ k),cy lV⟩
 ·rintro g H' ⟨_,d⟩;exact⟨_,bz.of (d _ _ k),P' _⟩
 ·intro i g H' lV N lX nX x H5 tM;nofun;obtain⟨rfl,d⟩:=nX;obtain⟨rfl,hy⟩:=tM;ac_rfl;have ex:=hy _ (bz.of (d _ _ k));walk_at "xf";obtain⟨z,rfl⟩:∃z,x=.int z:=by
   rw[List.getElem?_map]at ex;obtain⟨z,_,rfl⟩:=Option.map_eq_some_iff.mp ex;exact⟨z,rfl⟩
  walk_at "r";refine bI z rfl ?_;refine zJ ?_
  try rw[if_neg ∅]
  exact⟨_,N,nofun,rfl,d⟩
 rintro g H2 N lX ⟨rfl,s2⟩;clear lX;walk_at "r";refine⟨Y' _,λt i=>?_⟩;have g:=aq.new (.lst []) i;refine .inl ⟨.inr ⟨_,_,_,_,rfl,rfl,.inr ⟨aP.of (g _ _ N),aP.of ab⟩,rfl,λj u v c=>by simp at c⟩,?_⟩
 try rw[if_neg ∅]
 have l:=d.trans (s2.trans g);refine⟨a,e,B.ms.length,m,o,kvs,cp L,S,rfl,W.imp (λz=>l _ _ z) (λ⟨o,z⟩=>⟨o,l _ _ z⟩),X.same l,l _ _ y,r2,λp i=>?_,Y,Z,aO.Kv,λo t s4 d=>?_⟩
 ·have:=(I.mem p.1 p.2).mp (.inl i);lia
 rw[M]at d;have i:=s4 _ _ (g _ _ (s2 _ _ k));calc .inl ⟨.inr ⟨_,_,_,_,rfl,rfl,.inl ⟨bz.of i,bz.of d⟩,rfl,λj u v c hv=>?_⟩,q _ (l.trans s4)⟩;rw[c]at hv;nofun;obtain rfl:=Option.some.inj hv;rw[List.getElem?_map]at c;obtain⟨z,_,rfl⟩:=Option.map_eq_some_iff.mp c;ac_rfl;calc .inl ⟨rfl,rfl⟩
abbrev mO:Stmt:=top 71
inductive Ig(C CN CR:Addr)(vs:List V)(H:Hp)(Q:VK):Prop
 |mk (F G:Addr->Prop) (d x ba:Addr) (tn:V) (nt:NT) (r:RS) (ad bd:Nat->Nat->Addr) (L:Lg) (p:Int) (ask:Bool) (h0:vs=[.ref d,.ref x,.int p,.bl ask,.int (nt.ms.length:Nat)]) (h1:bJ C CN CR F H x ba nt r ad) (h2:bW G H d tn nt r bd) (h3:∀b,FP nt.n bd b->F b) (h4:∀b,FP nt.n ad b->G b) (h5:FS F H) (h6:FS G H) (h7:r.Ok nt) (h8:r.Lk nt L) (h9:L.length<40) (q0:∀H',aq H H'->Q (.bl true) H') (q:∀H' (w k:Nat),r.Jo nt w k->Fr (λb=>FP nt.n ad b\/FP nt.n bd b) H H'->bJ C CN CR F H' x ba nt (r.pick nt w k) ad->bW G H' d tn nt (r.pick nt w k) bd->Q (.bl true) H'):Ig C CN CR vs H Q
def Cn(C CN CR:Addr):Sp:=λvs H Q _=>Ig C CN CR vs H Q
theorem Aq(D:cZ K mg "_law_went" "_law_went" mO ["_law_own","_law_run","_law_pick_here","_law_asked","_law_many"])(T:Tx K mg C CN CR F FD)(fu:Def P w K mg base "_law_ahead" 1 ["_law_run"] wj)(mP:Def P w K mg base "_law_free" 2 ["_law_run"] Ht)(mQ:Def P w K mg base "_law_pick" 3 ["_law_run","_law_way","_law_number"] B7)(eO:Def P w K mg base "_law_right" 8 ["_law_run","_law_ahead_here","_law_event","_law_many"] (wm C CN CR))(mR:ck P w K mg base CR "pick" 7 ["self","way","number"] (Hg C CN CR)):Def P w K mg base "_law_went" 9 ["_law_own","_law_run","_law_pick_here","_law_asked","_law_many"] (Cn C CN CR):=by
 have sc:aB ["_law_own","_law_run","_law_pick_here","_law_asked","_law_many","_law_free_here","_law_way","_law_number","_law_event"] ["_law_own","_law_run","_law_pick_here","_law_asked","_law_many"] (ay mO):=by walk_at "s"
 symm;obtain⟨F,G,d,x,ba,Z,c,r,ad,M,L,p,O,rfl,hR,hT,R,Nd,j8,S,y,qC,oz,q0,q⟩:=h;have hu:=hr.units;refine⟨_,(ag (aR (i:=5) sc.nd rfl Sort (aJ mP hr (af (au 0) aa)))
  (ag (aT (az (aU hu) (au 5) (bu aa) (aH _)) (ak (aE je)) aI)
  (ag (dU (aj hu (au 5) (aW eP (au 2) (bg aN rfl T.cm W' (af (au 5) aa)))) (eZ (i:=6) (j:=7) rfl sc.nd rfl rfl Sort Sort))
  (ag (aR (i:=8) sc.nd rfl Sort (aJ mQ hr (af (au 0) (af (au 6) (af (au 7) aa)))))
  (ag (bP (eW mR T.aS hr (au 1) (af (au 6) (af (au 7) aa))))
  (ak (aE (SV (yS (au 3)) (iH (aJ eO hr (af (au 1) (af (aJ fu hr (af (au 0) aa)) (af (au 8) (af (au 4) aa)))))))))))))),?_⟩
 have Jw:=hR.DN.2;have T:r.picks.length<40:=by rw[<-qC.len];exact oz
 refine L2.cG λT h1=>?_;walk_at "r";refine⟨G,d,Z,c,r,M,rfl,hT,y,(),λlf ys H2 s2 T u Rv=>?_⟩;refine L2.cH h1 ?_;clear h1;walk_at "r";refine⟨Y' _,λv T=>?_⟩;have sp:=aq.new (.lst []) T;have LN:=sp _ _ u;have Xm:=Rv.aG sp.aM;have U:upd H2 v (.lst []) v=some (.lst []):=ab;have N:=s2.trans sp;generalize hGp:upd H2 v (.lst [])=Gp at *;by_cases hy:ys=[]
 ·subst hy;refine .inl ⟨.inr ⟨_,_,[],[],rfl,rfl,.inr ⟨aP.of LN,aP.of U⟩,rfl,λj u v hu=>by simp at hu⟩,?_⟩
  try rw[if_pos trivial]
  walk_at "r";exact q0 _ N
 refine .inr ⟨⟨ys,[],λh=>hy (List.length_eq_zero_iff.mp h),.inl ⟨aP.of LN,aP.of U⟩⟩,?_⟩
 try rw[if_neg ∅]
 have hTp:=hT.same N;have hRp:=hR.same N;have j:0<ys.length:=List.length_pos_iff.mpr hy;nofun;obtain⟨B,acG⟩:∃B:Nat,p%(ys.length:Int)=B:=⟨(p%(ys.length:Int)).toNat,by have:=aaK p (show(ys.length:Int)≠0 by lia);lia⟩
 have B0:B<ys.length:=by have:=aaD p (show(0:Int)<ys.length by lia);lia
 have j:ys.length=(j3 c r c.ws.length).length:=by simpa using Xm.1
 have W:B<(j3 c r c.ws.length).length:=by lia
 have hel:=Xm.2 B ys[B] _ (cy B0) (by rw[List.getElem?_map,cy W];rfl);have xh:=aae W;generalize (j3 c r c.ws.length)[B]=pr at *;obtain⟨l,g⟩:=pr;have m:=Hr y xh;obtain⟨j,eta,tW⟩:=sV hel;ac_rfl;refine⟨_,.inl ⟨_,aP.of LN,rfl⟩,(),_,_,.inl (aP.of LN),by rw[acG];exact ax (cy B0),?_⟩;rw[eta];refine wD (bz.of tW) ?_;walk_at "r";refine⟨G,d,Z,c,r,M,l,g,rfl,hTp,λb hb=>let ⟨o,e,z⟩:=S b hb;⟨o,N _ _ e,z⟩,y,m,(),λt H3 f3 Sv xV=>?_⟩;nofun;obtain⟨te,rfl,Js⟩:=sV xV;have X:=hRp.keep (f3.mono R);have hF3:FS F H3:=λb hb=>by
  by_cases h:FP c.n M b
  ·exact Sv.bN.fp h
  ·obtain⟨o,e,z⟩:=j8 b hb;exact⟨o,f3.at (N _ _ e) h,z⟩
 obtain⟨dx,o,hx,j⟩:=X.ins;ac_rfl;walk_at "r";refine⟨x,dx,_,rfl,hx,fI ⋯,F,x,ba,c,r,ad,l,g,rfl,X,hF3,y,m,(),λt H4 j I _=>?_⟩;nofun;ac_rfl;have J:=Sv.keep (j.mono Nd);have o:g<(r.ww l).snd.length:=by rw[<-y.ls l m.lt,y.lk l m.lt];exact(List.getElem?_eq_some_iff.mp m.lies).1
 have YG:=qC.pick Jw m.lt m.lies (cy o);have Sw:=RS.Ok.pick Jw y (k:=g) m.lt;have Y:Fr (λb=>FP c.n ad b\/FP c.n M b) H H4:=(N.fr.trans (f3.mono λb z=>.inr z)).trans (j.mono λb z=>.inl z);have Ib:=j.aM _ _ Js
 cases O with
 |false=>
  walk_at "r"
  try rw[if_neg ∅]
  walk_at "r";exact q H4 l g m Y I J
 |true=>
  walk_at "r"
  try rw[if_pos ∅]
  walk_at "r";have t:(L++[(c.ev r l,(r.ww l).snd[g])]).length<=40:=by simp;lia
  calc⟨G,d,Z,c,_,M,_,rfl,J,Sw.1,YG,t,λa kvs o j y u v=>?_⟩;calc⟨F,x,ba,c,_,ad,_,a,te,kvs,(c.ev r l).1,(c.ev r l).2,rfl,I.same j,Sw.1,YG,t,.inl u,v,j _ _ Ib,nofun,λy o=>?_⟩;calc q y l g m (Y.trans (j.trans o).fr) ((I.same j).same o) ((J.same j).same o)
theorem _root_.DD.dz.weak{F a:Addr->Prop}{n:Nat->Nat}{ct:Nat->Nat->CO}(h:dz F H n ad ct)(s:aq H H')(d:∀b,a b->F b\/H b=none):dz a H' n ad ct:=by
 have c:∀{b:Addr} {o:HO},H b=some o->¬F b->¬a b:=λ{b o} e f z=>(d _ z).elim f λq=>by rw[q]at e;cases e
 have f:Cv (iq (λb=>F b\/FP n ad b) H) (iq (λb=>a b\/FP n ad b) H'):=λb u g i=>by
  obtain⟨a,d⟩:=de g i;rw[fE (λz=>z.elim (c d (λq=>a (.inl q))) (λq=>a (.inr q)))];exact s _ _ d
 refine⟨h.inj,λt i a=>?_,λt i a=>?_⟩
 ·obtain⟨d,e,_⟩:=h.IX t i a;exact c e (h.out t i a)
 ·obtain⟨d,e,c⟩:=h.IX t i a;calc⟨d,s _ _ e,c.cv f⟩
theorem bJ.weak{C CN CR:Addr}{F c:Addr->Prop}{x:Addr}{nt:NT}(h:bJ C CN CR F H x ba nt r ad)(s:aq H H')(d:∀b,c b->F b\/H b=none):bJ C CN CR c H' x ba nt r ad:=by
 have f:∀{b:Addr} {o:HO},H b=some o->¬F b->¬c b:=λ{b o} e c z=>(d _ z).elim c λq=>by rw[q]at e;cases e
 obtain⟨⟨g,o,i,c⟩,j,k⟩:=h;calc⟨⟨g,o,s _ _ i,λt a b=>⟨s _ _ (c t a b).1,f (c t a b).1 (c t a b).2.1,(c t a b).2.2⟩⟩,j.weak s d,k.fr (Z:=λ_=>False) s.fr⟩
theorem bW.Nf{F c:Addr->Prop}{d:Addr}{g:V}{nt:NT}(h:bW F H d g nt r ad)(s:aq H H')(i:∀b,c b->F b\/H b=none):bW c H' d g nt r ad:=by
 have f:∀{b:Addr} {o:HO},H b=some o->¬F b->¬c b:=λ{b o} e g z=>(i _ z).elim g λq=>by rw[q]at e;cases e
 have j:Cv (iq (λb=>F b\/FP nt.n ad b) H) (iq (λb=>c b\/FP nt.n ad b) H'):=λb u k l=>by
  obtain⟨c,g⟩:=de k l;rw[fE (λz=>z.elim (f g (λq=>c (.inl q))) (λq=>c (.inr q)))];exact s _ _ g
 obtain⟨⟨o,g,k,l,c⟩,m,⟨ls,p⟩,q⟩:=h;calc⟨⟨o,s _ _ g,f g k,l,λt a b=>⟨s _ _ (c t a b).1,f (c t a b).1 (c t a b).2.1,(c t a b).2.2⟩⟩,m.weak s i,⟨ls,p.cv j⟩,q⟩
def FR(nt:NT)(a b:Bool->Nat->Nat->Addr)(j:Bool):Addr->Prop:=λz=>FP nt.n (b j) z\/FP nt.n (a (!j)) z\/FP nt.n (b (!j)) z
def FT(nt:NT)(a b:Bool->Nat->Nat->Addr)(j:Bool):Addr->Prop:=λz=>FP nt.n (a j) z\/FP nt.n (a (!j)) z\/FP nt.n (b (!j)) z
structure Jy(lt lr lc:Addr)(ds xs cs:List V)(H:Hp):Prop where
 lt:H lt=some (.lst ds)
 lr:H lr=some (.lst xs)
 lc:H lc=some (.lst cs)
theorem Jy.same{lt a lc:Addr}{b xs cs:List V}(h:Jy lt a lc b xs cs H)(s:aq H H'):Jy lt a lc b xs cs H':=⟨s _ _ h.lt,s _ _ h.lr,s _ _ h.lc⟩
theorem Jy.fr{lt a lc:Addr}{b xs cs:List V}(h:Jy lt a lc b xs cs H){Z:Addr->Prop}(f:Fr Z H H')(c:¬Z lt)(d:¬Z a)(e:¬Z lc):Jy lt a lc b xs cs H':=⟨f.at h.lt c,f.at h.lr d,f.at h.lc e⟩
structure Ih(C CN:Addr)(H:Hp)(n:Addr)(nt:NT)(ls:List (Int×Int))(ms:List Addr)(wv lv:List V):Prop where
 na:sx C CN H n nt
 nf:kK CN H n ms wv lv
 nl:gw H 1 lv (ls.map nZ)
theorem Ih.fr{C CN:Addr}{n:Addr}{nt:NT}(h:Ih C CN H n nt ls ms wv lv){Z:Addr->Prop}(f:Fr Z H H'):Ih C CN H' n nt ls ms wv lv:=⟨h.na.fr f,h.nf.fr f,h.nl.aG f.aM⟩
structure oA(C CN CR:Addr)(H:Hp)(n:Addr)(v:V)(nt:NT)(ls:List (Int×Int))(ms:List Addr)(wv lv:List V)(x d:Bool->Addr)(a b:Bool->Nat->Nat->Addr)(r:Bool->RS)(L:Bool->Lg)(N:Bool->Nat):Prop where
 run:∀j,bJ C CN CR (FR nt a b j) H (x j) n nt (r j) (a j)
 twin:∀j,bW (FT nt a b j) H (d j) v nt (r j) (b j)
 ok:∀j,(r j).Ok nt
 lk:∀j,(r j).Lk nt (L j)
 OE:∀j,(L j).length<=N j
 pl:∀j,r j=j4 nt (RS.begin nt ls) (r j).picks
 YH:∀j,sT nt (RS.begin nt ls) (r j).picks
 ba:Ih C CN H n nt ls ms wv lv
section
variable {C CN CR:Addr}{H H' H1 H2:Hp}{n:Addr}{v:V}{nt:NT}{ls:List (Int×Int)}{ms:List Addr}{wv lv:List V}{x d:Bool->Addr}{r:Bool->RS}{L:Bool->Lg}{N N':Bool->Nat}{a b:Bool->Nat->Nat->Addr}
theorem oA.same(h:oA C CN CR H n v nt ls ms wv lv x d a b r L N)(s:aq H H')(c:∀j,N j<=N' j):oA C CN CR H' n v nt ls ms wv lv x d a b r L N':=⟨λj=>(h.run j).same s,λj=>(h.twin j).same s,h.ok,h.lk,λj=>aab (h.OE j) (c j),h.pl,h.YH,h.ba.fr (Z:=λ_=>False) s.fr⟩
theorem oA.BX(h:oA C CN CR H n v nt ls ms wv lv x d a b r L N)(j:Bool):FS (FR nt a b j) H:=λz c=>by
 rcases c with q|q|q
 ·exact(h.twin j).bN.fp q
 ·exact(h.run (!j)).bN.fp q
 ·calc(h.twin (!j)).bN.fp q
theorem oA.fsT(h:oA C CN CR H n v nt ls ms wv lv x d a b r L N)(j:Bool):FS (FT nt a b j) H:=λz c=>by
 rcases c with q|q|q
 ·exact(h.run j).bN.fp q
 ·exact(h.run (!j)).bN.fp q
 ·calc(h.twin (!j)).bN.fp q
theorem Sx{α:Type}{P:Bool->α->Prop}{j:Bool}{y:α}{f:Bool->α}(a:P j y)(b:∀i,i≠j->P i (f i))(i:Bool):P i (if i=j then y else f i):=by
 by_cases z:i=j
 ·subst z;rw[if_pos rfl];exact a
 ·rw[if_neg z];calc b i z
theorem oA.step(h:oA C CN CR H n v nt ls ms wv lv x d a b r L N)(m:nt.Ok)(j:Bool){w k:Nat}(c:(r j).Jo nt w k)(f:Fr (λz=>FP nt.n (a j) z\/FP nt.n (b j) z) H H2)(o:bJ C CN CR (FR nt a b j) H2 (x j) n nt ((r j).pick nt w k) (a j))(p:bW (FT nt a b j) H2 (d j) v nt ((r j).pick nt w k) (b j))(A:N j+1<=N' j)(s:∀i,N i<=N' i):∃t u,oA C CN CR H2 n v nt ls ms wv lv x d a b t u N':=by
 have e:∀i,i≠j->(!i)=j:=λi g=>by cases i<;>cases j<;>first|rfl|exact absurd rfl g
 have t:k<((r j).ww w).snd.length:=by rw[<-(h.ok j).ls w c.lt,(h.ok j).lk w c.lt];exact(List.getElem?_eq_some_iff.mp c.lies).1
 have y:=(h.lk j).pick m c.lt c.lies (cy t);have l:=RS.Ok.pick m (h.ok j) (k:=k) c.lt;have m:∀i,i≠j->Fr (FR nt a b i) H H2/\Fr (FT nt a b i) H H2:=λi g=>⟨f.mono λz q=>q.elim (λq=>.inr (.inl (by rw[e i g];calc q))) λq=>.inr (.inr (by rw[e i g];calc q)),f.mono λz q=>q.elim (λq=>.inr (.inl (by rw[e i g];calc q))) λq=>.inr (.inr (by rw[e i g];calc q))⟩
 refine⟨λi=>if i=j then(r j).pick nt w k else r i,λi=>if i=j then L j++[(nt.ev (r j) w,((r j).ww w).snd[k])] else L i,?_,?_,?_,λi=>?_,?_,?_,?_,h.ba.fr f⟩
 ·exact Sx (P:=λi q=>bJ C CN CR (FR nt a b i) H2 (x i) n nt q (a i)) o λi z=>(h.run i).keep (m i z).1
 ·exact Sx (P:=λi q=>bW (FT nt a b i) H2 (d i) v nt q (b i)) p λi z=>(h.twin i).keep (m i z).2
 ·exact Sx (P:=λ_ (q:RS)=>q.Ok nt) l.1 λi _=>h.ok i
 ·by_cases z:i=j
  ·subst z;rw[if_pos rfl,if_pos rfl];exact y
  ·rw[if_neg z,if_neg z];exact h.lk i
 ·exact Sx (P:=λi q=>List.length q<=N' i) (by have:=h.OE j;simp;lia) λi _=>aab (h.OE i) (s i)
 ·exact Sx (P:=λ_ (q:RS)=>q=j4 nt (RS.begin nt ls) q.picks) (by rw[l.2,mK,<-h.pl j]) λi _=>h.pl i
 ·calc Sx (P:=λ_ (q:RS)=>sT nt (RS.begin nt ls) q.picks) (by rw[l.2];calc Ea (h.YH j) (by rw[<-h.pl j];calc c)) λi _=>h.YH i
end
abbrev vc:Stmt:=top 72
def wq(K:W.Frag):Sp:=λvs H Q _=>∃(a:Addr) (ns:List Int),vs=[.ref a]/\aP K H a (ns.map V.int)/\ns.length<=63/\∀H',Q (.bl true) H'
theorem Q9{f:Addr}{fd:FuncData}(D:J9 K "law" "law" vc f fd)(T:Tx K mg C CN CR F FD)(fu:Def P w K mg base "_law_ahead" 1 ["_law_run"] wj)(iG:Def P w K mg base "_law_begun" 1 ["_law_net_here"] B9)(pS:Def P w K mg base "_law_net" 5 ["_law_script"] (B5 K))(ib:Def P w K mg base "_law_net_made" 9 ["_law_net_here"] (vb C CN))(eO:Def P w K mg base "_law_right" 8 ["_law_run","_law_ahead_here","_law_event","_law_many"] (wm C CN CR))(mS:Def P w K mg base "_law_went" 9 ["_law_own","_law_run","_law_pick_here","_law_asked","_law_many"] (Cn C CN CR))(jT:Def P w K mg base "played_run" 7 ["net","schedule"] (Cc C CN CR))(sU:vK P w K mg base "Run" CR 2 ["self","net"] (wa C CN CR)):lK P w K mg base CV 10 f fd ["_law_script"] (wq K):=by
 have sc:aB ["_law_script","_law_net_here","_law_many","_law_made","_law_owns","_law_runs","_law_cell","_law_k","_law_ahead_here","_law_event","_law_again"] ["_law_script"] (ay vc):=by walk_at "s"
 refine D.ok sc (λvs H Q E h=>?_) (λgp A outer s H vs Q E hr h=>?_)
 ·obtain⟨a,ns,rfl,hS,Wb,q⟩:=h;rfl
 ·obtain⟨a,ns,rfl,hS,Wb,q⟩:=h;have hu:=hr.units;refine⟨_,(ag (aR (i:=1) sc.nd rfl Sort (aJ pS hr (af (au 0) aa)))
   (ag (aR (i:=2) sc.nd rfl Sort (bg aN rfl T.cm W' (af (aj hu (au 1) ai) aa)))
   (ag (aR (i:=3) sc.nd rfl Sort (aJ ib hr (af (au 1) aa)))
   (ag (aR (i:=4) sc.nd rfl Sort (bu (af (aJ iG hr (af (au 1) aa)) (af (aJ iG hr (af (au 1) aa)) aa))))
   (ag (aR (i:=5) sc.nd rfl Sort (bu (af (xo sU hr (af (au 3) aa)) (af (xo sU hr (af (au 3) aa)) aa))))
   (ag (df PassesOwn.never rfl (bS (Pe (au 0) (jz ai) (jz ai))) (aQ (i:=6) sc.nd rfl Sort)
   (ak (df PassesOwn.never rfl (c8 rfl T.eR (af ai aa)) (aQ (i:=7) sc.nd rfl Sort)
   (ak (aT (cb (bA (aJ mS hr (af (aj hu (au 4) (au 7)) (af (aj hu (au 5) (au 7)) (af (aj hu (bu (af (au 6) (af (aW jj (au 6) ai) aa))) (au 7)) (af (jy (aU hu) (aW eP (aW jj (au 6) ai) ai) ai (aH _)) (af (au 2) aa)))))))) (ak (aE je)) aI)))))
   (ag (df PassesOwn.never rfl (c8 rfl T.eR (af ai aa)) (aQ (i:=7) sc.nd rfl Sort)
   (ag (aR (i:=8) sc.nd rfl Sort (aJ fu hr (af (aj hu (au 4) (au 7)) aa)))
   (ag (Bp (df PassesOwn.never rfl (Bo (au 8)) (aQ (i:=9) sc.nd rfl Sort)
   (ak (aT (cb (bA (aJ eO hr (af (aj hu (au 5) (au 7)) (af (au 8) (af (au 9) (af (au 2) aa))))))) (ak (aE je)) aI))))
   (ag (aR (i:=10) sc.nd rfl Sort (aJ jT hr (af (au 3) (af (cQ cf rfl T.dX ke (af (aj hu (aj hu (au 4) (au 7)) aC) aa)) aa))))
   (ak (df PassesOwn.never rfl (bS (rG (cQ (Dk rfl) rfl T.dX ke (af (au 8) aa)) (jz (lQ iJ ai)) nv)) (aQ (i:=9) sc.nd rfl Sort)
   (ak (aT (cb (bA (aJ eO hr (af (au 10) (af (au 8) (af (au 9) (af (au 2) aa))))))) (ak (aE je)) aI))))))))
   (ak (aE je))))))))),?_⟩
  refine L2.cG λT h1=>?_;walk_at "j";refine tI a ns rfl hS Wb (λt am aw al T wv lv gr ws ls H1 s1 g1 g2 g3 g4 g5 g6 g7 g=>?_);have YI:ToldN H1 (.ref t) gr ws ls:=⟨t,am,aw,al,T,wv,lv,rfl,g1,g2,g3,g4,g5,g6,g7⟩
  calc L2.cH h1 ?_;clear h1;obtain⟨u,Ra⟩:∃u:NT,u=⟨gr,ws⟩:=⟨_,rfl⟩
  have LK:∀l∈ls,0<=l.1/\l.1<u.ws.length:=λl hl=>by rw[Ra];exact⟨(g.lo l hl).1,(g.lo l hl).2.1⟩
  have Jw:u.Ok:=by rw[Ra];exact g.nt
  have M4:T.length=u.ms.length:=by rw[Ra];exact g5.1
  refine L2.cG λT h2=>?_;walk_at "j";refine cX g1 (ax (j:=0) rfl) ⟨_,.inl ⟨_,aP.of g2,rfl⟩,?_⟩;rw[M4];refine L2.cH h2 ?_;clear h2 g1 g2 g3 g4 g5 g6 g7 M4;generalize V.ref t=v at *;refine L2.cG λT h3=>?_;walk_at "j";refine⟨v,gr,ws,ls,rfl,YI,g,λn ms wv lv H2 s2 T W2 W3=>?_⟩;rw[<-Ra]at T;have Sh:Ih C CN H2 n u ls ms wv lv:=⟨T,W2,W3⟩
  clear T W2 W3;refine L2.cH h3 ?_;clear h3;refine L2.cG λN4 h4=>?_;walk_at "j";refine⟨λ_=>False,v,u,ls,rfl,?_,λb m=>m.elim,Jw,g.QL,LK,λJ b0 T t3 f3 fd0 Rb=>?_⟩
  ·rw[Ra];exact YI.cv λb o e T=>by rw[fE (λz=>z)];exact s2 _ _ e
  refine⟨FP u.n b0,v,u,ls,rfl,?_,λb m=>Rb.bN.fp m,Jw,g.QL,LK,λd1 b1 H4 t4 f4 fd1 Lc=>⟨mL,λlt iz=>?_⟩⟩
  ·rw[Ra];calc YI.cv λb o e T=>?_;rw[fE (λz=>by rw[<-Ra]at z;rw[s2.free (f3 b z)]at e;cases e)];exact t3 _ _ (s2 _ _ e)
  have U:=aq.new (.lst [.ref J,.ref d1]) iz;have elt:upd H4 lt (.lst [.ref J,.ref d1]) lt=some (.lst [.ref J,.ref d1]):=ab;have t25:aq H2 (upd H4 lt (.lst [.ref J,.ref d1])):=t3.trans (t4.trans U);generalize RH:upd H4 lt (.lst [.ref J,.ref d1])=H5 at *;refine L2.cH h4 ?_;clear h4;have hN5:=Sh.fr (Z:=λ_=>False) t25.fr;refine L2.cG λT h5=>?_;walk_at "j";intro y Q1 Hk LI W5;have Cd:aq H5 (upd (upd H5 Q1 (.own y)) y (.ins CR Q1 [])):=λb o e=>by rw[av (ao e Hk),av (ao e LI)];exact e
  have T:=hN5.fr (Z:=λ_=>False) Cd.fr;have Ii:=Rb.same ((t4.trans U).trans Cd);have Ij:=Lc.same (U.trans Cd);calc⟨λb=>FP u.n b0 b\/FP u.n b1 b,y,Q1,n,u,ls,ms,wv,lv,rfl,ab,T.na,T.nf,T.nl,g.QL,LK,λb m=>m.elim (λz=>Ii.bN.fp z) (λz=>Ij.bN.fp z),λa0 H6 k0 f0 Sm=>⟨rfl,?_⟩⟩;have t6:aq H5 H6:=λb o e=>k0 b o (ao e Hk) (Cd _ _ e);have f6:∀b,FP u.n a0 b->H5 b=none:=λb m=>Cd.free (f0 b m);clear k0 f0 Cd T Ii Ij;have hN6:=hN5.fr (Z:=λ_=>False) t6.fr;intro S dx1 oH Xn acN;have Rc:aq H6 (upd (upd H6 dx1 (.own S)) S (.ins CR dx1 [])):=λb o e=>by rw[av (ao e oH),av (ao e Xn)];exact e
  have T:=hN6.fr (Z:=λ_=>False) Rc.fr;have Ii:=Rb.same (((t4.trans U).trans t6).trans Rc);have Ij:=Lc.same ((U.trans t6).trans Rc);have Xo:=Sm.same Rc;calc⟨λb=>(FP u.n b0 b\/FP u.n b1 b)\/FP u.n a0 b,S,dx1,n,u,ls,ms,wv,lv,rfl,ab,T.na,T.nf,T.nl,g.QL,LK,λb m=>m.elim (λz=>z.elim (λz=>Ii.bN.fp z) (λz=>Ij.bN.fp z)) (λz=>Xo.bN.fp z),λa1 H7 k1 f1 Sn=>⟨rfl,mL,λR Sy=>?_⟩⟩;have t7:aq H6 H7:=λb o e=>k1 b o (ao e oH) (Rc _ _ e);have f7:∀b,FP u.n a1 b->H6 b=none:=λb m=>Rc.free (f1 b m);clear k1 f1 Rc T Ii Ij Xo;have t8:=aq.new (.lst [.ref y,.ref S]) Sy;have elr:upd H7 R (.lst [.ref y,.ref S]) R=some (.lst [.ref y,.ref S]):=ab;have hN8:=hN6.fr (Z:=λ_=>False) (t7.trans t8).fr;generalize Ya:upd H7 R (.lst [.ref y,.ref S])=H8 at *;calc L2.cH h5 ?_;clear h5;nofun;obtain⟨Q0,T⟩:=yt Jw g.QL;have t48:aq H4 H8:=U.trans (t6.trans (t7.trans t8));obtain⟨X,hX0,hX1⟩:∃X:Bool->Addr,X false=y/\X true=S:=⟨λj=>bif j then S else y,rfl,rfl⟩
  obtain⟨Rf,wG,yO⟩:∃X:Bool->Addr,X false=J/\X true=d1:=⟨λj=>bif j then d1 else J,rfl,rfl⟩
  obtain⟨W,Rg,Rh⟩:∃X:Bool->Nat->Nat->Addr,X false=a0/\X true=a1:=⟨λj=>bif j then a1 else a0,rfl,rfl⟩
  obtain⟨Y,Ri,Rj⟩:∃X:Bool->Nat->Nat->Addr,X false=b0/\X true=b1:=⟨λj=>bif j then b1 else b0,rfl,rfl⟩
  ac_rfl;have B:oA C CN CR H8 n v u ls ms wv lv X Rf W Y (λ_=>RS.begin u ls) (λ_=>[]) (λ_=>0):=by
   refine⟨λj=>?_,λj=>?_,λj=>Q0,λj=>RS.Lk.begin,λj=>P' _,λj=>by rw[T];rfl,λj=>by rw[T];calc HQ,hN8⟩
   ·cases j with
    |false=>
     rw[hX0,Rg];calc Sm.weak (t7.trans t8) λb m=>?_;rcases m with m|m|m
     ·exact .inl (.inl (by rw[<-Ri];calc m))
     ·exact .inr (f7 b (by rw[<-Rh];calc m))
     ·calc .inl (.inr (by rw[<-Rj];calc m))
    |true=>
     rw[hX1,Rh];calc Sn.weak t8 λb m=>.inl ?_;rcases m with m|m|m
     ·exact .inl (.inr (by rw[<-Rj];calc m))
     ·exact .inr (by rw[<-Rg];calc m)
     ·exact .inl (.inl (by rw[<-Ri];calc m))
   ·cases j with
    |false=>
     rw[wG,Ri];calc Rb.Nf (t4.trans t48) λb m=>.inr ?_;rcases m with m|m|m
     ·exact(t4.trans U).free (f6 b (by rw[<-Rg];calc m))
     ·exact(t4.trans (U.trans t6)).free (f7 b (by rw[<-Rh];calc m))
     ·calc f4 b (by rw[<-Rj];calc m)
    |true=>
     rw[yO,Rj];calc Lc.Nf t48 λb m=>?_;rcases m with m|m|m
     ·exact .inr ((U.trans t6).free (f7 b (by rw[<-Rh];calc m)))
     ·exact .inr (U.free (f6 b (by rw[<-Rg];calc m)))
     ·exact .inl (by rw[<-Ri];calc m)
  have nlt:∀j,¬(FP u.n (W j) lt\/FP u.n (Y j) lt):=λj m=>by
   cases j with
   |false=>
    rcases m with m|m
    ·have:=f6 lt (by rw[<-Rg];calc m);rw[elt]at this;cases this
    ·obtain⟨o,e,_⟩:=(Rb.same t4).bN.fp (by rw[<-Ri];calc m);rw[iz]at e;cases e
   |true=>
    rcases m with m|m
    ·have:=f7 lt (by rw[<-Rh];calc m);rw[t6 _ _ elt]at this;cases this
    ·obtain⟨o,e,_⟩:=Lc.bN.fp (by rw[<-Rj];calc m);rw[iz]at e;cases e
  have nlr:∀j,¬(FP u.n (W j) R\/FP u.n (Y j) R):=λj m=>by
   cases j with
   |false=>
    rcases m with m|m
    ·obtain⟨o,e,_⟩:=(Sm.same t7).bN.fp (by rw[<-Rg];calc m);rw[Sy]at e;cases e
    ·obtain⟨o,e,_⟩:=(Rb.same (t4.trans (U.trans (t6.trans t7)))).bN.fp (by rw[<-Ri];calc m);rw[Sy]at e;cases e
   |true=>
    rcases m with m|m
    ·obtain⟨o,e,_⟩:=Sn.bN.fp (by rw[<-Rh];calc m);rw[Sy]at e;cases e
    ·obtain⟨o,e,_⟩:=(Lc.same (U.trans (t6.trans t7))).bN.fp (by rw[<-Rj];calc m);rw[Sy]at e;cases e
  have atR:∀j:Bool,ip [V.ref y,V.ref S] ((j.toNat:Nat):Int)=some (.ref (X j)):=λj=>by
   cases j with
   |false=>rw[hX0];calc ax (j:=0) rfl
   |true=>rw[hX1];exact ax (j:=1) rfl
  have atT:∀j:Bool,ip [V.ref J,V.ref d1] ((j.toNat:Nat):Int)=some (.ref (Rf j)):=λj=>by
   cases j with
   |false=>rw[wG];calc ax (j:=0) rfl
   |true=>rw[yO];exact ax (j:=1) rfl
  have Xp:=(t6.trans (t7.trans t8)) _ _ elt;have sq8:aP K H8 a (ns.map V.int):=(s1.trans (s2.trans (t25.trans (t6.trans (t7.trans t8))))).seq hS;clear Rb Lc Sm Sn f3 f4 f6 f7 t3 t4 U t6 t7 t8 t25 t48 Sh hN5 hN6 hN8 YI iz Sy elt RH Ya fd0 fd1 s1 s2 Hk LI W5 oH Xn acN hX0 hX1 wG yO Rg Rh Ri Rj;refine L2.cG λN6 h6=>?_;walk_at "j";refine⟨_,rfl,_,rfl,_,sq8,λlc YJ=>?_⟩;have YK:=aq.new (.lst (dG (ns.map V.int) (some 8) (some 38))) YJ;have hQ9:=B.same (N':=λ_=>0) YK λ_=>P' _;have nlc:∀j,¬(FP u.n (W j) lc\/FP u.n (Y j) lc):=λj m=>by
   rcases m with m|m
   ·obtain⟨o,e,_⟩:=(B.run j).bN.fp m;rw[YJ]at e;cases e
   ·obtain⟨o,e,_⟩:=(B.twin j).bN.fp m;rw[YJ]at e;cases e
  have T:(dG (ns.map V.int) (some 8) (some 38)).length<=30:=Ky (i:=8) (j:=38);have hci:∀c∈dG (ns.map V.int) (some 8) (some 38),∃z,c=.int z:=λc hc=>by
   obtain⟨z,_,rfl⟩:=List.mem_map.mp (Bj hc);exact⟨z,rfl⟩
  have LP:Jy lt R lc [.ref J,.ref d1] [.ref y,.ref S] (dG (ns.map V.int) (some 8) (some 38)) (upd H8 lc (.lst (dG (ns.map V.int) (some 8) (some 38)))):=⟨YK _ _ Xp,YK _ _ elr,ab⟩
  generalize hG9:upd H8 lc (.lst (dG (ns.map V.int) (some 8) (some 38)))=G9 at *;generalize IS:dG (ns.map V.int) (some 8) (some 38)=cs at *;clear B YK YJ hG9 IS sq8 elr Xp hS Wb;refine .inl ⟨⟨_,aP.of LP.lc⟩,eU (K:=K) (xs:=cs) (λi σ H'=>(∃z6 z7 z8 I M,σ=[some (V.ref a),some v,some (V.int (u.ms.length:Nat)),some (V.ref n),some (V.ref lt),some (V.ref R),z6,z7,z8,I,M])/\Jy lt R lc [.ref J,.ref d1] [.ref y,.ref S] cs H'/\∃r L,oA C CN CR H' n v u ls ms wv lv X Rf W Y r L (λ_=>i)) ?_ ?_ ?_ ?_⟩
  ·exact⟨⟨_,_,_,_,_,rfl⟩,LP,_,_,hQ9⟩
  ·rintro i σ H' hi ⟨_,N,_⟩;exact aP.of N.lc
  ·intro i c σ Hq hc ir;nofun;obtain⟨⟨z6,z7,z8,I,M,rfl⟩,N,r,L,B⟩:=ir;clear h6 hQ9 LP;have T:i < 30:=by have:=(List.getElem?_eq_some_iff.mp hc).1;lia
   obtain⟨cz,rfl⟩:=hci c (aad hc);ac_rfl;refine⟨_,rfl,∅,∅,jf (n:=2) (λkk σ H'=>(∃z7 z8 I M,σ=[some (V.ref a),some v,some (V.int (u.ms.length:Nat)),some (V.ref n),some (V.ref lt),some (V.ref R),some (V.int cz),z7,z8,I,M])/\Jy lt R lc [.ref J,.ref d1] [.ref y,.ref S] cs H'/\∃r L,oA C CN CR H' n v u ls ms wv lv X Rf W Y r L (λj=>i+if j.toNat<kk then 1 else 0)) ?_ ?_ ?_⟩
   ·exact⟨⟨_,_,_,_,rfl⟩,N,r,L,B.same (aq.refl _) λj=>by simp⟩
   ·clear B N r L;intro kk σ H' hkk iu;nofun;obtain⟨⟨z7,z8,I,M,rfl⟩,N,r,L,B⟩:=iu;obtain⟨j,rfl⟩:∃j:Bool,kk=j.toNat:=by
     have:kk=0\/kk=1:=by lia
     rcases this with e|e
     ·exact⟨false,e⟩
     ·exact⟨true,e⟩
    ac_rfl;rw[Int.zero_add];show vh _ _ _ _ _ _;refine L2.qN λT0 U0 hT hU=>?_;walk_at "j";refine bt N.lt (atT j) ?_;refine bt N.lr (atR j) ?_;refine gI ⟨∅,⋯⟩ mL (λp hp=>?_);have sp:=aq.new (.lst [.int cz,.int (cz/160)]) hp;have ep:upd H' p (.lst [.int cz,.int (cz/160)]) p=some (.lst [.int cz,.int (cz/160)]):=ab;have LQ:=B.same (N':=λj=>i+if j.toNat<_ then 1 else 0) sp λ_=>P' _;have Xq:=N.same sp;generalize hGp:upd H' p (.lst [.int cz,.int (cz/160)])=Gp at *;refine⟨_,.int (bif j then cz/160 else cz),.inl (aP.of ep),by cases j<;>exact ax rfl,⟨∅,⋯⟩,∅,?_⟩;have fin:∀G,Jy lt R lc [.ref J,.ref d1] [.ref y,.ref S] cs G->(∃r L,oA C CN CR G n v u ls ms wv lv X Rf W Y r L (λj'=>i+if j'.toNat<j.toNat+1 then 1 else 0))->U0 [some (V.ref a),some v,some (V.int (u.ms.length:Nat)),some (V.ref n),some (V.ref lt),some (V.ref R),some (V.int cz),some (V.int (j.toNat:Nat)),z8,I,M] G:=λG e1 e2=>by
     calc L2.cH hU ?_;exact⟨⟨_,_,_,_,rfl⟩,e1,e2⟩
    clear hT hU B N sp ep hp;refine⟨FR u W Y j,FT u W Y j,Rf j,X j,n,v,u,r j,W j,Y j,L j,_,_,rfl,LQ.run j,LQ.twin j,λb z=>.inl z,λb z=>.inl z,LQ.BX j,LQ.fsT j,LQ.ok j,LQ.lk j,?_,λG s=>?_,λG w k oy f hR' hT'=>?_⟩
    ·have:=LQ.OE j;rw[if_neg (Nat.lt_irrefl _)]at this;lia
    ·exact fin G (Xq.same s) ⟨r,L,LQ.same s λj'=>by split<;>split<;>lia⟩
    ·exact fin G (Xq.fr f (nlt j) (nlr j) (nlc j)) (LQ.step Jw j oy f hR' hT' (by rw[if_neg (Nat.lt_irrefl _),if_pos (Nat.lt_succ_self _)];calc P' _) λj'=>by split<;>split<;>lia)
   ·clear B N r L;intro σ H' nX;obtain⟨⟨z7,z8,I,M,rfl⟩,N,r,L,B⟩:=nX;exact⟨⟨_,_,_,_,_,rfl⟩,N,r,L,B.same (aq.refl _) λj'=>by cases j'<;>simp⟩
  intro σ H6 tM;obtain⟨⟨z6,z7,z8,I,M,rfl⟩,N,r,L,B⟩:=tM;have Co:∀j,(L j).length<=40:=λj=>aab (B.OE j) ();clear LP hQ9;show N6 _ _;calc L2.cH h6 ?_;clear h6;calc L2.cG λN7 h7=>?_;refine⟨_,rfl,∅,∅,jf (n:=2) (λkk σ H'=>(∃z7 z8 I M,σ=[some (V.ref a),some v,some (V.int (u.ms.length:Nat)),some (V.ref n),some (V.ref lt),some (V.ref R),z6,z7,z8,I,M])/\aq H6 H') ?_ ?_ ?_⟩
  ·exact⟨⟨_,_,_,_,rfl⟩,aq.refl _⟩
  ·intro kk σ H' hkk xT;nofun;obtain⟨⟨z7,z8,I,M,rfl⟩,s6⟩:=xT;obtain⟨j,rfl⟩:∃j:Bool,kk=j.toNat:=by
    have:kk=0\/kk=1:=by lia
    rcases this with e|e
    ·exact⟨false,e⟩
    ·exact⟨true,e⟩
   ac_rfl;rw[Int.zero_add];show yT _ _ _ _ _;refine L2.cG λy h8=>?_;walk_at "j";refine bt (s6 _ _ N.lt) (atT j) ?_;refine⟨FT u W Y j,Rf j,v,u,r j,Y j,L j,rfl,(B.twin j).same s6,B.ok j,B.lk j,Co j,λO kvs y u1 fah eah hA=>?_⟩;refine L2.cH h8 ?_;clear h8;refine L2.cG λN9 h9=>?_;have Ng:∀(i:Nat) k x,kvs[i]?=some (k,x)->∃e:Ev,k=kE e/\e∈(L j).map (·.1):=λi k x e=>by
    have e1:(kvs.map (·.1))[i]?=some k:=by rw[List.getElem?_map,e];rfl
    rw[hA.keys,(B.lk j).good.all.2.1,List.getElem?_map]at e1;obtain⟨y,S,T⟩:=Option.map_eq_some_iff.mp e1;exact⟨y,T.symm,aad S⟩
   refine⟨O,kvs,rfl,eah,λob=>xI (a:=O) (kvs:=kvs) (o:=ob) (λi σ G=>(∃I M,σ=[some (V.ref a),some v,some (V.int (u.ms.length:Nat)),some (V.ref n),some (V.ref lt),some (V.ref R),z6,some (V.int (j.toNat:Nat)),some (V.ref O),I,M])/\aq H' G/\G O=some (.lD ob (.dT kvs))/\jw G O kvs (cp (L j))) ?_ ?_ ?_ ?_⟩
   ·exact⟨⟨_,_,rfl⟩,λb o e=>by rw[av (ao e fah)];calc u1 _ _ e,ab,hA.keep λb ks nb e=>by rw[av nb];calc e⟩
   ·rintro i σ G ⟨_,_,e,_⟩;exact e
   ·intro i k x b σ G hk xU m;nofun;obtain⟨⟨I,M,rfl⟩,sG,eG,Nd⟩:=xU;obtain⟨e,rfl,tK⟩:=Ng i k x hk;ac_rfl;show vh _ _ _ _ _ _;refine L2.qN λT0 U0 hT hU=>?_;walk_at "j";refine bt (sG _ _ (s6 _ _ N.lr)) (atR j) ?_;refine⟨FR u W Y j,X j,n,u,r j,W j,L j,O,b,kvs,e.1,e.2,rfl,((B.run j).same s6).same sG,B.ok j,B.lk j,Co j,.inr ⟨ob,eG⟩,Nd,m,tK,λG2 u2=>?_⟩;refine L2.cH hU ?_;exact⟨⟨_,_,rfl⟩,sG.trans u2,u2 _ _ eG,Nd.same u2⟩
   ·intro σ G GD;obtain⟨⟨I,M,rfl⟩,sG,eG,Nd⟩:=GD;calc⟨O,ob,.dT kvs,(λo' u' z=>by rw[eah] at z;cases z),eG,(λo' u' z=>nomatch z),?_⟩;show N9 _ _;calc L2.cH h9 ?_;clear h9;have sE:aq H' (upd G O (.dT kvs)):=λb o e=>by rw[av (ao e fah)];exact sG _ _ e
    have eE:upd G O (.dT kvs) O=some (.dT kvs):=ab;have hAE:jw (upd G O (.dT kvs)) O kvs (cp (L j)):=Nd.keep λb ks nb e=>by rw[av nb];exact e
    generalize upd G O (.dT kvs)=G3 at *;clear Nd eG sG hA eah u1;calc L2.cG λk Mx=>?_;have Sv:=((B.twin j).same s6).same sE;nofun;obtain⟨o',hd,k,o,oF⟩:=Sv.dk;obtain⟨v0,e0,J⟩:=Sv.bN.lst (t:=0) (i:=0) (by show 0 < 1;decide) rfl;ac_rfl;walk_at "j";have Xr:gw G3 1 v0 ((r j).picks.map pairD):=⟨J.1,λi v d hv hd=>by
     rw[List.getElem?_map] at hd;obtain⟨p,hp,rfl⟩:=Option.map_eq_some_iff.mp hd;calc uU (e:=some p) ((J.2 i v _ hv (show((r j).picks.map pairD)[i]?=_ by rw[List.getElem?_map,hp];rfl)).cv dJ)⟩
    calc bt (sE _ _ (s6 _ _ N.lt)) (atT j) ⟨_,QH hd,?_⟩;calc bI v0 (.inl (aP.of e0)) (λl hl=>?_);have sl:=aq.new (.lst v0) hl;have el:upd G3 l (.lst v0) l=some (.lst v0):=ab;have hN3:=B.ba.fr (Z:=λ_=>False) (s6.trans (sE.trans sl)).fr;have bx:=Xr.aG sl.aM;have sE4:=sE.trans sl;have acU:=hAE.same sl;have eE4:=sl _ _ eE;generalize RJ:upd G3 l (.lst v0)=G4 at *;clear Sv hd oF e0 J Xr sl hl sE hAE eE RJ;have k:(r j).picks.length<=100:=by rw[<-(B.lk j).len];exact aab (Co j) ∅
    refine⟨λ_=>False,n,l,u,ls,ms,wv,lv,v0,(r j).picks,rfl,hN3.na,hN3.nf,hN3.nl,g.QL,LK,el,bx,k,λb m=>m.elim,B.YH j,λxx ad2 G5 g k l hR5=>?_⟩
    ·rw[<-B.pl j]at hR5;calc L2.cH Mx ?_;clear Mx;have eE5:=g _ _ eE4;have acV:=acU.same g;have sE5:=sE4.trans g;calc cM O kvs rfl (.inl eE5) (λlk bs k l Uu=>?_);have u6:=aq.new (.lst bs) k;have elk:upd G5 lk (.lst bs) lk=some (.lst bs):=ab;have acW:∀x∈bs,∃b e,x=.ref b/\upd G5 lk (.lst bs) b=some (.tup [.int e.1,.int e.2])/\e∈(L j).map (·.1):=λx hx=>by
      nofun;obtain⟨i,hi⟩:=List.mem_iff_getElem?.mp hx;have qz:i<kvs.length:=by rw[<-l];exact(List.getElem?_eq_some_iff.mp hi).1
      obtain⟨b,e1,e2⟩:=Uu i _ _ (cy qz);rw[hi]at e1;obtain rfl:=Option.some.inj e1;obtain⟨e,g,tK⟩:=Ng i _ _ (cy qz);ac_rfl;rw[g]at e2;exact⟨b,e,rfl,u6 _ _ e2,tK⟩
     have sE6:=sE5.trans u6;have eE6:=u6 _ _ eE5;have acX:=acV.same u6;have hR6:=hR5.same u6;generalize Mv:upd G5 lk (.lst bs)=G6 at *;calc⟨2,rfl,-2,rfl,.inl ⟨bs,elk,λl2 g=>?_⟩⟩;have u7:=aq.new (.lst (dG bs (some (-2)) none)) g;have Vr:upd G6 l2 (.lst (dG bs (some (-2)) none)) l2=some (.lst (dG bs (some (-2)) none)):=ab;have Fh:∀x∈dG bs (some (-2)) none,x∈bs:=λx hx=>Bj hx;generalize dG bs (some (-2)) none=cs2 at *;generalize Vs:upd G6 l2 (.lst cs2)=G7 at *;refine .inl ⟨⟨_,aP.of Vr⟩,eU (K:=K) (xs:=cs2) (λi σ G=>(∃I,σ=[some (V.ref a),some v,some (V.int (u.ms.length:Nat)),some (V.ref n),some (V.ref lt),some (V.ref R),z6,some (V.int (j.toNat:Nat)),some (V.ref O),I,some (V.ref xx)])/\aq G7 G) ?_ ?_ ?_ ?_⟩
     ·exact⟨⟨_,rfl⟩,aq.refl _⟩
     ·rintro i σ G hi ⟨_,sG⟩;exact aP.of (sG _ _ Vr)
     ·intro i x σ G hx K6;nofun;obtain⟨⟨I,rfl⟩,sG⟩:=K6;obtain⟨b,e,rfl,m,tK⟩:=acW x (Fh x (aad hx));ac_rfl;have s7:=u7.trans sG;show vh _ _ _ _ _ _;refine L2.qN λT0 U0 hT hU=>?_;walk_at "j";refine⟨λ_=>False,xx,n,u,r j,ad2,L j,O,b,kvs,e.1,e.2,rfl,hR6.same s7,B.ok j,B.lk j,Co j,.inl (s7 _ _ eE6),acX.same s7,s7 _ _ m,tK,λG2 u2=>?_⟩;refine L2.cH hU ?_;exact⟨⟨_,rfl⟩,sG.trans u2⟩
     ·intro σ G K8;obtain⟨⟨I,rfl⟩,sG⟩:=K8;exact⟨⟨_,_,_,_,rfl⟩,s6.trans (sE6.trans (u7.trans sG))⟩
  ·intro σ H' zq9;obtain⟨⟨z7,z8,I,M,rfl⟩,s6⟩:=zq9;show N7 _ _;refine L2.cH h7 ?_;walk_at "j";exact q _
end
end Gk
namespace Gk
open PySem L2 DD
variable {p0 p1:Str}
def FnAt(K:W.Frag)(f:Addr)(x q:Str)(a:Stmt):Prop:=∃c d e g kV h i b ct,K.lookup f=some ⟨g,c,.func (W.fnOf x q (ee a) (cW a) (ay a) .none kV h i d b ct),e⟩/\W.codeIn K b q=true/\W.keepIn K (.ref f)=true
def DF(K:W.Frag)(x:Str)(a:Stmt):Prop:=∃f,W.nsIn K mainGlobals x=some (some (.ref f))/\FnAt K f x x a
def MF(K:W.Frag)(C:Addr)(m q:Str)(a:Stmt):Prop:=∃f,W.findIn K (.ref C) m=some (some (.ref f))/\W.isFn K (.ref f)=true/\FnAt K f m q a
def Nh(x q:Str)(a:Stmt)(c:List Str):Prop:=∀(kV b d:Value) (e:Option Addr) (f ct:Value) (us:List Value),us.length=c.length->bindArgs (W.fnOf x q (ee a) (cW a) (ay a) .none kV b d e f ct) ⟨us,[]⟩=pure (c.zip us)
section
variable {K:W.Frag}{h:Heap}{mg:Str->Option Value}{x m q:Str}{C f:Addr}{st:Stmt}{ps:List Str}{od an:Option Addr}{sl:Array (Option Value)}{oc kV dc pm cd ct:Value}
theorem Ni(a:W.nsIn K mainGlobals x=some (some (.ref f)))(l:K.lookup f=some ⟨oc,od,.func (W.fnOf x x (ee st) (cW st) (ay st) .none kV dc pm an cd ct),sl⟩)(c:W.codeIn K cd x=true)(k:W.keepIn K (.ref f)=true):DF K x st:=⟨f,a,_,_,_,_,_,_,_,_,_,l,c,k⟩
theorem Nj(a:W.findIn K (.ref C) m=some (some (.ref f)))(i:W.isFn K (.ref f)=true)(l:K.lookup f=some ⟨oc,od,.func (W.fnOf m q (ee st) (cW st) (ay st) .none kV dc pm an cd ct),sl⟩)(c:W.codeIn K cd q=true)(k:W.keepIn K (.ref f)=true):MF K C m q st:=⟨f,a,i,_,_,_,_,_,_,_,_,_,l,c,k⟩
theorem aV(X:K.In h)(G:h.Ns mainGlobals mg)(d:DF K x st)(b:Nh x x st ps):cZ K mg x x st ps:=by
 obtain⟨f,a,_,_,_,_,_,_,_,_,_,l,c,k⟩:=d;calc⟨_,_,l8 l c k,W.mg_of X G a,(l8 l c k).binds b⟩
theorem cu(d:MF K C m q st)(b:Nh m q st ps):gG K C m q st ps:=by
 obtain⟨f,a,i,_,_,_,_,_,_,_,_,_,l,c,k⟩:=d;calc⟨_,_,⟨a,i,k⟩,l8 l c k,(l8 l c k).binds b⟩
theorem wt(X:K.In h)(G:h.Ns mainGlobals mg)(e:W.makesIn K C=true)(g:W.keepIn K (.ref C)=true)(d:MF K C "__init__" q st)(j:W.nsIn K mainGlobals x=some (some (.ref C)))(b:Nh "__init__" q st ps):Dd K mg x C q st ps:=by
 obtain⟨f,a,i,_,_,_,_,_,_,_,_,_,l,c,k⟩:=d;calc⟨⟨_,_,⟨e,a,i,g⟩,l8 l c k,(l8 l c k).binds b⟩,W.mg_of X G j⟩
theorem mT{us:List Value}{n:Nat}(h:us.length=n+1):∃x r,us=x::r/\r.length=n:=by
 cases us with
 |nil=>cases h
 |cons x r=>calc⟨x,r,rfl,Nat.succ.inj h⟩
theorem j9(e:∀(kV a pm:Value) (an:Option Addr) (c ct b:Value),bindArgs (W.fnOf x q (ee st) (cW st) (ay st) .none kV a pm an c ct) ⟨[b],[]⟩=pure ([p0].zip [b])):Nh x q st [p0]:=λkV a pm an c ct g d=>by
 obtain⟨b,h,rfl,f⟩:=mT d
 cases List.length_eq_zero_iff.mp f;calc e ..
theorem kb(e:∀(kV a pm:Value) (an:Option Addr) (d ct b c:Value),bindArgs (W.fnOf x q (ee st) (cW st) (ay st) .none kV a pm an d ct) ⟨[b,c],[]⟩=pure ([p0,p1].zip [b,c])):Nh x q st [p0,p1]:=λkV a pm an d ct i f=>by
 obtain⟨b,j,rfl,g⟩:=mT f;obtain⟨c,k,rfl,h⟩:=mT g
 cases List.length_eq_zero_iff.mp h;calc e ..
theorem oB{f:Str}(e:∀(kV a pm:Value) (an:Option Addr) (g ct b c d:Value),bindArgs (W.fnOf x q (ee st) (cW st) (ay st) .none kV a pm an g ct) ⟨[b,c,d],[]⟩=pure ([p0,p1,f].zip [b,c,d])):Nh x q st [p0,p1,f]:=λkV a pm an g ct f h=>by
 obtain⟨b,l,rfl,i⟩:=mT h;obtain⟨c,m,rfl,j⟩:=mT i;obtain⟨d,n,rfl,k⟩:=mT j
 cases List.length_eq_zero_iff.mp k;calc e ..
theorem qD{g h:Str}(e:∀(kV a pm:Value) (an:Option Addr) (i ct b c d f:Value),bindArgs (W.fnOf x q (ee st) (cW st) (ay st) .none kV a pm an i ct) ⟨[b,c,d,f],[]⟩=pure ([p0,p1,g,h].zip [b,c,d,f])):Nh x q st [p0,p1,g,h]:=λkV a pm an i ct g j=>by
 obtain⟨b,o,rfl,k⟩:=mT j;obtain⟨c,p,rfl,l⟩:=mT k;obtain⟨d,r,rfl,m⟩:=mT l;obtain⟨f,s,rfl,n⟩:=mT m
 cases List.length_eq_zero_iff.mp n;calc e ..
theorem LR{h i j:Str}(e:∀(kV a pm:Value) (an:Option Addr) (k ct b c d f g:Value),bindArgs (W.fnOf x q (ee st) (cW st) (ay st) .none kV a pm an k ct) ⟨[b,c,d,f,g],[]⟩=pure ([p0,p1,h,i,j].zip [b,c,d,f,g])):Nh x q st [p0,p1,h,i,j]:=λkV a pm an k ct h l=>by
 obtain⟨b,s,rfl,m⟩:=mT l;obtain⟨c,t,rfl,n⟩:=mT m;obtain⟨d,u,rfl,o⟩:=mT n;obtain⟨f,v,rfl,p⟩:=mT o;obtain⟨g,w,rfl,r⟩:=mT p
 cases List.length_eq_zero_iff.mp r;calc e ..
end
theorem all_mk{l:W.OpenLaw}{w:World}{K:W.Frag}{h:Heap}{o:Str->Option Value}{fa C a CR F:Addr}(X:K.In h)(G:h.Ns mainGlobals o)(Su:o "law"=some (.ref fa))
  (oC:W.nsIn K mainGlobals "Machine"=some (some (.ref C))) (LS:W.nsIn K mainGlobals "Net"=some (some (.ref a))) (LU:W.nsIn K mainGlobals "Run"=some (some (.ref CR))) (kZ:DF K "_law_ahead" kX) (k6:DF K "_law_begun" kS) (sX:DF K "_law_at" r6) (k7:DF K "_law_digit" kB) (k8:DF K "_law_value" kF) (mU:DF K "_law_deed" mx) (i3:DF K "_law_machine" iO) (pT:DF K "_law_pot" o8) (pU:DF K "_law_net" pL) (pV:DF K "form_of" pd) (mV:DF K "is_whole" mj) (k9:DF K "is_within" ky) (mW:DF K "is_value" ml) (pW:DF K "is_part" pf) (pX:DF K "is_deed" ph) (ic:DF K "refuse_deeds" gQ) (pY:DF K "is_list" pb) (i4:DF K "are_counted" iM) (fZ:DF K "refuse_machine" fS) (pZ:MF K C "__init__" "Machine.__init__" pC) (lg:DF K "is_letter" kC) (sY:DF K "is_way" sh) (jU:DF K "refuse_net" jJ) (Ik:MF K a "__init__" "Net.__init__" GU) (ie:DF K "_law_net_made" hX) (p5:DF K "_law_due" pO) (p6:DF K "_law_int" pP) (ig:MF K a "machines" "Net.machines" gV) (p7:MF K CR "net" "Run.net" pI) (ij:MF K CR "schedule" "Run.schedule" g9) (ik:MF K CR "need_way" "Run.need_way" gX) (fJ:MF K CR "need_letter" "Run.need_letter" fH) (i5:MF K CR "sent_by" "Run.sent_by" iY) (gD:MF K CR "worked_by" "Run.worked_by" gB) (lj:DF K "all_heard" kU) (fg:MF K CR "need_machine" "Run.need_machine" fc) (lp:MF K CR "count" "Run.count" kN) (jV:DF K "need_event" jR) (mX:DF K "heard_of" mM) (lu:DF K "_law_right" kY) (lx:DF K "_law_lying" kQ) (mY:DF K "_law_free" mI) (ly:DF K "_law_worth" kJ) (jW:DF K "_law_worked" jN) (mZ:DF K "_law_pick" mJ) (gb:DF K "change_numbers" fU) (jX:DF K "change_row" jK) (m7:DF K "left_out" mB) (lA:DF K "values_of" kH) (i8:DF K "plain_worth" iP) (m9:DF K "worth_of" mz) (gc:MF K C "worked" "Machine.worked" fV) (nc:MF K a "ways" "Net.ways" mE) (i9:MF K a "ways_at" "Net.ways_at" iS) (ja:MF K a "ways_in" "Net.ways_in" iT) (il:MF K a "ways_out" "Net.ways_out" gW) (gE:MF K CR "need_pick" "Run.need_pick" gy) (gf:MF K CR "put_letter" "Run.put_letter" fX) (lB:MF K CR "state" "Run.state" kM) (jb:MF K CR "pick_at" "Run.pick_at" iU) (ng:MF K CR "pick" "Run.pick" mG) (nh:DF K "_law_went" mO) (d7:MF K C "first_state" "Machine.first_state" dY) (jc:MF K a "letters" "Net.letters" iR) (Il:MF K CR "__init__" "Run.__init__" Hh) (jY:DF K "played_run" jQ) (Im:DF K "law" vc) (p8:W.plainGet K C Str.empty=true) (p9:W.hasDictIn K C=true) (qa:W.plainOver K C=true) (qb:W.findIn K (.ref C) "__setattr__"=some (some (.builtin "object.__setattr__"))) (qc:W.makesIn K C=true) (qd:W.keepIn K (.ref C)=true) (Dq:W.findIn K (.ref C) "__class__"=some (some (.builtin "object.__class__"))) (Dr:W.mroIn K C (.type "object")=some true) (Mq:W.findIn K (.ref C) "own_modulus"=some none) (Pt:W.findIn K (.ref C) "own_state"=some none) (Mr:W.findIn K (.ref C) "own_deeds"=some none) (Io:W.plainGet K a Str.empty=true) (Ip:W.hasDictIn K a=true) (Iq:W.plainOver K a=true) (Ir:W.findIn K (.ref a) "__setattr__"=some (some (.builtin "object.__setattr__"))) (Iu:W.makesIn K a=true) (Iv:W.keepIn K (.ref a)=true) (Gn:W.findIn K (.ref a) "__class__"=some (some (.builtin "object.__class__"))) (Gq:W.mroIn K a (.type "object")=some true) (xN:W.findIn K (.ref a) "own_machines"=some none) (xO:W.findIn K (.ref a) "own_ways"=some none) (zQ:W.findIn K (.ref a) "own_letters"=some none) (Iw:W.plainGet K CR Str.empty=true) (Iy:W.hasDictIn K CR=true) (Iz:W.plainOver K CR=true) (IA:W.findIn K (.ref CR) "__setattr__"=some (some (.builtin "object.__setattr__"))) (IB:W.makesIn K CR=true) (IC:W.keepIn K (.ref CR)=true) (Gr:W.findIn K (.ref CR) "__class__"=some (some (.builtin "object.__class__"))) (Gs:W.mroIn K CR (.type "object")=some true) (cE:W.findIn K (.ref CR) "own_net"=some none) (cJ:W.findIn K (.ref CR) "picks_done"=some none) (bU:W.findIn K (.ref CR) "states_had"=some none) (dO:W.findIn K (.ref CR) "words_had"=some none) (cK:W.findIn K (.ref CR) "words_said"=some none) (bV:W.findIn K (.ref CR) "letters_say"=some none) (eN:W.findIn K (.ref CR) "senders"=some none) (cT:W.findIn K (.ref CR) "workers"=some none) (Ds:W.specialIn K (.builtin "object.__class__") "__get__"=some (some (.builtin "getset_descriptor.__get__"))) (uJ:W.takesIn K (.builtin "object.__class__")=some true)
  (jZ:W.nsIn K mainGlobals "isinstance"=some none) (ID:W.nsIn K mainGlobals "int"=some none) (Ar:W.nsIn K mainGlobals "bool"=some none) (IE:W.nsIn K mainGlobals "str"=some none) (wu:W.nsIn K mainGlobals "tuple"=some none) (As:W.nsIn K mainGlobals "list"=some none) (IF:W.nsIn K mainGlobals "len"=some none) (wx:W.nsIn K mainGlobals "range"=some none) (IG:W.nsIn K mainGlobals "min"=some none) (IH:W.nsIn K mainGlobals "max"=some none) (II:W.nsIn K mainGlobals "all"=some none) (IJ:W.nsIn K mainGlobals "any"=some none) (IK:W.nsIn K mainGlobals "zip"=some none) (lC:W.nsIn K mainGlobals "enumerate"=some none) (j0:W.nsIn K mainGlobals "ValueError"=some none) {p:Tok} (dM:W.nsIn K mainGlobals "MOST_DEEDS"=some (some (.int 24 p))) {q:Tok} (dB:W.nsIn K mainGlobals "MOST_MODULUS"=some (some (.int 1000000000000 q))) {r:Tok} (dC:W.nsIn K mainGlobals "MOST_NUMBERS"=some (some (.int 4 r))) {t:Tok} (fb:W.nsIn K mainGlobals "MOST_ROW"=some (some (.int 12 t))) {u:Tok} (c9:W.nsIn K mainGlobals "MOST_MACHINES"=some (some (.int 5 u))) {x:Tok} (fq:W.nsIn K mainGlobals "MOST_WAYS"=some (some (.int 10 x))) {y:Tok} (dD:W.nsIn K mainGlobals "MOST_LETTERS"=some (some (.int 20 y))) {z:Tok} (dN:W.nsIn K mainGlobals "SAID_BOUND"=some (some (.int 1000000000000000000000000000000000000000000000000000000000000 z)))
  {p q r t u x y z:Int} {B I J L M N O R:Tok} {b c g i j k m n:Addr} {S:Nat}
  (aF:W.nsIn K mainGlobals "FORMS"=some (some (.ref F))) (lF:K.lookup F=some {cls:=.type "dict",dict:=none,data:=.dict #[⟨p,.str "set" B,.ref b⟩,⟨q,.str "add" I,.ref c⟩,⟨r,.str "times" J,.ref g⟩,⟨t,.str "put" L,.ref i⟩,⟨u,.str "drop" M,.ref j⟩,⟨x,.str "send" N,.ref k⟩,⟨y,.str "say" O,.ref m⟩,⟨z,.str "skip" R,.ref n⟩] S,slots:=#[]}) (S:(F==sysModules)=false) {Nk Nl:Tok} {U:Option Addr} {Y:Nat} {Z:Array (Option Value)} (lP0:K.lookup b=some ⟨.type "tuple",U,.seq #[.str "number" Nk,.str "value" Nl] Y,Z⟩) {Nm Np:Tok} {fo1:Option Addr} {fn1:Nat} {fs1:Array (Option Value)} (lP1:K.lookup c=some ⟨.type "tuple",fo1,.seq #[.str "number" Nm,.str "value" Np] fn1,fs1⟩) {Nq Nr:Tok} {fo2:Option Addr} {fn2:Nat} {fs2:Array (Option Value)} (lP2:K.lookup g=some ⟨.type "tuple",fo2,.seq #[.str "number" Nq,.str "value" Nr] fn2,fs2⟩) {Nt:Tok} {fo3:Option Addr} {fn3:Nat} {fs3:Array (Option Value)} (lP3:K.lookup i=some ⟨.type "tuple",fo3,.seq #[.str "value" Nt] fn3,fs3⟩) {fo4:Option Addr} {fn4:Nat} {fs4:Array (Option Value)} (lP4:K.lookup j=some ⟨.type "tuple",fo4,.seq #[] fn4,fs4⟩) {Nu Nv:Tok} {fo5:Option Addr} {fn5:Nat} {fs5:Array (Option Value)} (lP5:K.lookup k=some ⟨.type "tuple",fo5,.seq #[.str "way" Nu,.str "value" Nv] fn5,fs5⟩) {Nw:Tok} {fo6:Option Addr} {fn6:Nat} {fs6:Array (Option Value)} (lP6:K.lookup m=some ⟨.type "tuple",fo6,.seq #[.str "value" Nw] fn6,fs6⟩) {Nx Ny Nz:Tok} {fo7:Option Addr} {fn7:Nat} {fs7:Array (Option Value)} (lP7:K.lookup n=some ⟨.type "tuple",fo7,.seq #[.str "value" Nx,.str "value" Ny,.str "many" Nz] fn7,fs7⟩)
  :∃U:FuncData,(∀(s:Shared) (v:Value),BindsTo s U ⟨[v],[]⟩ [("_law_script",v)])/\∀base:Heap,K.In base->base.Ns mainGlobals o->lK l.prog w K o base CV 10 fa U ["_law_script"] (wq K):=by
 have FR:PyProof.Rows.KTD.Rows RelV (#[⟨p,.str "set" B,.ref b⟩,⟨q,.str "add" I,.ref c⟩,⟨r,.str "times" J,.ref g⟩,⟨t,.str "put" L,.ref i⟩,⟨u,.str "drop" M,.ref j⟩,⟨x,.str "send" N,.ref k⟩,⟨y,.str "say" O,.ref m⟩,⟨z,.str "skip" R,.ref n⟩]:Array DictEntry).toList ([("set",V.ref b),("add",V.ref c),("times",V.ref g),("put",V.ref i),("drop",V.ref j),("send",V.ref k),("say",V.ref m),("skip",V.ref n)]:List (Str×V)):=.cons rfl rfl (.cons rfl rfl (.cons rfl rfl (.cons rfl rfl (.cons rfl rfl (.cons rfl rfl (.cons rfl rfl (.cons rfl rfl (.nil))))))));have T:Tx K o C a CR F ([("set",V.ref b),("add",V.ref c),("times",V.ref g),("put",V.ref i),("drop",V.ref j),("send",V.ref k),("say",V.ref m),("skip",V.ref n)]:List (Str×V)):={
  bb:=aaj X G jZ
  Bv:=aaj X G ID
  zP:=aaj X G Ar
  Bw:=aaj X G IE
  bX:=aaj X G wu
  dX:=aaj X G As
  cm:=aaj X G IF
  eR:=aaj X G wx
  UB:=aaj X G IG
  Gm:=aaj X G IH
  uG:=aaj X G II
  UC:=aaj X G IJ
  Bx:=aaj X G IK
  dE:=aaj X G lC
  vQ:=aaj X G j0
  dM:=⟨_,W.mg_of X G dM⟩
  dB:=⟨_,W.mg_of X G dB⟩
  dC:=⟨_,W.mg_of X G dC⟩
  fb:=⟨_,W.mg_of X G fb⟩
  c9:=⟨_,W.mg_of X G c9⟩
  fq:=⟨_,W.mg_of X G fq⟩
  dD:=⟨_,W.mg_of X G dD⟩
  dN:=⟨_,W.mg_of X G dN⟩
  cC:=⟨p8,p9,qa,qb⟩
  uH:=W.mg_of X G oC
  Dq:=Dq
  Dr:=Dr
  Mq:=Mq
  Pt:=Pt
  Mr:=Mr
  cD:=⟨Io,Ip,Iq,Ir⟩
  UD:=W.mg_of X G LS
  Gn:=Gn
  Gq:=Gq
  xN:=xN
  xO:=xO
  zQ:=zQ
  aS:=⟨Iw,Iy,Iz,IA⟩
  UE:=W.mg_of X G LU
  Gr:=Gr
  Gs:=Gs
  cE:=cE
  cJ:=cJ
  bU:=bU
  dO:=dO
  cK:=cK
  bV:=bV
  eN:=eN
  cT:=cT
  Ds:=Ds
  uJ:=uJ
  i_k:=by unfold W.kitOne;rw[if_pos nofun]
  By:=W.mg_of X G aF
  Bz:=⟨⟨_,_,_,lF,⟨rfl,rfl,rfl⟩,rfl,FR⟩,S⟩
  Ms:=λd=>by
   cases d with
   |set _ _=>calc⟨b,by kernel_rfl,λH=>.inr ⟨_,_,_,lP0,rfl,rfl,by show 2<=sizeLine;decide,(.cons ⟨Nk,rfl⟩ (.cons ⟨Nl,rfl⟩ .nil))⟩⟩
   |add _ _=>calc⟨c,by kernel_rfl,λH=>.inr ⟨_,_,_,lP1,rfl,rfl,by show 2<=sizeLine;decide,(.cons ⟨Nm,rfl⟩ (.cons ⟨Np,rfl⟩ .nil))⟩⟩
   |times _ _=>calc⟨g,by kernel_rfl,λH=>.inr ⟨_,_,_,lP2,rfl,rfl,by show 2<=sizeLine;decide,(.cons ⟨Nq,rfl⟩ (.cons ⟨Nr,rfl⟩ .nil))⟩⟩
   |put _=>calc⟨i,by kernel_rfl,λH=>.inr ⟨_,_,_,lP3,rfl,rfl,by show 1<=sizeLine;decide,(.cons ⟨Nt,rfl⟩ .nil)⟩⟩
   |drop=>calc⟨j,by kernel_rfl,λH=>.inr ⟨_,_,_,lP4,rfl,rfl,by show 0<=sizeLine;decide,.nil⟩⟩
   |send _ _=>calc⟨k,by kernel_rfl,λH=>.inr ⟨_,_,_,lP5,rfl,rfl,by show 2<=sizeLine;decide,(.cons ⟨Nu,rfl⟩ (.cons ⟨Nv,rfl⟩ .nil))⟩⟩
   |say _=>calc⟨m,by kernel_rfl,λH=>.inr ⟨_,_,_,lP6,rfl,rfl,by show 1<=sizeLine;decide,(.cons ⟨Nw,rfl⟩ .nil)⟩⟩
   |skip _ _ _=>exact⟨n,by kernel_rfl,λH=>.inr ⟨_,_,_,lP7,rfl,rfl,by show 3<=sizeLine;decide,(.cons ⟨Nx,rfl⟩ (.cons ⟨Ny,rfl⟩ (.cons ⟨Nz,rfl⟩ .nil)))⟩⟩
 }
 obtain⟨f,a,b,an,c,d,kV,dc,pm,cd,ct,ll,lc,lk⟩:=Im;have e:=Su.symm.trans (W.mg_of X G a)
 cases e;refine⟨W.fnOf "law" "law" (ee vc) (cW vc) (ay vc) .none kV dc pm an cd ct,λs v=>.of_eq rfl,λbase _ _=>?_⟩;have e:=yG (P:=l.prog) (w:=w) (base:=base) (aV X G kZ (j9 λ_ _ _ _ _ _ _=>rfl)) T;have k:=yz (P:=l.prog) (w:=w) (base:=base) (aV X G k6 (j9 λ_ _ _ _ _ _ _=>rfl)) T;have b:=Gv (P:=l.prog) (w:=w) (base:=base) (aV X G sX (kb λ_ _ _ _ _ _ _ _=>rfl)) T;have a:=xR (P:=l.prog) (w:=w) (base:=base) (aV X G k7 (kb λ_ _ _ _ _ _ _ _=>rfl)) T;have c:=x8 (aV X G k8 (kb λ_ _ _ _ _ _ _ _=>rfl)) T a;have d:=zW (aV X G mU (kb λ_ _ _ _ _ _ _ _=>rfl)) T a c;have g:=tO (aV X G i3 (j9 λ_ _ _ _ _ _ _=>rfl)) T d a;have c:=Dt (P:=l.prog) (w:=w) (base:=base) (aV X G pT (j9 λ_ _ _ _ _ _ _=>rfl)) T;have m:=D0 (aV X G pU (j9 λ_ _ _ _ _ _ _=>rfl)) T b a g c;have d:=Dv (P:=l.prog) (w:=w) (base:=base) (aV X G pV (j9 λ_ _ _ _ _ _ _=>rfl)) T;have b:=zR (P:=l.prog) (w:=w) (base:=base) (aV X G mV (j9 λ_ _ _ _ _ _ _=>rfl)) T;have a:=xQ (aV X G k9 (oB λ_ _ _ _ _ _ _ _ _=>rfl)) T b;have c:=zT (aV X G mW (kb λ_ _ _ _ _ _ _ _=>rfl)) T b a;have g:=Dw (aV X G pW (oB λ_ _ _ _ _ _ _ _ _=>rfl)) T c b a;have i:=Dx (aV X G pX (kb λ_ _ _ _ _ _ _ _=>rfl)) T d g;have c:=se (aV X G ic (kb λ_ _ _ _ _ _ _ _=>rfl)) T i;have b:=Du (P:=l.prog) (w:=w) (base:=base) (aV X G pY (oB λ_ _ _ _ _ _ _ _ _=>rfl)) T;have d:=tL (aV X G i4 (qD λ_ _ _ _ _ _ _ _ _ _=>rfl)) T b a;have g:=pw (aV X G fZ (qD λ_ _ _ _ _ _ _ _ _ _=>rfl)) T d a;have i:=Dz (wt X G qc qd pZ oC (LR λ_ _ _ _ _ _ _ _ _ _ _=>rfl)) T c g;have d:=xY (aV X G lg (kb λ_ _ _ _ _ _ _ _=>rfl)) T a;have c:=GB (aV X G sY (kb λ_ _ _ _ _ _ _ _=>rfl)) T a;have g:=vS (aV X G jU (oB λ_ _ _ _ _ _ _ _ _=>rfl)) T d b c;have j:=Vh (wt X G Iu Iv Ik LS (qD λ_ _ _ _ _ _ _ _ _ _=>rfl)) T g;have n:=sS (aV X G ie (j9 λ_ _ _ _ _ _ _=>rfl)) T i j;have o:=Ee (P:=l.prog) (w:=w) (base:=base) (aV X G p5 (oB λ_ _ _ _ _ _ _ _ _=>rfl)) T;have j:=Ef (P:=l.prog) (w:=w) (base:=base) (aV X G p6 (j9 λ_ _ _ _ _ _ _=>rfl)) T;have b:=su (P:=l.prog) (w:=w) (base:=base) (cu ig (j9 λ_ _ _ _ _ _ _=>rfl)) T;have d:=DP (P:=l.prog) (w:=w) (base:=base) (cu p7 (j9 λ_ _ _ _ _ _ _=>rfl)) T;have i:=sJ (P:=l.prog) (w:=w) (base:=base) (cu ij (j9 λ_ _ _ _ _ _ _=>rfl)) T;have g:=sI (cu ik (oB λ_ _ _ _ _ _ _ _ _=>rfl)) T a;have c:=og (cu fJ (qD λ_ _ _ _ _ _ _ _ _ _=>rfl)) T a g;have p:=t9 (cu i5 (oB λ_ _ _ _ _ _ _ _ _=>rfl)) T c;have q:=qB (cu gD (oB λ_ _ _ _ _ _ _ _ _=>rfl)) T c;have r:=yE (aV X G lj (j9 λ_ _ _ _ _ _ _=>rfl)) T b d i p q;have g:=mF (cu fg (kb λ_ _ _ _ _ _ _ _=>rfl)) T a;have i:=yr (cu lp (kb λ_ _ _ _ _ _ _ _=>rfl)) T g;have p:=wg (aV X G jV (oB λ_ _ _ _ _ _ _ _ _=>rfl)) T a b i d;have q:=Ao (aV X G mX (oB λ_ _ _ _ _ _ _ _ _=>rfl)) T r p;have i:=yH (aV X G lu (qD λ_ _ _ _ _ _ _ _ _ _=>rfl)) T o j q;have d:=yw (P:=l.prog) (w:=w) (base:=base) (aV X G lx (kb λ_ _ _ _ _ _ _ _=>rfl)) T;have o:=Al (aV X G mY (j9 λ_ _ _ _ _ _ _=>rfl)) T d;have j:=yn (P:=l.prog) (w:=w) (base:=base) (aV X G ly (LR λ_ _ _ _ _ _ _ _ _ _ _=>rfl)) T;have d:=vW (aV X G jW (qD λ_ _ _ _ _ _ _ _ _ _=>rfl)) T j;have p:=An (aV X G mZ (oB λ_ _ _ _ _ _ _ _ _=>rfl)) T d;have j:=pD (P:=l.prog) (w:=w) (base:=base) (aV X G gb (qD λ_ _ _ _ _ _ _ _ _ _=>rfl)) T;have q:=vU (P:=l.prog) (w:=w) (base:=base) (aV X G jX (oB λ_ _ _ _ _ _ _ _ _=>rfl)) T;have r:=Aa (P:=l.prog) (w:=w) (base:=base) (aV X G m7 (kb λ_ _ _ _ _ _ _ _=>rfl)) T;have t:=yf (P:=l.prog) (w:=w) (base:=base) (aV X G lA (j9 λ_ _ _ _ _ _ _=>rfl)) T;have d:=tP (P:=l.prog) (w:=w) (base:=base) (aV X G i8 (qD λ_ _ _ _ _ _ _ _ _ _=>rfl)) T;have u:=zY (aV X G m9 (LR λ_ _ _ _ _ _ _ _ _ _ _=>rfl)) T d;have v:=pE (cu gc (qD λ_ _ _ _ _ _ _ _ _ _=>rfl)) T j q r t u;have d:=Ac (P:=l.prog) (w:=w) (base:=base) (cu nc (j9 λ_ _ _ _ _ _ _=>rfl)) T;have j:=tU (cu i9 (oB λ_ _ _ _ _ _ _ _ _=>rfl)) T a;have q:=tX (cu ja (kb λ_ _ _ _ _ _ _ _=>rfl)) T j;have r:=sC (cu il (kb λ_ _ _ _ _ _ _ _=>rfl)) T j;have t:=qA (cu gE (qD λ_ _ _ _ _ _ _ _ _ _=>rfl)) T d c;have a:=pH (P:=l.prog) (w:=w) (base:=base) (cu gf (qD λ_ _ _ _ _ _ _ _ _ _=>rfl)) T;have j:=yq (cu lB (kb λ_ _ _ _ _ _ _ _=>rfl)) T g;have c:=tY (cu jb (qD λ_ _ _ _ _ _ _ _ _ _=>rfl)) T v b d q r t a j;have g:=Ai (cu ng (oB λ_ _ _ _ _ _ _ _ _=>rfl)) T c;have j:=Aq (aV X G nh (LR λ_ _ _ _ _ _ _ _ _ _ _=>rfl)) T e o p i g;have q:=j7 (P:=l.prog) (w:=w) (base:=base) (cu d7 (j9 λ_ _ _ _ _ _ _=>rfl)) T;have o:=tR (P:=l.prog) (w:=w) (base:=base) (cu jc (j9 λ_ _ _ _ _ _ _=>rfl)) T;have g:=VF (wt X G IB IC Il LU (kb λ_ _ _ _ _ _ _ _=>rfl)) T q o b d a;have l:=we (aV X G jY (kb λ_ _ _ _ _ _ _ _=>rfl)) T c g;exact Q9 (l8 ll lc lk) T e k m n i j l g
theorem walk{l:W.OpenLaw}{q:Program}{a:List Str}{g:(Str->Option Value)->Heap->Prop}{c:World->Heap->Prop}{d:DefRec}{K:Params->W.Frag}(i:l.most=some 63)(j:d.params.defaults=[])
  (m:∀(w:World) (h:Heap),c w h->(K w.params).In h)
  (F:∀(w:World) (b:Str->Option Value) (e:Addr) (h:Heap),(K w.params).In h->h.Ns mainGlobals b->b d.name=some (.ref e)->
   ∃f:FuncData,(∀(s:Shared) (u:Value),BindsTo s f ⟨[u],[]⟩ [("_law_script",u)])/\∀base:Heap,(K w.params).In base->base.Ns mainGlobals b->lK l.prog w (K w.params) b base CV 10 e f ["_law_script"] (wq (K w.params))):
  W.WalkO q a g c l.row.toRowW d [] (λf vs=>PySem.call f vs):=
 L2.J8 (n:=63) (k:=10) (x:="_law_script") (CX:=λ_=>CV) (sp:=λw=>wq (K w.params)) i ∅ j ⟨rfl,∅,∅⟩ m F (λ_ _ a b c _ d=>⟨a,b,rfl,d,c,λ_=>rfl⟩) λ_ _ _ _ _ z=>z
end Gk
end
namespace PySem.W.Fast
def tw3693903636281012745:=Nat
def tw3387207838725785899:=Nat
def tw13124147831565253762:=Nat
def tw6470641290728947040:=Nat
def tw8152529653919198256:=Nat
def tw9503485987269140646:=Nat
def tw10408067900085113092:=Nat
def tw1520877950544028569:=Nat
def tw4882136188587460709:=Nat
def tw4225815391292096668:=Nat
def tw11052787884122888008:=Nat
def tw984742861732966660:=Nat
def tw14201203923259518191:=Nat
def tw5676969282159693561:=Nat
def tw13906349407705895415:=Nat
def tw12720803299923277857:=Nat
def tw4444229691368506730:=Nat
def tw4649976396200761355:=Nat
def tw17671253093128033456:=Nat
def tw1137591546055870785:=Nat
def tw8756987255080184108:=Nat
def tw16828189526407868983:=Nat
def tw6976727077893229224:=Nat
def tw2093280052197663843:=Nat
def tw16730464214686622364:=Nat
def tw10541709972044624836:=Nat
def tw154871928785656919:=Nat
def tw12281394775087726984:=Nat
def tw11189419429991152627:=Nat
def tw17288516548173436875:=Nat
def tw17973458921002842587:=Nat
def tw7414905738955170834:=Nat
def tw4797333832698984640:=Nat
def tw1948738907371443616:=Nat
def tw17997342321302191018:=Nat
def tw17228722191727045652:=Nat
def tw15954620084722961928:=Nat
def tw14479316940986207469:=Nat
def tw17391291162326646675:=Nat
def tw168061515751607016:=Nat
def tw378702352425193769:=Nat
def tw16583943281062354065:=Nat
def tw14369004070323121725:=Nat
def tw5726237585793010594:=Nat
def tw1975000555315294929:=Nat
def tw12607018795081158399:=Nat
def tw10371084720368821682:=Nat
def tw18407839583733237176:=Nat
def tw11557145820059706382:=Nat
def tw10119892382133745624:=Nat
def tw11581223402616151835:=Nat
def tw9494004264306812898:=Nat
def tw13300686352235775708:=Nat
def tw8200494480652091166:=Nat
def tw13627892753454115515:=Nat
def tw8702700287004392864:=Nat
def tw9404640595349159414:=Nat
def tw374450706699972415:=Nat
def tw7142749476834786900:=Nat
def tw665801597190974267:=Nat
def tw3932084157010950280:=Nat
def tw17615338194664965396:=Nat
def tw6563421879595973463:=Nat
def tw9129855342785755360:=Nat
def tw12119574252377129823:=Nat
def tw4385804453238649134:=Nat
def tw10896050608508841757:=Nat
def tw9061052380105240642:=Nat
def tw15968703042867917835:=Nat
def tw12385593595367266216:=Nat
def tw3432316821178077613:=Nat
def tw7319275938754299940:=Nat
def tw9287726812216846515:=Nat
def tw8988320122750993768:=Nat
def tw3919789827383085932:=Nat
def tw55339604910583190:=Nat
def tw16188840544987183903:=Nat
def tw12874397536211970640:=Nat
def tw1332108373858793289:=Nat
def tw6364691361713382299:=Nat
def tw11150510345106693423:=Nat
def tw9721503062058090564:=Nat
def tw8283644397804694195:=Nat
def tw5201889543530706410:=Nat
def tw12007882113409012230:=Nat
def tw7409063265730009195:=Nat
def tw12876471268613019529:=Nat
def tw2368629038463426426:=Nat
def tw6598033183841167676:=Nat
def tw11680439753795881339:=Nat
def tw5712345311712494663:=Nat
def tw3223387612606462188:=Nat
def tw17682210233316554213:=Nat
def tw4636616929066344115:=Nat
def tw10609625126167081504:=Nat
def tw8026207333817176327:=Nat
def tw7475613960526598155:=Nat
def tw4305733325589881730:=Nat
def tw7426153841139600119:=Nat
def tw5044027294913820919:=Nat
def tw3340297543628138754:=Nat
def tw619789323546460080:=Nat
def tw14979799174317220277:=Nat
def tw10824771261319092668:=Nat
def tw1076988533034893320:=Nat
def tw4469235503159586491:=Nat
def tw7393285642531600762:=Nat
def tw11376357563151075928:=Nat
def tw10327547408183819438:=Nat
def tw18072925202760612878:=Nat
def tw3558767101018656108:=Nat
def tw16142980754400868527:=Nat
def tw10283675537432037721:=Nat
def tw17113944121162072679:=Nat
def tw8567612035784911381:=Nat
def tw8338484368617140919:=Nat
def tw1652998995791928760:=Nat
def tw14864292853278347829:=Nat
def tw16736277198537562014:=Nat
def tw1382431413342470284:=Nat
def tw8671389437971641801:=Nat
def tw17905400746998464966:=Nat
def tw4048995680316901194:=Nat
def tw9636280708068901298:=Nat
def tw6316558006564568542:=Nat
def tw6261401293242731594:=Nat
def tw9793114339306744231:=Nat
def tw5360928501778176118:=Nat
def tw9304839727047682484:=Nat
def tw958760657884027434:=Nat
def tw17255553362282745155:=Nat
def tw16400545218160244329:=Nat
def tw17721682011508451223:=Nat
def tw17511764876488743361:=Nat
def tw17662195886961880999:=Nat
def tw12097632760683542896:=Nat
def tw14704602681353002308:=Nat
def tw7508800040055467290:=Nat
def tw13598004898512262827:=Nat
def tw8244298035804326956:=Nat
def tw15845421264719433803:=Nat
def tw516793759537746848:=Nat
def tw6948555855722817392:=Nat
def tw4860539012122535173:=Nat
def tw7955655469345669915:=Nat
def tw4763722986688293526:=Nat
def tw17628986598718944918:=Nat
def tw3407724212109011917:=Nat
def tw9021331428913494137:=Nat
def tw11935510970767558151:=Nat
def tw3602209576146957625:=Nat
def tw13874283301704871581:=Nat
def tw15828057341826329458:=Nat
def tw16772731110581089135:=Nat
def tw15151002752263993645:=Nat
def tw66884609061514889:=Nat
def tw5893806762475929932:=Nat
def tw17643496604734873399:=Nat
def tw3520673785125765418:=Nat
def tw14246023736083903436:=Nat
def tw17514157413779384465:=Nat
def tw2110230803364599886:=Nat
def tw3309471376534080565:=Nat
def tw5913965389183383830:=Nat
def tw14132248302328073728:=Nat
def tw4210797140901189538:=Nat
def tw18293782739699462794:=Nat
def tw6956824209375414291:=Nat
def tw14428906506407070360:=Nat
def tw6356070430103287615:=Nat
def tw12289548478556284740:=Nat
def tw18123942245162794644:=Nat
def tw3585167764145261089:=Nat
def tw2463420748910427190:=Nat
def tw18121638873558810457:=Nat
def tw12750394465308558418:=Nat
def tw1620623077697075598:=Nat
def tw7521772018876398915:=Nat
def tw4444181730021643701:=Nat
def tw13533401076529525390:=Nat
def tw15605026202793522636:=Nat
def tw6100632190513245708:=Nat
def tw5294435835804169700:=Nat
def tw2452193550286810541:=Nat
def tw2882026021649333964:=Nat
def tw1156065472545084240:=Nat
def tw9721755240423734294:=Nat
def tw14540612407561694281:=Nat
def tw12927868349404578937:=Nat
def tw3564233153369655198:=Nat
def tw9600493393914881835:=Nat
def tw11081472487314689927:=Nat
def tw4843841844670291494:=Nat
def tw1412514315247647316:=Nat
def tw6795125740600035961:=Nat
def tw17533968094876402182:=Nat
def tw17464164818006147728:=Nat
def tw10476696950726507437:=Nat
def tw17158997741277225592:=Nat
def tw16651191210749625270:=Nat
def tw7503951225106990222:=Nat
def tw1324152555284329315:=Nat
def tw15788804771573726622:=Nat
def tw9433844155103183620:=Nat
def tw4304485083155935969:=Nat
def tw161624214210758261:=Nat
def tw302184004267647382:=Nat
def tw16974792530014388501:=Nat
def tw7778857920178769422:=Nat
def tw7294619284194206712:=Nat
def tw11654784903017642326:=Nat
def tw8676533701349666365:=Nat
def tw12401524364573870548:=Nat
def tw4890457633722241039:=Nat
def tw6619133397179800301:=Nat
def tw448711074139642127:=Nat
def tw15177585069457199087:=Nat
def tw1335504596311446265:=Nat
def tw467305377670847481:=Nat
def tw877186145515007727:=Nat
def tw9503226415284036662:=Nat
def tw12081691629136148788:=Nat
def tw9672787342889908610:=Nat
def tw5460858515085498105:=Nat
def tw1974468227094615345:=Nat
def tw13488662658911781400:=Nat
def tw8417781247219204085:=Nat
def tw17029770007088314434:=Nat
def tw636257549904893556:=Nat
def tw8109394646803145895:=Nat
def tw8301748536787793478:=Nat
def tw5194360675545750770:=Nat
def tw5801983440374908802:=Nat
def tw11324790848985062911:=Nat
def tw4976351328874816005:=Nat
def tw14236774620348708182:=Nat
def tw2713220079873079384:=Nat
def tw15656427556973939305:=Nat
def tw13443229223383945244:=Nat
def tw14453745144307633367:=Nat
def tw14510968075510609777:=Nat
def tw15215577750699522589:=Nat
def tw797284924750245784:=Nat
def tw3777462359959289743:=Nat
def tw7267890227442762332:=Nat
def tw10181872535754687641:=Nat
def tw5692580920263704788:=Nat
def tw4776426767939532549:=Nat
def tw12576573805235522242:=Nat
def tw15130747890502753871:=Nat
def tw10005692523484675918:=Nat
def tw14549478463425039616:=Nat
def tw2402514846879935608:=Nat
def tw6863027540244455600:=Nat
def tw17150983212784039340:=Nat
def tw2244408289931746498:=Nat
def tw4512750584678546932:=Nat
def tw6206791832611090622:=Nat
def tw12210575807887608851:=Nat
def tw14813798911817373933:=Nat
def tw2906442406366608994:=Nat
def tw7707360861967044883:=Nat
def tw671232959142383485:=Nat
def tw5089927282576686987:=Nat
def tw13395065936535641887:=Nat
def tw7685426240997767075:=Nat
def tw14981207864688970351:=Nat
def tw7947614822234820954:=Nat
def tw10743593701454902742:=Nat
def tw11368890449756263842:=Nat
def tw2991477740408880515:=Nat
def tw16287440442904625561:=Nat
def tw18439372440428248303:=Nat
def tw9626786144802473800:=Nat
def tw7412422883998549495:=Nat
def tw15592670146010495514:=Nat
def tw15044471587034850360:=Nat
def tw12376451822487255320:=Nat
def tw14695552712587095134:=Nat
def tw13936522357585002197:=Nat
def tw78267963626276818:=Nat
def tw3324655661754485737:=Nat
def tw12616500307643593059:=Nat
def tw16369137747080658038:=Nat
def tw256368745643158652:=Nat
def tw12324164289930610765:=Nat
def tw518986783221927569:=Nat
def tw7593854646012376937:=Nat
def tw16055551962196487749:=Nat
def tw11753082076228511203:=Nat
def tw3942727200421317226:=Nat
def tw4603026885758898580:=Nat
def tw8227556493877414280:=Nat
def tw5569028233207833334:=Nat
def tw2397008755330719729:=Nat
def tw11657981728964391818:=Nat
def tw16764190844109702335:=Nat
def tw11800515255542294964:=Nat
def tw16384665776940546776:=Nat
def tw4179326742939919772:=Nat
def tw2133100655521922941:=Nat
def tw1629580332469184587:=Nat
def tw12924237790828964126:=Nat
def tw17310540438619681931:=Nat
def tw14894397496787292002:=Nat
def tw2561296054265329180:=Nat
def tw17528091784115446950:=Nat
def tw4114595467937151785:=Nat
def tw11772514289462195299:=Nat
def tw8705759470867590806:=Nat
def tw9087746582839149334:=Nat
def tw14957352657321758621:=Nat
def tw14891479529479814346:=Nat
def tw15556858813922533806:=Nat
def tw18443063672700812875:=Nat
def tw8608592501953609870:=Nat
def tw1332486363941693658:=Nat
def tw14354522835183819817:=Nat
def tw7716405039809883441:=Nat
def tw12298924087269382344:=Nat
def tw4475244689200050915:=Nat
def tw1528075585528736043:=Nat
def tw3675409751047010704:=Nat
def tw15092275672019406577:=Nat
def tw9554827158905595833:=Nat
def tw8824664876695824454:=Nat
def tw5591446708608860208:=Nat
def tw11052741346692632885:=Nat
def tw8049523897027930193:=Nat
def tw4702069136849679328:=Nat
def tw13473869419052193711:=Nat
def tw6693021842389955570:=Nat
def tw6699824804836405335:=Nat
def tw7913150770783800767:=Nat
def tw16956429606647042102:=Nat
def tw5878845354319168447:=Nat
def tw17513661341096047997:=Nat
def tw7638003646783371518:=Nat
def tw1986698791009262844:=Nat
def tw18368665522307177878:=Nat
def tw9771148313551654372:=Nat
def tw1858997571481678690:=Nat
def tw4872502481853478768:=Nat
def tw10441996168505995762:=Nat
def tw11390996481181276475:=Nat
def tw6112219954203297089:=Nat
def tw3539823755693743189:=Nat
def tw475351966577243243:=Nat
def tw17435439311522795462:=Nat
def tw15450404377794993105:=Nat
def tw12865756337502367409:=Nat
def tw1404483099420760552:=Nat
def tw549347964044728706:=Nat
def tw18081877217711747948:=Nat
def tw9758892459243580855:=Nat
def tw9189544697307251975:=Nat
def tw10808246721359062580:=Nat
def tw15596002601638995180:=Nat
def tw1839751153569932235:=Nat
def tw1488852089650441216:=Nat
def tw12902397596014817142:=Nat
def tw17981060288023340455:=Nat
def tw268300245516767038:=Nat
def tw2878416908017152692:=Nat
def tw5396208849838501389:=Nat
def tw10283376415993635206:=Nat
def tw6505396146461524067:=Nat
def tw14407598825663584856:=Nat
def tw7793464382691168383:=Nat
def tw1949668480537246246:=Nat
def tw16765014617234332881:=Nat
def tw703899399033129545:=Nat
def tw15357651939932139867:=Nat
def tw12784130105974656708:=Nat
def tw6802159707843164865:=Nat
def tw9172213343084444133:=Nat
def tw9306708021442758751:=Nat
def tw18235850501098897560:=Nat
def tw11497318458774646792:=Nat
def tw8253531228230711802:=Nat
def tw8021161199534467412:=Nat
def tw4273621603471294181:=Nat
def tw9806648701103621228:=Nat
def tw15597418173164658827:=Nat
def tw15532748315610438047:=Nat
def tw13048133867369151976:=Nat
def tw17558644409583299428:=Nat
def tw10551691940573754030:=Nat
def tw6776291994070465876:=Nat
def tw10019272843304528241:=Nat
def tw3645599541230438254:=Nat
def tw4168823134661255112:=Nat
def tw12973800009046385417:=Nat
def tw13719736433335394820:=Nat
def tw8629602078895343993:=Nat
def tw10730042246026855316:=Nat
def tw18210306338078629212:=Nat
def tw111247790232259846:=Nat
def tw15097189730549728684:=Nat
def tw3422533453979197501:=Nat
def tw8675355724693501598:=Nat
def tw7694465847342300509:=Nat
def tw173624379836118111:=Nat
def tw16921750370683815347:=Nat
def tw7405375516666955320:=Nat
def tw9400537374444541123:=Nat
def tw10827722510844390085:=Nat
def tw11860323421045917173:=Nat
def tw12583615172231338710:=Nat
def tw17016266940519582321:=Nat
def tw10419244346136341130:=Nat
def tw2902026030855828093:=Nat
def tw4073595731119916991:=Nat
def tw5331134940410055180:=Nat
def tw14228064198505157156:=Nat
def tw10035616605125936204:=Nat
def tw15450290128600863562:=Nat
def tw7314688131474116823:=Nat
def tw2706108785937410807:=Nat
def tw14730789820774298227:=Nat
def tw9214689103384219545:=Nat
def tw6214154761459798948:=Nat
def tw16726873179384851399:=Nat
def tw766008119993464783:=Nat
def tw413011110741451444:=Nat
def tw6954846179291293061:=Nat
def tw12526563280566616741:=Nat
def tw5283900172072159342:=Nat
def tw6429869828229367724:=Nat
def tw9145586887191188837:=Nat
def tw6301637148899479904:=Nat
def tw17476485351434659710:=Nat
def tw5165431823961405231:=Nat
def tw6831333170357193221:=Nat
def tw6726905136635242545:=Nat
def tw12410128845214026721:=Nat
def tw11206700080010177142:=Nat
def tw18068866717951959381:=Nat
def tw17975885798612013764:=Nat
def tw5476369278801130376:=Nat
def tw8032194317037005768:=Nat
def tw12524816064019547117:=Nat
def tw9616127936482714678:=Nat
def tw13976353646292188709:=Nat
def tw8129379504596314760:=Nat
def tw17342766269069311418:=Nat
def tw9994177487247326408:=Nat
def tw16220952945165635122:=Nat
def tw3041192191491869888:=Nat
def tw7140585474922246639:=Nat
def tw7716510376588167387:=Nat
def tw8682964179425311312:=Nat
def tw10613861508482514053:=Nat
def tw3721982417231957571:=Nat
def tw2186339652969909145:=Nat
def tw5326758750688682963:=Nat
def tw5639191320728009541:=Nat
def tw16173004329532426772:=Nat
def tw10574981055229109909:=Nat
end PySem.W.Fast
open PySem PySem.W PyProof.Rows
local macro_rules | `(tactic| walk_at "d") => `(tactic| first | exact Gk.Ni (by k_is) (by k_is) (by k_is) (by k_is) | (refine' Gk.Ni ?a ?l ?c ?k; (case a => k_is); (case l => k_is); (case c => k_is); (case k => k_is)))
local macro_rules | `(tactic| walk_at "m") => `(tactic| first | exact Gk.Nj (by k_is) (by k_is) (by k_is) (by k_is) (by k_is) | (refine' Gk.Nj ?a ?i ?l ?c ?k; (case a => k_is); (case i => k_is); (case l => k_is); (case c => k_is); (case k => k_is)))
set_option maxRecDepth 100000 in
set_option maxHeartbeats 0 in
theorem PySem.Challenge.cw_cutrestore_k31_whole_heard_holds : PySem.Challenge.rw_cutrestore_k31_whole_heard.Holds := by
 w_on;o_law;k_head;(case hw=>w_witness2)
 k_fill
 refine Gk.walk (l:=PySem.Challenge.rw_cutrestore_k31_whole_heard) rfl rfl (λw h Y=>W.kIn_of Y) ?F
 case F=>
  intro w mg fa h KX G Tz;refine' Gk.all_mk KX G Tz ?oC ?LS ?LU ?kZ ?k6 ?sX ?k7 ?k8 ?mU ?i3 ?pT ?pU ?pV ?mV ?k9 ?mW ?pW ?pX ?ic ?pY ?i4 ?fZ ?pZ ?lg ?sY ?jU ?Ik ?ie ?p5 ?p6 ?ig ?p7 ?ij ?ik ?fJ ?i5 ?gD ?lj ?fg ?lp ?jV ?mX ?lu ?lx ?mY ?ly ?jW ?mZ ?gb ?jX ?m7 ?lA ?i8 ?m9 ?gc ?nc ?i9 ?ja ?il ?gE ?gf ?lB ?jb ?ng ?nh ?d7 ?jc ?Il ?jY ?Im ?p8 ?p9 ?qa ?qb ?qc ?qd ?Dq ?Dr ?Mq ?Pt ?Mr ?Io ?Ip ?Iq ?Ir ?Iu ?Iv ?Gn ?Gq ?xN ?xO ?zQ ?Iw ?Iy ?Iz ?IA ?IB ?IC ?Gr ?Gs ?cE ?cJ ?bU ?dO ?cK ?bV ?eN ?cT ?Ds ?uJ ?jZ ?ID ?Ar ?IE ?wu ?As ?IF ?wx ?IG ?IH ?II ?IJ ?IK ?lC ?j0 ?dM ?dB ?dC ?fb ?c9 ?fq ?dD ?dN ?aF ?lF ?neF ?lP0 ?lP1 ?lP2 ?lP3 ?lP4 ?lP5 ?lP6 ?lP7
  (case oC|LS|LU=>k_is)
  (case kZ|k6|sX|k7|k8|mU|i3|pT|pU|pV|mV|k9|mW|pW|pX|ic|pY|i4|fZ=>walk_at "d")
  (case pZ=>walk_at "m")
  (case lg|sY|jU=>walk_at "d")
  (case Ik=>walk_at "m")
  (case ie|p5|p6=>walk_at "d")
  (case ig|p7|ij|ik|fJ|i5|gD=>walk_at "m")
  (case lj=>walk_at "d")
  (case fg|lp=>walk_at "m")
  (case jV|mX|lu|lx|mY|ly|jW|mZ|gb|jX|m7|lA|i8|m9=>walk_at "d")
  (case gc|nc|i9|ja|il|gE|gf|lB|jb|ng=>walk_at "m")
  (case nh=>walk_at "d")
  (case d7|jc|Il=>walk_at "m")
  (case jY|Im=>walk_at "d")
  (case p8|p9|qa|qb|qc|qd|Dq|Dr|Mq|Pt|Mr|Io|Ip|Iq|Ir|Iu|Iv|Gn|Gq|xN|xO|zQ|Iw|Iy|Iz|IA|IB|IC|Gr|Gs|cE|cJ|bU|dO|cK|bV|eN|cT|Ds|uJ|jZ|ID|Ar|IE|wu|As|IF|wx|IG|IH|II|IJ|IK|lC|j0|dM|dB|dC|fb|c9|fq|dD|dN|aF|lF=>k_is)
  (case neF=>first|rfl|decide)
  (case lP0|lP1|lP2|lP3|lP4|lP5|lP6|lP7=>k_is)
