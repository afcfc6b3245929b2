import PyProof.Rows.All
import Wide.All
import OpenK.AllK
import Wide.FinOn
import Lean
import PyProof.EqAt
import PyProof.EqKinds
import PyProof.TupleCall
import PyProof.NeKinds
import PyProof.Rows.Range3
import KE.KIsAll
import PyProof.ExcClass3
import PyProof.InstStoreFacts
import PyProof.ExcArgsOwn
import PyProof.ExcBaseAll.ValueError
import PyProof.ExcAttrAll.ValueError
import PyProof.Draws
import PyProof.ZipIter
import PyProof.SumWalk
import PyProof.Rows.FactsT2
import PyProof.EnumMake
import PyProof.Rows.EnumRows
import KE.KTab
import PyProof.StationsW
import PyProof.RulesAs
import PyProof.NsDelKeeps
import PyProof.PassesOwn
import PyProof.Rows.ListMulArg
import PyProof.StrWalks
import PyProof.MeetsStr
import PyProof.MeetsStr2
import PyProof.StrBlockL
import PyProof.SliceStr2
import PyProof.StrLawsIdx
import PyProof.FitsStr
import PyProof.StrLaws
import PyProof.Rows.FStr
import KE.KIntText
import PyProof.StrLawsTight
import PyProof.Rows.StrIntSpec
import PyProof.Rows.CountFlat
import PyProof.Rows.SeqMore2
import PyProof.SeqRoads
import PyProof.StrLawsAffix
import PyProof.InstEq
import PySem.Challenge.RW_cutrestore_k26_states_behind
set_option compiler.extract_closed false
set_option Elab.async false
set_option linter.all false
set_option maxRecDepth 100000
theorem L2.fo{p:Prop}(h:∀g:Prop,(p->g)->g):p:=h p id
section
set_option hygiene false
local macro_rules | `(tactic| calc $e:term) => `(tactic| refine $e)
local macro_rules | `(tactic| lia) => `(tactic| omega)
local macro_rules | `(tactic| nofun) => `(tactic| refine L2.fo λgZ hZ => ?_)
local macro_rules | `(tactic| ac_rfl) => `(tactic| (refine hZ ?_; clear hZ gZ))
set_option hygiene true
set_option hygiene false
local macro_rules | `(tactic| grind) => `(tactic| first | exact Or.inl rfl | exact Or.inr rfl | assumption)
local macro_rules | `(tactic| symm) => `(tactic| refine D.ok sc (λvs H Q E h => ?_) (λf dI A outer s H vs Q E hr h => ?_))
local macro_rules
 | `(tactic| walk_at "xc") => `(tactic| (refine ⟨?_⟩; intro pins s σ H Q I h))
 | `(tactic| walk_at "xd") => `(tactic| (refine ⟨?_⟩; intro pins s σ H D I h))
 | `(tactic| walk_at "xf") => `(tactic| refine ⟨Ext.set (Ext.refl _) rfl, ?_⟩)
 | `(tactic| walk_at "xg") => `(tactic| obtain ⟨a, u1, u2, u3, k0, rfl, ha, g1, g2, g3⟩ := bY hx)
set_option hygiene true
abbrev XJ:= @PySem.F.excBase_ValueError
abbrev Za:= @PySem.F.attrBase_ValueError
abbrev qA:= @PyProof.Rows.boot_isinstance
abbrev XM:= @PyProof.Rows.boot_int
abbrev nJ:= @PySem.F.plainAttrs_list
abbrev qm:= @PySem.F.slot_list_append
abbrev qo:= @PySem.F.type_list_append
abbrev tq:= @PyProof.Rows.boot_tuple
abbrev ze:= @PyProof.Rows.boot_list
abbrev Fb:= @PyProof.Rows.boot_all
section
open PySem
abbrev j':= @wpAny_bind
abbrev J':= @Heap.get?_push_of_some
abbrev K':= @Nat.le_refl
abbrev L':= @Nat.le_of_lt
abbrev P':= @wpAny_pure
abbrev R':= @Nat.lt_of_lt_of_le
abbrev S':= @Heap.lt_size
abbrev T':= @PySem.boot_len
abbrev U':= @Bool.false_ne_true
abbrev V':= @Heap.get?_push_size
abbrev W':= @Int.eq_ofNat_of_zero_le
abbrev X':= @List.mem_of_getElem?
abbrev Y':= @Nat.ne_of_lt
abbrev aaf:= @List.getElem_mem
abbrev aak:= @False.elim
abbrev aal:= @Nat.zero_le
abbrev aam:= @List.mem_append_right
abbrev aao:= @Nat.not_lt_zero
abbrev aap:= @Nat.le_trans
abbrev aas:= @wpAny_mono
abbrev aay:= @wpAny_field
abbrev aaC:= @wpAny_loadPart_at
abbrev aaE:= @List.mem_cons_of_mem
abbrev aaF:= @True.intro
abbrev aaG:= @Int.emod_lt_of_pos
abbrev aaH:= @W.mg_none_of
abbrev aaK:= @Int.emod_nonneg
abbrev aaL:= @List.mem_cons_self
end
namespace L2
open PySem PySem.Spec PyProof.Rows
section
theorem cP{α:Type _}{l:List α}{i:Nat}(h:i<l.length):l[i]?=some l[i]:=List.getElem?_eq_getElem h
abbrev Key:=Sum Int Str
def uh:Key->Value->Bool
 | .inl k,v=>Value.isInt k v
 | .inr x,v=>Value.isStrOf x v
def Zb(w:World):Key->Int
 | .inl k=>hashInt k
 | .inr x=>hashStr w x
theorem dz:∀{k:Key}{v:Value},uh k v=true->(∃i t,k=Sum.inl i/\v=Value.int i t)\/(∃x t,k=Sum.inr x/\v=Value.str x t)
 | .inl i,v,h=>by
  obtain⟨t,e⟩:=Value.isInt_shape (k:=i) (v:=v) h;calc .inl ⟨i,t,rfl,e⟩
 | .inr x,v,h=>by
  obtain⟨t,e⟩:=Value.isStrOf_shape (x:=x) (v:=v) h;calc .inr ⟨x,t,rfl,e⟩
theorem CS(i:Int)(t:Tok):uh (.inl i) (.int i t)=true:=by simp[uh,Value.isInt]
theorem CT(x:Str)(t:Tok):uh (.inr x) (.str x t)=true:=by simp[uh,Value.isStrOf]
theorem Ow(a b:Int):decide ((Sum.inl a:Key)=Sum.inl b)=(a==b):=by
 by_cases e:a=b
 ·subst e;simp
 ·have h:¬(Sum.inl a:Key)=Sum.inl b:=λq=>e (Sum.inl.inj q);rw[decide_eq_false h];calc(beq_eq_false_iff_ne.mpr e).symm
theorem Ox(a b:Str):decide ((Sum.inr a:Key)=Sum.inr b)=decide (a=b):=by
 by_cases e:a=b
 ·subst e;simp
 ·have h:¬(Sum.inr a:Key)=Sum.inr b:=λq=>e (Sum.inr.inj q);rw[decide_eq_false h,decide_eq_false e]
theorem Oy(a:Int)(b:Str):decide ((Sum.inl a:Key)=Sum.inr b)=false:=decide_eq_false (λq=>nomatch q)
theorem Oz(a:Str)(b:Int):decide ((Sum.inr a:Key)=Sum.inl b)=false:=decide_eq_false (λq=>nomatch q)
def dJ(prog:Program)(w:World):PySem.KeyKind prog w Key where
 is:=uh
 hash:=Zb w
 inj:=λv a b f d=>by
  rcases dz f with⟨i,t,rfl,rfl⟩|⟨x,t,rfl,rfl⟩
  ·rcases dz d with⟨j,u,rfl,e⟩ | ⟨y,u,rfl,e⟩
   ·injection e with e1 _;rw[e1]
   ·exact nomatch e
  ·rcases dz d with⟨j,u,rfl,e⟩ | ⟨y,u,rfl,e⟩
   ·exact nomatch e
   ·injection e with e1 _;rw[e1]
 byValue:=λk v h=>by
  rcases dz h with⟨i,t,rfl,rfl⟩|⟨x,t,rfl,rfl⟩<;>rfl
 pyHash:=λc h=>by
  rcases dz c with⟨i,t,rfl,rfl⟩|⟨x,t,rfl,rfl⟩
  ·exact wpAny_pyHash_int h
  ·exact wpAny_pyHash_str h
 eqBool:=λg c h=>by
  rcases dz g with⟨i,t,rfl,rfl⟩|⟨x,t,rfl,rfl⟩
  ·rcases dz c with⟨j,u,rfl,rfl⟩ | ⟨y,u,rfl,rfl⟩
   ·rw[Ow]at h;exact wpAny_eqBool_int h
   ·rw[Oy]at h;exact SeqAt.EqAt.int_str i t y u _ _ _ _ h
  ·rcases dz c with⟨j,u,rfl,rfl⟩ | ⟨y,u,rfl,rfl⟩
   ·rw[Oz]at h;exact SeqAt.EqAt.str_int x t j u _ _ _ _ h
   ·rw[Ox]at h;exact wpAny_eqBool_str h
 «strs»:=λk x t v h=>by
  rcases dz h with⟨i,u,rfl,e⟩|⟨y,u,rfl,e⟩
  ·exact nomatch e
  ·injection e with e1 _
   subst e1
   cases v<;>rfl
theorem xc(prog:Program)(w:World)(i:Int)(t:Tok):(dJ prog w).is (.inl i) (.int i t)=true:=CS i t
theorem xf(prog:Program)(w:World)(x:Str)(t:Tok):(dJ prog w).is (.inr x) (.str x t)=true:=CT x t
end
section
variable {a b:Addr}{o u:HO}{H:Hp}
inductive V where
 |bM|bl (b:Bool)|int (i:Int)|str (x:Str)|zf (b:Array UInt8)|Mz (b:UInt64)|ref (a:Addr)|ty (n:String)
 deriving DecidableEq
def RelV:V->Value->Prop
 | .bM,u=>u=Value.none
 | .bl b,u=>u=Value.bool b
 | .int i,u=>∃t,u=Value.int i t
 | .str x,u=>∃t,u=Value.str x t
 | .zf b,u=>∃t,u=Value.bytes b t
 | .Mz b,u=>∃t,u=Value.float b t
 | .ref a,u=>u=Value.ref a
 | .ty n,u=>u=Value.type n
abbrev Vals:List V->List Value->Prop:=Paired RelV
theorem Vals.length{xs:List V}{us:List Value}(r:Vals xs us):xs.length=us.length:=Paired.length r
theorem Vals.get:∀{xs:List V}{us:List Value}{i:Nat}{x:V},Vals xs us->xs[i]?=some x->∃u,us[i]?=some u/\RelV x u
 |_,_,_,_,.nil,e=>by simp at e
 |_,_,0,_,.cons r _,e=>by simp at e;subst e;calc⟨_,rfl,r⟩
 |_,_,i+1,x,.cons _ t,e=>by
  obtain⟨u,a,b⟩:=Vals.get (i:=i) (x:=x) t (by simpa using e);calc⟨u,by simpa using a,b⟩
theorem Vals.set{x:V}{u:Value}(r:RelV x u):∀{xs:List V}{us:List Value}(i:Nat),Vals xs us->Vals (xs.set i x) (us.set i u)
 |_,_,_,.nil=>.nil
 |_,_,0,.cons _ t=>.cons r t
 |_,_,i+1,.cons q t=>.cons q (Vals.set r i t)
theorem Vals.append:∀{xs a:List V}{us b:List Value},Vals xs us->Vals a b->Vals (xs++a) (us++b)
 |_,_,_,_,.nil,s=>s
 |_,_,_,_,.cons r t,s=>.cons r (Vals.append t s)
theorem Vals.take:∀{xs:List V}{us:List Value}(n:Nat),Vals xs us->Vals (xs.take n) (us.take n)
 |_,_,0,_=>.nil
 |_,_,_+1,.nil=>.nil
 |_,_,n+1,.cons r t=>.cons r (Vals.take n t)
theorem Vals.drop:∀{xs:List V}{us:List Value}(n:Nat),Vals xs us->Vals (xs.drop n) (us.drop n)
 |_,_,0,r=>r
 |_,_,_+1,.nil=>.nil
 |_,_,n+1,.cons _ t=>Vals.drop n t
def jZ:Option V->Option Value->Prop
 |some v,some u=>RelV v u
 |none,none=>True
 |_,_=>False
def KV{κ:Type}:List (κ×V)->List (κ×Value)->Prop:=Paired λ(p:κ×V) (q:κ×Value)=>p.1=q.1/\RelV p.2 q.2
def kV:Key->V
 | .inl i=>.int i
 | .inr x=>.str x
inductive HO where
 |lst (xs:List V)
 |tup (xs:List V)
 |dK (bg:List (Key×V))|dT (bg:List (List Key×V))
 |set (S:Int->Bool) (n:Nat)
 |ins (C dx:Addr) (fs:List (Str×V))
 |own (x:Addr)
 |xd (fs:List (Str×V))
 |met (f x:Addr)
 |Zc (lo hi:Int)
 |zg (o:Obj) (u:HO)
 |OA (ps:Array Value)
 |ext (φ:Heap->Prop)
abbrev Hp:=Addr->Option HO
def upd(H:Hp)(a:Addr)(o:HO):Hp:=λb=>if b=a then some o else H b
theorem af:upd H a o a=some o:=by unfold upd;rw[if_pos rfl]
theorem az(h:b≠a):upd H a o b=H b:=by unfold upd;rw[if_neg h]
theorem qU:upd (upd H a o) a u=upd H a u:=by
 funext b;unfold upd;split<;>rfl
theorem Tg(h:H a=some o)(h':H b=some u)(d:o≠u):a≠b:=by
 intro e;subst e;rw[h]at h';calc d (Option.some.inj h')
theorem au(h:H a=some o)(h':H b=none):a≠b:=by
 intro e;subst e;rw[h]at h';cases h'
section
variable (P:Program)(w:World)
def cQ(H:Hp)(h:Heap)(a:Addr):HO->Prop
 | .lst xs=>xs.length<=sizeLine/\∃(b:List Value) (n:Nat),Vals xs b/\h.get? a=some {cls:=.type "list",data:=.seq b.toArray n}
 | .tup xs=>xs.length<=sizeLine/\∃b:List Value,Vals xs b/\IsTup h a b.toArray
 | .dK b=>b.length<=sizeLine/\(a==sysModules)=false/\∃vs,KV b vs/\h.DictOf (dJ P w) a vs
 | .dT b=>b.length<=sizeLine/\(a == sysModules)=false/\∃xs:List (List Key×Addr×Value),
   Paired (λ(p:List Key×V) (q:List Key×Addr×Value)=>p.1=q.1/\H q.2.1=some (.tup (p.1.map kV))/\RelV p.2 q.2.2) b xs/\
   ∃o b c,h.get? a=some o/\o.ExactDict/\o.data=.dict b c/\b.toList=xs.map (entryOfKey (tupleKind (dJ P w)))/\(xs.map (·.1)).Nodup
 | .set S n=>h.SetOf (intKind P w) a S n
 | .ins C d c=>H d=some (.own a)/\c.length<=1000/\d≠a/\h.get? a=some (W.instObj C d)/\
   ∃b,h.Ns1 d b/\(∀f,jZ (c.lookup f) (b f))/\PySem.Within b (c.map (·.1))
 | .own _=>∃o,h.get? a=some o
 | .xd c=>∃b,h.Ns1 a b/\∀f,jZ (c.lookup f) (b f)
 | .Zc b c=>∃t u v,h.get? a=some {cls:=.type "range",data:=.fields #[.int b t,.int c u,.int 1 v]}
 | .zg o u=>h.get? a=some o/\cQ H h a u
 | .OA b=>h.get? a=some {cls:=.none,data:=.fields b}
 | .met f x=>h.get? a=some (W.methodObj (.ref f) (.ref x))
 | .ext φ=>φ h/\(∃o,h.get? a=some o)/\∀b c:Heap,φ b->(∀o,b.get? a=some o->c.get? a=some o)->φ c
def lY(H:Hp)(h:Heap):Prop:=∀a o,H a=some o->cQ P w H h a o
end
section
variable {P:Program}{w:World}{H H':Hp}{h h':Heap}{a:Addr}{o:HO}
theorem cQ.lt(x:cQ P w H h a o):a<h.objs.size:=by
 cases o with
 |lst b=>obtain⟨_,_,_,_,e⟩:=x;calc S' e
 |tup b=>obtain⟨_,_,_,p⟩:=x;calc p.lt
 |dK b=>obtain⟨_,_,_,_,o,_,_,e,_⟩:=x;calc S' e
 |dT b=>obtain⟨_,_,_,_,o,_,_,e,_⟩:=x;calc S' e
 |set S n=>obtain⟨o,_,_,_,e,_⟩:=x;calc S' e
 |ins C c b=>obtain⟨_,_,_,e,_⟩:=x;calc S' e
 |own y=>obtain⟨_,e⟩:=x;calc S' e
 |xd b=>obtain⟨_,⟨_,_,_,e,_⟩,_⟩:=x;calc S' e
 |Zc b c=>obtain⟨_,_,_,e⟩:=x;calc S' e
 |zg b u=>obtain⟨e,_⟩:=x;calc S' e
 |OA b=>calc S' (show h.get? a=some _ from x)
 |met f y=>calc S' (show h.get? a=some _ from x)
 |ext φ=>obtain⟨_,⟨_,e⟩,_⟩:=x;calc S' e
theorem Paired.OB{α β:Type}{F G:α->β->Prop}:∀{c:List α}{d:List β},Paired F c d->(∀a b,F a b->G a b)->Paired G c d
 |_,_,.nil,_=>.nil
 |_,_,.cons r t,f=>.cons (f _ _ r) (Paired.OB t f)
theorem cQ.aL(x:cQ P w H h a o)(k:∀b u,(b=a\/H b=some (.own a))->h.get? b=some u->h'.get? b=some u)
  (m:∀b,H b=some (.own a)->H' b=some (.own a)) (j:∀b xs,H b=some (.tup xs)->H' b=some (.tup xs)):cQ P w H' h' a o:=by
 induction o with
 |lst xs=>obtain⟨z,d,n,r,e⟩:=x;calc⟨z,d,n,r,k _ _ (.inl rfl) e⟩
 |tup xs=>obtain⟨z,d,r,f,e,c⟩:=x;calc⟨z,d,r,f,k _ _ (.inl rfl) e,c⟩
 |dK d=>obtain⟨z,y,l,r,f,g,i,e,c⟩:=x;calc⟨z,y,l,r,f,g,i,k _ _ (.inl rfl) e,c⟩
 |dT d=>
  obtain⟨z,y,xs,r,f,g,i,e,c⟩:=x;calc⟨z,y,xs,Paired.OB r λp q z=>⟨z.1,j _ _ z.2.1,z.2.2⟩,f,g,i,k _ _ (.inl rfl) e,c⟩
 |set S n=>obtain⟨f,g,i,t,e,c⟩:=x;calc⟨f,g,i,t,k _ _ (.inl rfl) e,c⟩
 |ins C d n=>
  obtain⟨d,z,s,e,j,⟨l,g,i,v,c⟩,r⟩:=x;calc⟨m _ d,z,s,k _ _ (.inl rfl) e,j,⟨l,g,i,k _ _ (.inr d) v,c⟩,r⟩
 |own y=>obtain⟨f,e⟩:=x;calc⟨f,k _ _ (.inl rfl) e⟩
 |xd n=>obtain⟨j,⟨l,g,i,e,c⟩,r⟩:=x;calc⟨j,⟨l,g,i,k _ _ (.inl rfl) e,c⟩,r⟩
 |Zc c d=>obtain⟨t,u,v,e⟩:=x;calc⟨t,u,v,k _ _ (.inl rfl) e⟩
 |zg f u c=>obtain⟨e,q⟩:=x;calc⟨k _ _ (.inl rfl) e,c q⟩
 |OA c=>
  have e:h.get? a=some {cls:=.none,data:=.fields c}:=x;show h'.get? a=some {cls:=.none,data:=.fields c};calc k a _ (.inl rfl) e
 |met f y=>
  have e:h.get? a=some (W.methodObj (.ref f) (.ref y)):=x;show h'.get? a=some (W.methodObj (.ref f) (.ref y));calc k a _ (.inl rfl) e
 |ext φ=>obtain⟨p,⟨o,e⟩,c⟩:=x;calc⟨c _ _ p λo q=>k _ _ (.inl rfl) q,⟨o,k _ _ (.inl rfl) e⟩,c⟩
theorem lY.lt(x:lY P w H h)(e:H a=some o):a<h.objs.size:=(x a o e).lt
theorem lY.fresh(x:lY P w H h)(e:h.objs.size<=a):H a=none:=by
 cases q:H a with
 |none=>rfl
 |some u=>calc absurd (R' (x.lt q) e) (Nat.lt_irrefl _)
theorem lY.kept(x:lY P w H h)(k:∀b u,h.get? b=some u->h'.get? b=some u):lY P w H h':=λa o e=>
 (x a o e).aL (λb u _ q=>k b u q) (λ_ q=>q) λ_ _ q=>q
theorem lY.laid(x:lY P w H h)(k:∀b u,h.get? b=some u->h'.get? b=some u)(g:h.objs.size<=a)(c:cQ P w (upd H a o) h' a o):lY P w (upd H a o) h':=λb u e=>by
 have d:=x.fresh g;by_cases f:b=a
 ·subst f;rw[af]at e;cases e;exact c
 ·rw[az f]at e;exact(x b u e).aL (λc v _ q=>k c v q) (λc q=>by rw[az (au q d)];calc q) λc e q=>by rw[az (au q d)];calc q
end
def Rd(H:Hp)(a:Addr)(u:HO):Prop:=H a=some u\/∃o,H a=some (.zg o u)
theorem Rd.ok{P:Program}{w:World}{h:Heap}(r:Rd H a u)(x:lY P w H h):cQ P w H h a u:=by
 rcases r with r|⟨o,r⟩
 ·exact x a u r
 ·obtain⟨_,q⟩:=x a _ r;calc q
def Th:Option HO->Prop
 |some (.lst _)=>True
 |some (.dK _)=>True
 |some (.dT _)=>True
 |some (.set _ _)=>True
 |some (.ins _ _ _)=>True
 |some (.ext _)=>True
 |_=>False
section
variable {P:Program}{w:World}{H:Hp}{h h':Heap}{x e:Addr}{o':HO}
theorem lY.write(o:lY P w H h)(a:Th (H x))(l:e=x\/H e=some (.own x))(k:∀b u,b≠e->h.get? b=some u->h'.get? b=some u)(p:∃u,h'.get? e=some u)
  (j:cQ P w (upd H x o') h' x o'):lY P w (upd H x o') h':=λb u q=>by
 have m:∀c y,H c=some (.own y)->c≠x:=λc y r z=>by subst z;rw[r]at a;exact a
 have s:∀c d,H c=some (.tup d)->c≠x:=λc d r z=>by subst z;rw[r]at a;exact a
 by_cases f:b=x
 ·subst f;rw[af]at q;cases q;exact j
 ·rw[az f] at q;by_cases g:b=e
  ·have n:H b=some (.own x):=by
    rcases l with z|z
    ·exact absurd (g.trans z) f
    ·rw[g];exact z
   rw[q]at n;cases n;obtain⟨v,a⟩:=p;exact⟨v,by rw[g];calc a⟩
  ·refine(o b u q).aL (λc v i r=>k c v ?_ r) (λc r=>by rw[az (m c b r)];calc r) λc d r=>by rw[az (s c d r)];exact r
   rcases i with rfl|i
   ·exact g
   ·rintro rfl;rcases l with z | z
    ·exact m c b i z
    ·rw[i]at z;cases z;calc f rfl
end
structure Un(fs ex:List Addr)(H H':Hp)(h h':Heap):Prop where
 keep:∀b o,h.get? b=some o->H b=none->b∉fs->b∉ex->h'.get? b=some o
 slot:∀b o,h.get? b=some o->H b=none->b∈fs->b∉ex->∃sl,h'.get? b=some {o with slots:=sl}
 free:∀b o,h.get? b=some o->H b=none->b∉ex->H' b=none
 there:∀b o,h.get? b=some o->b∉ex->∃o',h'.get? b=some o'
 aV:∀b xs,H b=some (.tup xs)->H' b=some (.tup xs)
 oQ:∀b o u,H b=some (.zg o u)->H' b=some (.zg o u)
 qB:∀b ps,H b=some (.OA ps)->∃more,H' b=some (.OA (ps++more))
section
variable {fs zh ex ex':List Addr}{H H1 H2:Hp}{h h1 h2 h':Heap}{a x e:Addr}{o:HO}
theorem Un.any(u:Un fs ex H H1 h h1){b:Addr}{a:Obj}(q:h.get? b=some a)(n:H b=none)(c:b∉ex):∃d,h1.get? b=some {a with slots:=d}:=by
 by_cases d:b∈fs
 ·exact u.slot b a q n d c
 ·calc⟨a.slots,u.keep b a q n d c⟩
theorem Un.trans(a:Un fs ex H H1 h h1)(b:Un fs ex H1 H2 h1 h2):Un fs ex H H2 h h2 where
 keep:=λc d q n g e=>b.keep c d (a.keep c d q n g e) (a.free c d q n e) g e
 slot:=λc d q n g e=>by
  obtain⟨i,f⟩:=a.slot c d q n g e;obtain⟨j,i⟩:=b.slot c _ f (a.free c d q n e) g e;exact⟨j,i⟩
 free:=λc d q n e=>by
  obtain⟨g,f⟩:=a.there c d q e;exact b.free c g f (a.free c d q n e) e
 there:=λc d q e=>by
  obtain⟨g,f⟩:=a.there c d q e;exact b.there c g f e
 aV:=λc e q=>b.aV c e (a.aV c e q)
 oQ:=λc d e q=>b.oQ c d e (a.oQ c d e q)
 qB:=λc d q=>by
  obtain⟨e,f⟩:=a.qB c d q;obtain⟨g,i⟩:=b.qB c _ f;calc⟨e++g,by rw[i,Array.append_assoc]⟩
theorem Un.kept(k:∀b u,h.get? b=some u->h'.get? b=some u):Un fs ex H H h h':=
 ⟨λb a q _ _ _=>k b a q,λb a q _ _ _=>⟨a.slots,k b a q⟩,λ_ _ _ n _=>n,λb a q _=>⟨a,k b a q⟩,λ_ _ q=>q,λ_ _ _ q=>q,λ_ a q=>⟨#[],by rw[q];simp⟩⟩
theorem Un.refl:Un fs ex H H h h:=Un.kept λ_ _ q=>q
theorem Un.laid(k:∀b u,h.get? b=some u->h'.get? b=some u)(d:h.objs.size<=a)(c:H a=none):Un fs ex H (upd H a o) h h' where
 keep:=λb u q _ _ _=>k b u q
 slot:=λb u q _ _ _=>⟨u.slots,k b u q⟩
 free:=λb u q n _=>by rw[az (Nat.ne_of_lt (Nat.lt_of_lt_of_le (Heap.lt_size q) d))];exact n
 there:=λb u q _=>⟨u,k b u q⟩
 aV:=λb d q=>by rw[az (au q c)];exact q
 oQ:=λb u d q=>by rw[az (au q c)];exact q
 qB:=λb d q=>⟨#[],by rw[az (au q c),q];simp⟩
theorem Un.write(a:Th (H x))(i:e=x\/H e=some (.own x))(k:∀b u,b≠e->h.get? b=some u->h'.get? b=some u)(j:∃u,h'.get? e=some u):Un fs ex H (upd H x o) h h':=by
 have d:∀b,H b=none->b≠x:=λb n z=>by subst z;rw[n]at a;exact a
 have f:∀b,H b=none->b≠e:=λb n z=>by
  subst z;rcases i with r|r
  ·exact d b n r
  ·rw[n]at r;cases r
 have c:∀b u,H b=some u->¬Th (some u)->b≠x:=λb u q l z=>by subst z;rw[q]at a;exact l a
 refine⟨λb u q n _ _=>k b u (f b n) q,λb u q n _ _=>⟨u.slots,k b u (f b n) q⟩,λb u q n _=>by rw[az (d b n)];exact n,λb u q _=>?_,
  λb a q=>by rw[az (c b _ q λz=>z)];calc q,λb u a q=>by rw[az (c b _ q λz=>z)];calc q,λb a q=>⟨#[],by rw[az (c b _ q λz=>z),q];simp⟩⟩
 by_cases g:b=e
 ·subst g;exact j
 ·calc⟨u,k b u g q⟩
end
def XN(h:Heap)(H:Hp):List Addr:=(List.range h.objs.size).filter λa=>(H a).isSome
def vt(h:Heap)(H:Hp):Heap:=W.hideAll h (XN h H)
theorem CU(h:Heap)(H:Hp):(vt h H).objs.size=h.objs.size:=W.hideAll_size _ _
theorem Fc{h:Heap}{o:Obj}(e:h.get? b=some o)(n:H b=none):(vt h H).get? b=some o:=
 W.hideAll_get _ e λa=>by
  have q:(H b).isSome=true:=(List.mem_filter.mp a).2;rw[n]at q;simp at q
theorem Kk{h:Heap}{H:Hp}{b:Addr}{o:Obj}(e:(vt h H).get? b=some o):h.get? b=some o/\H b=none:=by
 have a:h.get? b=some o:=W.of_hideAll (XN h H) e;refine⟨a,?_⟩
 cases q:H b with
 |none=>rfl
 |some x=>
  have c:b∈XN h H:=List.mem_filter.mpr ⟨List.mem_range.mpr (S' a),by simp[q]⟩;have z:(vt h H).get? b=none:=W.hideAll_none (XN h H) c;rw[z]at e;cases e
def Kl(g h:Heap)(L:Addr):List (Addr×Obj):=(List.range h.objs.size).filterMap λa=>if a=L\/(g.get? a).isSome=true then none else(h.get? a).map λo=>(a,o)
def rest(g h:Heap)(L d:Addr):List (Addr×Obj):=(Kl g h L).filter λp=>decide (p.1≠d)
end
section
variable {A:Around}{ch:List Addr}{t':Nat}{E:Value->Shared->Prop}
structure Mod(K:W.Frag)(mg:Str->Option Value)(base:Heap):Prop where
 xg:K.In base
 glob:base.Ns mainGlobals mg
 blt:∃mb,base.Ns builtinsNs mb/\∀x:Str,x≠"__name__"->mb x=bootBuiltins x
 nolimit:base.NoLimit
structure Cx where
 prog:Program
 w:World
 K:W.Frag
 mg:Str->Option Value
 base:Heap
 A:Around
 N:List Str
 s₀:Shared
 H₀:Hp
 env:Env
 outer:List Env
 stack:List Env
 ex:List Addr
 fn:Str->Bool
 calm:Bool
 pn:List (Addr×Obj)
 xe:Value->Shared->Prop
def wR(l:List Env):List Addr:=l.filterMap (·.frame)
abbrev Cx.fs(X:Cx):List Addr:=wR X.outer
def Tj(a:Scope)(x:Str):Prop:=a.names.lookup x=some .local\/a.names.lookup x=some .cell\/a.names.lookup x=some .free
def Loc(a:Scope)(x:Str):Prop:=a.names.lookup x=some .local\/a.names.lookup x=some .cell
def Look(env:Env)(h:Heap)(m:Str->Option Value)(x:Str)(u:Value):Prop:=
 (env.kindOf x=some .local/\m x=some u)\/((env.kindOf x=some .cell\/env.kindOf x=some .free)/\∃c,env.cells.lookup x=some c/\h.IsCell c (some u))
structure Cx.Ok(X:Cx):Prop where
 mod:Mod X.K X.mg X.base
 kind:X.env.scope.kind=.function
 glob:X.env.globals=mainGlobals
 blt:X.env.builtins=builtinsNs
 above:X.s₀.heap.objs.size<=X.env.locals
 inj:∀x y c,X.env.cells.lookup x=some c->X.env.cells.lookup y=some c->x=y
 has:∀x,(X.env.kindOf x=some .cell\/X.env.kindOf x=some .free)->∃c,X.env.cells.lookup x=some c
 MA:∀x c,X.fn x=true->X.env.cells.lookup x=some c->X.s₀.heap.objs.size<=c
 hd:X.calm=true->X.A.handled=none
 frames:X.A.frames=some X.stack
 OC:X.stack=X.outer\/(X.stack=X.env::X.outer/\X.env.frame=some X.env.locals)
 RP:∀b∈X.ex,b≠X.env.locals/\∀x c,X.env.cells.lookup x=some c->c≠b
 bs:∀b o,X.base.get? b=some o->X.s₀.heap.get? b=some o/\X.H₀ b=none
 zu:X.base.objs.size<=X.s₀.heap.objs.size
 vv:∀b o,X.base.get? b=some o->b∉X.ex
 xh:∀b∈X.ex,b∉X.fs
 lT:X.s₀.heap.FunFrames X.base X.outer
 Fd:∀b∈X.fs,X.H₀ b=none
structure Inv(X:Cx)(pins:List (Addr×Obj))(σ:List (Option V))(H:Hp)(s:Shared):Prop where
 ok:X.Ok
 os:s.os=X.s₀.os
 bare:AllBare s.gens
 base:Un X.fs X.ex X.H₀ H X.s₀.heap s.heap
 loc:∃m,s.heap.Ns X.env.locals m/\∀(i:Nat) (x:Str) (v:V),X.N[i]?=some x->σ[i]?=some (some v)->Tj X.env.scope x->∃u,RelV v u/\Look X.env s.heap m x u
 cell:∀x c,X.env.cells.lookup x=some c->∃v,s.heap.IsCell c v
 free:H X.env.locals=none
 iq:∀x c,X.env.cells.lookup x=some c->H c=none
 pin:∀p∈X.pn++pins,s.heap.get? p.1=some p.2/\H p.1=none/\p.1≠X.env.locals/\p.1∉X.fs/\∀v,p.2.data≠.cell v
 aZ:lY X.prog X.w H s.heap
 len:σ.length=X.N.length
section
variable {X:Cx}{pins:List (Addr×Obj)}{σ:List (Option V)}{H H':Hp}{s:Shared}{h':Heap}
theorem Cx.Ok.OD(a:X.Ok){b:Addr}{o:Obj}(e:X.base.get? b=some o):b∉X.fs:=λc=>by
 have:=(a.lT.mem c).1;rw[e]at this;cases this
theorem Inv.bs(I:Inv X pins σ H s):∀b o,X.base.get? b=some o->s.heap.get? b=some o/\H b=none:=λb o e=>
 ⟨I.base.keep b o (I.ok.bs b o e).1 (I.ok.bs b o e).2 (I.ok.OD e) (I.ok.vv b o e),I.base.free b o (I.ok.bs b o e).1 (I.ok.bs b o e).2 (I.ok.vv b o e)⟩
theorem Inv.bk(I:Inv X pins σ H s):∀b o,X.base.get? b=some o->s.heap.get? b=some o:=λb o e=>(I.bs b o e).1
theorem Inv.mod(I:Inv X pins σ H s):Mod X.K X.mg X.base:=I.ok.mod
theorem Inv.ic(I:Inv X pins σ H s):X.K.In s.heap:=I.ok.mod.xg.keeps I.bk
theorem Inv.fr(I:Inv X pins σ H s):∃m,Fr X.base X.env.locals s.heap m:=
 let ⟨m,a,_⟩:=I.loc
 ⟨m,a,I.bk,aap I.ok.zu I.ok.above⟩
theorem Inv.lt(I:Inv X pins σ H s):X.env.locals<s.heap.objs.size:=let ⟨_,a,_⟩:=I.loc;a.lt
theorem Inv.sz(I:Inv X pins σ H s):X.s₀.heap.objs.size<=s.heap.objs.size:=aap I.ok.above (L' I.lt)
theorem Inv.OE(I:Inv X pins σ H s){a:Addr}(h:s.heap.objs.size<=a):a∉X.fs:=λa=>by
 obtain⟨_,o,b,_⟩:=I.ok.lT.mem a;calc absurd (R' (S' b) (aap I.sz h)) (Nat.lt_irrefl _)
theorem Inv.Fe(I:Inv X pins σ H s):∀x c,X.env.cells.lookup x=some c->c≠X.env.locals:=λx c e z=>by
 obtain⟨v,o,a,b⟩:=I.cell x c e;obtain⟨m,⟨g,h,i,d,f,_⟩,_⟩:=I.loc;rw[z,d]at a;cases a;rw[f]at b;cases b
theorem Inv.lT(I:Inv X pins σ H s):s.heap.FunFrames X.base X.outer:=by
 have a:∀(l:List Env),(∀b∈wR l,b∈X.fs)->X.s₀.heap.FunFrames X.base l->s.heap.FunFrames X.base l:=by
  intro l;induction l with
  |nil=>intro _ _;trivial
  |cons c r h=>
   intro g e;obtain⟨i,⟨L,o,c,j,f,k⟩,l⟩:=e;have d:L∈X.fs:=g L (by unfold wR;rw[List.filterMap_cons,c];calc aaL);obtain⟨m,e⟩:=I.base.slot L o f (I.ok.Fd L d) d λz=>I.ok.xh L z d;exact⟨i,⟨L,_,c,j,e,k⟩,h (λb f=>g b (by unfold wR;rw[List.filterMap_cons,c];calc aaE _ f)) l⟩
 calc a X.outer (λ_ f=>f) I.ok.lT
theorem Inv.stack(I:Inv X pins σ H s):s.heap.FunFrames X.base X.stack:=by
 rcases I.ok.OC with e|⟨e,a⟩
 ·rw[e];exact I.lT
 ·rw[e];obtain⟨m,b,_⟩:=I.loc;calc .cons (by rw[I.ok.kind];decide) a b ?_ I.lT;calc Heap.get?_none_of_le (aap I.ok.zu I.ok.above)
theorem Inv.vz(I:Inv X pins σ H s):∀b∈wR X.stack,b∈X.env.locals::X.fs:=λb a=>by
 rcases I.ok.OC with e|⟨e,b⟩
 ·rw[e]at a;exact aaE _ a
 ·rw[e]at a;unfold wR at a;rw[List.filterMap_cons,b]at a;calc a
theorem Inv.qV(I:Inv X pins σ H s):∀b∈wR X.stack,H b=none:=λb a=>by
 rcases List.mem_cons.mp (I.vz b a) with e|a
 ·rw[e];exact I.free
 ·obtain⟨_,o,c,_⟩:=I.ok.lT.mem a;calc I.base.free b o c (I.ok.Fd b a) λz=>I.ok.xh b z a
theorem Inv.step{g':Array GenState}{t':Nat}{d':Drawn}(I:Inv X pins σ H s)
  (j:∀b∈ch,(b∈X.ex\/X.s₀.heap.objs.size<=b)/\b≠X.env.locals/\(∀x c,X.env.cells.lookup x=some c->c≠b)/\∀p∈X.pn++pins,p.1≠b)
  (keep:∀b o,b≠X.env.locals->b∉X.fs->b∉ch->s.heap.get? b=some o->H b=none->h'.get? b=some o)
  (slot:∀b o,b≠X.env.locals->b∈X.fs->b∉ch->s.heap.get? b=some o->H b=none->∃D,h'.get? b=some {o with slots:=D}) (free:∀b o,b∉ch->s.heap.get? b=some o->H b=none->H' b=none)
  (there:∀b o,b∉ch->s.heap.get? b=some o->∃k,h'.get? b=some k)
  (J:∀b xs,H b=some (.tup xs)->H' b=some (.tup xs)) (K:∀b o u,H b=some (.zg o u)->H' b=some (.zg o u)) (L:∀b B,H b=some (.OA B)->∃q,H' b=some (.OA (B++q)))
  (M:∀m,s.heap.Ns X.env.locals m->h'.Ns X.env.locals m) (N:lY X.prog X.w H' h') (O:AllBare g'):
  Inv X pins σ H' {s with heap:=h',gens:=g',drawn:=d',toks:=t'}:=by
 have t:∀b o,X.s₀.heap.get? b=some o->b≠X.env.locals:=λb o e=>Y' (R' (S' e) I.ok.above);have C:∀b o,X.s₀.heap.get? b=some o->b∉X.ex->b∉ch:=λb o e a g=>by
  rcases(j b g).1 with z|z
  ·exact a z
  ·exact absurd (R' (S' e) z) (Nat.lt_irrefl _)
 have d:∀x c,X.env.cells.lookup x=some c->∀v,s.heap.IsCell c v->h'.IsCell c v:=λx c e v ⟨o,h,E⟩=>by
  have y:c∉ch:=λz=>(j c z).2.2.1 x c e rfl;by_cases F:c∈X.fs
  ·obtain⟨D,q⟩:=slot c o (I.Fe x c e) F y h (I.iq x c e);exact⟨_,q,E⟩
  ·exact⟨o,keep c o (I.Fe x c e) F y h (I.iq x c e),E⟩
 refine⟨I.ok,I.os,O,⟨λb o e n g a=>?_,λb o e n g a=>?_,λb o e n a=>?_,λb o e a=>?_,λb xs e=>J b xs (I.base.aV b xs e),λb o xs e=>K b o xs (I.base.oQ b o xs e),λb B e=>?_⟩,?_,λx c e=>?_,?_,λx c e=>?_,λp G=>?_,N,I.len⟩
 ·exact keep b o (t b o e) g (C b o e a) (I.base.keep b o e n g a) (I.base.free b o e n a)
 ·obtain⟨D,f⟩:=I.base.slot b o e n g a;obtain⟨q,A⟩:=slot b _ (t b o e) g (C b o e a) f (I.base.free b o e n a);exact⟨q,A⟩
 ·obtain⟨k,f⟩:=I.base.there b o e a;exact free b k (C b o e a) f (I.base.free b o e n a)
 ·obtain⟨k,f⟩:=I.base.there b o e a;exact there b k (C b o e a) f
 ·obtain⟨a,f⟩:=I.base.qB b B e;obtain⟨g,A⟩:=L b _ f;exact⟨a++g,by rw[A,Array.append_assoc]⟩
 ·obtain⟨m,a,P⟩:=I.loc;calc⟨m,M m a,λi x v f A Q=>?_⟩;obtain⟨u,r,l⟩:=P i x v f A Q;calc⟨u,r,?_⟩;rcases l with l | ⟨k,c,e,z⟩
  ·exact .inl l
  ·exact .inr ⟨k,c,e,d x c e _ z⟩
 ·obtain⟨v,z⟩:=I.cell x c e;exact⟨v,d x c e v z⟩
 ·obtain⟨m,⟨o,_,_,h,_⟩,_⟩:=I.loc;exact free _ o (λz=>(j _ z).2.1 rfl) h I.free
 ·obtain⟨v,o,h,E⟩:=I.cell x c e;exact free c o (λz=>(j c z).2.2.1 x c e rfl) h (I.iq x c e)
 ·obtain⟨e,n,a,b,d⟩:=I.pin p G;have y:p.1∉ch:=λz=>(j p.1 z).2.2.2 p G rfl;calc⟨keep p.1 p.2 a b y e n,free p.1 p.2 y e n,a,b,d⟩
theorem Inv.un(I:Inv X pins σ H s)(u:Un X.fs [] H H' s.heap h')(f:lY X.prog X.w H' h'):Inv X pins σ H' {s with heap:=h',toks:=t'}:=by
 obtain⟨m,⟨o,a,b,c,r⟩,_⟩:=id I.loc;obtain⟨a,g⟩:=u.any c I.free (by simp);exact I.step (g':=s.gens) (d':=s.drawn) (ch:=[]) (λ_ z=>nomatch z) (λb o _ a _ e n=>u.keep b o e n a (by simp)) (λb o _ a _ e n=>u.slot b o e n a (by simp)) (λb o _ e n=>u.free b o e n (by simp)) (λb o _ e=>u.there b o e (by simp)) u.aV u.oQ u.qB (λa h=>by
  obtain⟨a,i,j,d,k⟩:=h;rw[c] at d;cases d;calc⟨_,i,j,g,k⟩) f I.bare
theorem Inv.call{g':Array GenState}{d':Drawn}(I:Inv X pins σ H s)(u:Un (wR X.stack) ch H H' s.heap h')(i:lY X.prog X.w H' h')(j:AllBare g')
  (f:∀b∈ch,(b∈X.ex\/X.s₀.heap.objs.size<=b)/\b≠X.env.locals/\(∀x c,X.env.cells.lookup x=some c->c≠b)/\∀p∈X.pn++pins,p.1≠b):
  Inv X pins σ H' {s with heap:=h',gens:=g',drawn:=d',toks:=t'}:=by
 obtain⟨m,⟨o,a,c,g,r⟩,_⟩:=id I.loc;obtain⟨a,d⟩:=u.any g I.free λz=>(f _ z).2.1 rfl;exact I.step (ch:=ch) f (λb o d c a e n=>u.keep b o e n (λz=>(List.mem_cons.mp (I.vz b z)).elim d c) a) (λb o _ _ a e n=>u.any e n a) (λb o a e n=>u.free b o e n a) (λb o a e=>u.there b o e a) u.aV u.oQ u.qB (λc k=>by
  obtain⟨a,l,q,h,t⟩:=k;rw[g] at h;cases h;calc⟨_,l,q,d,t⟩) i j
theorem Inv.turned{a:Addr}(I:Inv X pins σ H s)(k:∀b o,b≠a->s.heap.get? b=some o->h'.get? b=some o)(j:H a=none)(g:a≠X.env.locals)
  (l:a∈X.ex\/X.s₀.heap.objs.size<=a) (r:∀x c,X.env.cells.lookup x=some c->c≠a) (t:∀p∈X.pn++pins,p.1≠a):Inv X pins σ H {s with heap:=h',toks:=t'}:=by
 have i:∀b u,H b=some u->b≠a:=λb u e z=>by rw[z,j]at e;cases e
 refine I.step (g':=s.gens) (d':=s.drawn) (ch:=[a]) (λb j=>?_) (λb o _ _ d e _=>k b o (λz=>d (by simp[z])) e) (λb o _ _ d e _=>⟨o.slots,k b o (λz=>d (by simp[z])) e⟩) (λ_ _ _ _ n=>n)
  (λb o d e=>⟨o,k b o (λz=>d (by simp[z])) e⟩) (λ_ _ e=>e) (λ_ _ _ e=>e) (λb m e=>⟨#[],by rw[e];simp⟩) (λm v=>?_) (λb u e=>?_) I.bare
 ·have e:b=a:=by simpa using j
  subst e;exact⟨l,g,r,t⟩
 ·obtain⟨o,a,j,l,r⟩:=v;exact⟨o,a,j,k _ o (Ne.symm g) l,r⟩
 ·calc(I.aZ b u e).aL (λc v d q=>k c v ?_ q) (λ_ q=>q) λ_ _ q=>q;rcases d with z | z
  ·rw[z];exact i b u e
  ·calc i c _ z
theorem Inv.tok(I:Inv X pins σ H s)(t:Nat):Inv X pins σ H {s with toks:=t}:=I.un (h':=s.heap) (t':=t) Un.refl I.aZ
theorem Inv.kept(I:Inv X pins σ H s)(k:∀b u,s.heap.get? b=some u->h'.get? b=some u):Inv X pins σ H {s with heap:=h',toks:=t'}:=I.un (Un.kept k) (I.aZ.kept k)
theorem Inv.laid{a:Addr}{o:HO}(I:Inv X pins σ H s)(k:∀b u,s.heap.get? b=some u->h'.get? b=some u)(c:s.heap.objs.size<=a)(d:cQ X.prog X.w (upd H a o) h' a o):
  Inv X pins σ (upd H a o) {s with heap:=h',toks:=t'}:=I.un (Un.laid k c (I.aZ.fresh c)) (I.aZ.laid k c d)
theorem Inv.write{x e:Addr}{o:HO}(I:Inv X pins σ H s)(c:Th (H x))(d:e=x\/H e=some (.own x))(k:∀b u,b≠e->s.heap.get? b=some u->h'.get? b=some u)(f:∃u,h'.get? e=some u)
  (a:cQ X.prog X.w (upd H x o) h' x o):Inv X pins σ (upd H x o) {s with heap:=h',toks:=t'}:=I.un (Un.write c d k f) (I.aZ.write c d k f a)
theorem Inv.vA{a:List (Addr×Obj)}(I:Inv X pins σ H s)(h:∀p∈a,s.heap.get? p.1=some p.2/\H p.1=none/\p.1≠X.env.locals/\p.1∉X.fs/\∀v,p.2.data≠.cell v):Inv X a σ H s:=
 ⟨I.ok,I.os,I.bare,I.base,I.loc,I.cell,I.free,I.iq,λp a=>(List.mem_append.mp a).elim (λz=>I.pin p (List.mem_append_left _ z)) (h p),I.aZ,I.len⟩
theorem rE{N:List Str}(c:N.Nodup){i j:Nat}{x:Str}(a:N[i]?=some x)(b:N[j]?=some x):i=j:=by
 obtain⟨e,d⟩:=List.getElem?_eq_some_iff.mp a;obtain⟨g,e⟩:=List.getElem?_eq_some_iff.mp b;calc(List.getElem_inj c).mp (d.trans e.symm)
theorem CV{M:Model}{i:Nat}{x:Str}{v:V}{u:Value}{Q:Unit->Shared->Prop}(I:Inv X pins σ H s)(hN:X.N.Nodup)(L:X.N[i]?=some x)(C:Loc X.env.scope x)(r:RelV v u)
  (h:∀s',Inv X pins (σ.set i (some v)) H s'->(∃a,Heap.SameBut a s.heap s'.heap/\(a=X.env.locals\/X.env.cells.lookup x=some a))->Q () s') (hf:X.fn x=true\/X.env.scope.names.lookup x=some .local:=by grind):wpAny M A (storeName X.env x u) Q E s:=by
 obtain⟨m,T,hl⟩:=id I.loc;have OF:(X.env.scope.kind == .class||(X.env.scope.kind == .module&&X.env.locals !=X.env.globals))=false:=by rw[I.ok.kind];rfl
 have To:i<σ.length:=by rw[I.len];exact(List.getElem?_eq_some_iff.mp L).1
 have U:=I.Fe;have l:∀{a:Addr} {h':Heap},(∃o,s.heap.get? a=some o/\H a=none)->Heap.SameBut a s.heap h'->lY X.prog X.w H h':=λ{a h'} v g b M e=>by
  obtain⟨_,_,ME⟩:=v;calc(I.aZ b M e).aL (λc P B q=>(g.2 c ?_).trans q) (λ_ q=>q) λ_ _ q=>q;rintro rfl;rcases B with rfl|B
  ·rw[ME]at e;cases e
  ·rw[ME]at B;cases B
 rcases C with G|G
 ·calc wpAny_storeName_local G T (λh' v g=>?_) OF;obtain⟨M,_,_,a,_⟩:=id T;refine h _ ⟨I.ok,I.os,I.bare,⟨λb o e n J C=>?_,λb o e n J C=>?_,I.base.free,λb o e C=>?_,I.base.aV,I.base.oQ,I.base.qB⟩,⟨_,v,λj y W t F Y=>?_⟩,λy c e=>?_,I.free,I.iq,λp Z=>?_,l ⟨M,a,I.free⟩ g,by simpa using I.len⟩ ⟨_,g,.inl rfl⟩
  ·exact(g.2 b (Y' (R' (S' e) I.ok.above))).trans (I.base.keep b o e n J C)
  ·obtain⟨sl,t⟩:=I.base.slot b o e n J C;exact⟨sl,(g.2 b (Y' (R' (S' e) I.ok.above))).trans t⟩
  ·obtain⟨o',t⟩:=I.base.there b o e C;exact⟨o',(g.2 b (Y' (R' (S' e) I.ok.above))).trans t⟩
  ·by_cases K:j=i
   ·subst K;rw[L] at t;cases t;rw[List.getElem?_set_self To] at F
    cases F;exact⟨u,r,.inl ⟨G,by simp⟩⟩
   ·rw[List.getElem?_set_ne (Ne.symm K)] at F;obtain⟨u',r',q⟩:=hl j y W t F Y;calc⟨u',r',?_⟩;rcases q with⟨k,e⟩ | ⟨k,c,e,z⟩
    ·calc .inl ⟨k,?_⟩;have:y≠x:=λe=>K (rE hN t (e▸L));simp[this,e]
    ·exact .inr ⟨k,c,e,z.sameBut g (U y c e)⟩
  ·obtain⟨P,z⟩:=I.cell y c e;exact⟨P,z.sameBut g (U y c e)⟩
  ·obtain⟨e,n,R,nf,d⟩:=I.pin p Z;exact⟨(g.2 p.1 R).trans e,n,R,nf,d⟩
 ·have Tp:X.fn x=true:=by
   rcases hf with z|z
   ·exact z
   ·rw[z]at G;cases G
  obtain⟨c,B⟩:=I.ok.has x (.inl G);obtain⟨P,z⟩:=I.cell x c B;calc wpAny_storeName_cell I.ok.kind G B z (λh' MG g=>?_);obtain⟨oc,XR,Zh⟩:=id z;refine h {s with heap:=h'} ⟨I.ok,I.os,I.bare,⟨λb o e n J C=>?_,λb o e n J C=>?_,I.base.free,λb o e C=>?_,I.base.aV,I.base.oQ,I.base.qB⟩,⟨m,T.sameBut g (Ne.symm (U x c B)),λj y W t F Y=>?_⟩,λy S e=>?_,I.free,I.iq,λp Z=>?_,l ⟨oc,XR,I.iq x c B⟩ g,by simpa using I.len⟩ ⟨c,g,.inr B⟩
  ·exact(g.2 b (Y' (R' (S' e) (I.ok.MA x c Tp B)))).trans (I.base.keep b o e n J C)
  ·obtain⟨sl,t⟩:=I.base.slot b o e n J C;exact⟨sl,(g.2 b (Y' (R' (S' e) (I.ok.MA x c Tp B)))).trans t⟩
  ·obtain⟨o',t⟩:=I.base.there b o e C;exact⟨o',(g.2 b (Y' (R' (S' e) (I.ok.MA x c Tp B)))).trans t⟩
  ·by_cases K:j=i
   ·subst K;rw[L] at t;cases t;rw[List.getElem?_set_self To] at F
    cases F;exact⟨u,r,.inr ⟨.inl G,c,B,MG⟩⟩
   ·rw[List.getElem?_set_ne (Ne.symm K)] at F;obtain⟨u',r',q⟩:=hl j y W t F Y;calc⟨u',r',?_⟩;rcases q with q | ⟨k,S,e,z'⟩
    ·exact .inl q
    ·calc .inr ⟨k,S,e,z'.sameBut g ?_⟩;rintro rfl;exact K (rE hN t (I.ok.inj _ _ _ e B▸L))
  ·by_cases O:S=c
   ·subst O;exact⟨_,MG⟩
   ·obtain⟨a,b⟩:=I.cell y S e;exact⟨a,b.sameBut g O⟩
  ·obtain⟨e,n,R,nf,d⟩:=I.pin p Z;calc⟨(g.2 p.1 ?_).trans e,n,R,nf,d⟩;intro q;rw[q,XR]at e;have a:oc=p.2:=Option.some.inj e;calc d P (by rw[<-a];calc Zh)
theorem jG{M:Model}{i:Nat}{x:Str}{v:V}{u:Value}{Q:Unit->Shared->Prop}(I:Inv X pins σ H s)(a:X.N.Nodup)(b:X.N[i]?=some x)(c:Loc X.env.scope x)(r:RelV v u)
  (h:∀s',Inv X pins (σ.set i (some v)) H s'->Q () s') (d:X.fn x=true\/X.env.scope.names.lookup x=some .local:=by grind):wpAny M A (storeName X.env x u) Q E s:=
 CV I a b c r (λs' e _=>h s' e) d
theorem Inv.MH{s':Shared}(I:Inv X pins σ H s)(f:s'.os=s.os)(u:Un (wR X.stack) ch H H' s.heap s'.heap)(g:lY X.prog X.w H' s'.heap)(h:AllBare s'.gens)
  (i:∀b∈ch,(b∈X.ex\/X.s₀.heap.objs.size<=b)/\b≠X.env.locals/\(∀x c,X.env.cells.lookup x=some c->c≠b)/\∀p∈X.pn++pins,p.1≠b):Inv X pins σ H' s':=by
 obtain⟨h',a,d,t',b⟩:=s';have e:b=s.os:=f;subst e;calc I.call (g':=a) (t':=t') (d':=d) u g h i
end
abbrev XK:=Value->Option Addr->Hp->Prop
abbrev St:=List (Option V)
abbrev VK:=V->Hp->Prop
abbrev TE:=St->Hp->VK->Prop
abbrev TT:=St->Hp->(Bool->Hp->Prop)->Prop
abbrev TA:=St->Hp->(List V->Hp->Prop)->Prop
structure Ends where
 nx:St->Hp->Prop
 rt:VK
 bk:St->Hp->Prop:=λ_ _=>False
 ct:St->Hp->Prop:=λ_ _=>False
abbrev TS:=Ends->St->Hp->Prop
def EP(X:Cx)(pins:List (Addr×Obj))(σ:St)(Q:VK)(u:Value)(s':Shared):Prop:=∃v a,Inv X pins σ a s'/\RelV v u/\Q v a
def TP(X:Cx)(pins:List (Addr×Obj))(σ:St)(Q:Bool->Hp->Prop)(b:Bool)(s':Shared):Prop:=∃a,Inv X pins σ a s'/\Q b a
def AP(X:Cx)(pins:List (Addr×Obj))(σ:St)(Q:List V->Hp->Prop)(us:List Value)(s':Shared):Prop:=∃vs a,Inv X pins σ a s'/\Vals vs us/\Q vs a
def SP(X:Cx)(pins:List (Addr×Obj))(D:Ends)(f:Flow)(s':Shared):Prop:=
 match f with
 | .next=>∃a b,Inv X pins a b s'/\D.nx a b
 | .brk=>∃a b,Inv X pins a b s'/\D.bk a b
 | .cont=>∃a b,Inv X pins a b s'/\D.ct a b
 | .ret u=>∃v a b,Inv X pins a b s'/\RelV v u/\D.rt v b
structure PE(X:Cx)(e:Expr)(t:TE):Prop where
 out:
  ∀(pins:List (Addr×Obj)) (s:Shared) (σ:St) (H:Hp) (Q:VK),Inv X pins σ H s->t σ H Q->wpAny (model X.prog X.w) X.A (eval e X.env) (EP X pins σ Q) X.xe s
instance {X:Cx}{e:Expr}{t:TE}:CoeFun (PE X e t) λ_=>
 ∀(pins:List (Addr×Obj)) (s:Shared) (σ:St) (H:Hp) (Q:VK),Inv X pins σ H s->t σ H Q->wpAny (model X.prog X.w) X.A (eval e X.env) (EP X pins σ Q) X.xe s:=⟨PE.out⟩
structure PT(X:Cx)(e:Expr)(t:TT):Prop where
 out:
  ∀(pins:List (Addr×Obj)) (s:Shared) (σ:St) (H:Hp) (Q:Bool->Hp->Prop),Inv X pins σ H s->t σ H Q->wpAny (model X.prog X.w) X.A (isTrue e X.env (eval e X.env)) (TP X pins σ Q) X.xe s
instance {X:Cx}{e:Expr}{t:TT}:CoeFun (PT X e t) λ_=>
 ∀(pins:List (Addr×Obj)) (s:Shared) (σ:St) (H:Hp) (Q:Bool->Hp->Prop),Inv X pins σ H s->t σ H Q->wpAny (model X.prog X.w) X.A (isTrue e X.env (eval e X.env)) (TP X pins σ Q) X.xe s:=⟨PT.out⟩
structure PW(X:Cx)(e:Expr)(t:TT):Prop where
 out:
  ∀(whole:Sem Value) (pins:List (Addr×Obj)) (s:Shared) (σ:St) (H:Hp) (Q:Bool->Hp->Prop),Inv X pins σ H s->t σ H Q->wpAny (model X.prog X.w) X.A (isTrue e X.env whole) (TP X pins σ Q) X.xe s
instance {X:Cx}{e:Expr}{t:TT}:CoeFun (PW X e t) λ_=>
 ∀(a:Sem Value) (pins:List (Addr×Obj)) (s:Shared) (σ:St) (H:Hp) (Q:Bool->Hp->Prop),Inv X pins σ H s->t σ H Q->wpAny (model X.prog X.w) X.A (isTrue e X.env a) (TP X pins σ Q) X.xe s:=⟨PW.out⟩
theorem PW.pt{X:Cx}{e:Expr}{t:TT}(h:PW X e t):PT X e t:=⟨h.out _⟩
structure PA(X:Cx)(es:List Expr)(t:TA):Prop where
 out:
  ∀(pos:Pos) (pins:List (Addr×Obj)) (s:Shared) (σ:St) (H:Hp) (Q:List V->Hp->Prop),Inv X pins σ H s->t σ H Q->wpAny (model X.prog X.w) X.A (spliced (backTo pos (starEach es X.env))) (AP X pins σ Q) X.xe s
instance {X:Cx}{a:List Expr}{t:TA}:CoeFun (PA X a t) λ_=>
 ∀(pos:Pos) (pins:List (Addr×Obj)) (s:Shared) (σ:St) (H:Hp) (Q:List V->Hp->Prop),Inv X pins σ H s->t σ H Q->wpAny (model X.prog X.w) X.A (spliced (backTo pos (starEach a X.env))) (AP X pins σ Q) X.xe s:=⟨PA.out⟩
structure PS(X:Cx)(st:Stmt)(t:TS):Prop where
 out:
  ∀(pins:List (Addr×Obj)) (s:Shared) (σ:St) (H:Hp) (D:Ends),Inv X pins σ H s->t D σ H->wpAny (model X.prog X.w) X.A (exec st X.env) (SP X pins D) X.xe s
instance {X:Cx}{a:Stmt}{t:TS}:CoeFun (PS X a t) λ_=>
 ∀(pins:List (Addr×Obj)) (s:Shared) (σ:St) (H:Hp) (D:Ends),Inv X pins σ H s->t D σ H->wpAny (model X.prog X.w) X.A (exec a X.env) (SP X pins D) X.xe s:=⟨PS.out⟩
structure qW(X:Cx)(st:List Stmt)(t:TS):Prop where
 out:
  ∀(pins:List (Addr×Obj)) (s:Shared) (σ:St) (H:Hp) (D:Ends),Inv X pins σ H s->t D σ H->wpAny (model X.prog X.w) X.A (execs st X.env) (SP X pins D) X.xe s
instance {X:Cx}{a:List Stmt}{t:TS}:CoeFun (qW X a t) λ_=>
 ∀(pins:List (Addr×Obj)) (s:Shared) (σ:St) (H:Hp) (D:Ends),Inv X pins σ H s->t D σ H->wpAny (model X.prog X.w) X.A (execs a X.env) (SP X pins D) X.xe s:=⟨qW.out⟩
theorem cX{α:Type}{t:Sem α}{Q b:α->Shared->Prop}{M:Model}{s:Shared}(h:wpAny M A t Q E s)(c:∀a s,Q a s->b a s):wpAny M A t b E s:=aas h c λ_ _ x=>x
end
section
variable {pins:List (Addr×Obj)}{pos:Pos}{σ:St}{x:Str}{u:Value}{E Q:Value->Shared->Prop}
section
variable {X:Cx}
theorem bin{a b:Expr}{c d:TE}(i:PE X a c)(j:PE X b d){pins:List (Addr×Obj)}{s:Shared}{σ:St}{H:Hp}{R:V->V->Hp->Prop}(I:Inv X pins σ H s)(h:c σ H λx g=>d σ g λy c=>R x y c)
  {α:Type} {Q:α->Shared->Prop} {f:Value->Value->Sem α}
  (k:∀v u e x y c,Inv X pins σ c e->RelV x v->RelV y u->R x y c->wpAny (model X.prog X.w) X.A (f v u) Q X.xe e):
  wpAny (model X.prog X.w) X.A (eval a X.env) (λv d=>wpAny (model X.prog X.w) X.A (eval b X.env) (λu a=>wpAny (model X.prog X.w) X.A (f v u) Q X.xe a) X.xe d) X.xe s:=by
 calc cX (i pins s σ H _ I h) λv b a=>?_;nofun;obtain⟨x,g,d,f,h⟩:=a;ac_rfl;calc cX (j pins b σ g _ d h) λu e a=>?_;nofun;obtain⟨y,c,b,d,g⟩:=a;ac_rfl;calc k v u e x y c b f d g
def Ff(i:Nat):TE:=λσ H Q=>∃v,σ[i]?=some (some v)/\Q v H
def tC(v:V):TE:=λ_ H Q=>Q v H
theorem Fg{i:Nat}(c:X.N[i]?=some x)(j:Tj X.env.scope x)(d:(x==("__debug__":Str))=false:=by decide)(k:(x==("__classdict__":Str))=false:=by decide):PE X (.Name x pos) (Ff i):=by
 walk_at "xc";obtain⟨v,e,h⟩:=h;obtain⟨m,n,o⟩:=I.loc;obtain⟨u,r,l⟩:=o i x v c e j;have a:EP X pins σ Q u s:=⟨v,H,I,r,h⟩
 rcases l with⟨b,e⟩|⟨b,c,f,g⟩
 ·exact wpAny_Name (wpAny_loadName_local I.ok.kind b n e a) d
 ·rcases b with b | b
  ·exact wpAny_Name (wpAny_loadName_cell I.ok.kind b f g a) d
  ·calc wpAny_Name (wpAny_loadName_free I.ok.kind b f g a k) d
theorem ai{i j pos}:PE X (.Constant (.int i) j pos) (tC (.int i)):=.mk λ_ _ _ H _ I h=>wpAny_Constant_int ⟨.int i,H,I.tok _,⟨_,rfl⟩,h⟩
theorem gP{b j pos}:PE X (.Constant (.bool b) j pos) (tC (.bl b)):=.mk λ_ _ _ H _ I h=>Constant_bool ⟨.bl b,H,I,rfl,h⟩
theorem mi{j pos}:PE X (.Constant .none j pos) (tC .bM):=.mk λ_ _ _ H _ I h=>Constant_none ⟨.bM,H,I,rfl,h⟩
theorem aD{x j pos}:PE X (.Constant (.str x) j pos) (tC (.str x)):=.mk λ_ _ _ H _ I h=>Calls.Constant_str ⟨.str x,H,I.tok _,⟨_,rfl⟩,h⟩
def Gl(X:Cx)(x:Str):Prop:=X.env.kindOf x=some .globalImplicit
theorem j0{s:Shared}{H:Hp}(I:Inv X pins σ H s)(a:Gl X x)(b:X.mg x=some u)(h:Q u s)
  (c:(x==("__debug__":Str))=false:=by decide):wpAny (model X.prog X.w) X.A (eval (.Name x pos) X.env) Q E s:=
 Calls.Name_function_global I.ok.kind a (Calls.loadGlobal_global (by rw[I.ok.glob];calc I.mod.glob.keeps I.bk) b h) c
theorem oS{s:Shared}{H:Hp}(I:Inv X pins σ H s)(a:Gl X x)(b:X.mg x=none)(c:bootBuiltins x=some u)(h:Q u s)
  (d:x≠"__name__":=by decide) (e:(x==("__debug__":Str))=false:=by decide):wpAny (model X.prog X.w) X.A (eval (.Name x pos) X.env) Q E s:=by
 obtain⟨i,f,g⟩:=I.mod.blt;calc Calls.Name_function_global I.ok.kind a (Calls.loadGlobal_builtin (by rw[I.ok.glob];calc I.mod.glob.keeps I.bk) b (by rw[I.ok.blt];calc f.keeps I.bk) ((g x d).trans c) h) e
theorem cF{v:V}(a:Gl X x)(b:X.mg x=some u)(r:RelV v u)(c:(x==("__debug__":Str))=false:=by decide):PE X (.Name x pos) (tC v):=
 .mk λ_ _ _ H _ I h=>j0 I a b ⟨v,H,I,r,h⟩ c
theorem cN{v:V}(a:Gl X x)(b:X.mg x=none)(c:bootBuiltins x=some u)(r:RelV v u)(d:x≠"__name__":=by decide)(e:(x==("__debug__":Str))=false:=by decide):PE X (.Name x pos) (tC v):=
 .mk λ_ _ _ H _ I h=>oS I a b c ⟨v,H,I,r,h⟩ d e
variable {a b:Expr}{ta tb:TE}{pos:Pos}
structure PC(X:Cx)(op:CmpOp)(a b:Expr)(t:TE):Prop where
 out:
  ∀(pins:List (Addr×Obj)) (s:Shared) (σ:St) (H:Hp) (Q:VK),Inv X pins σ H s->t σ H Q->
   wpAny (model X.prog X.w) X.A (eval a X.env) (λv s₁=>wpAny (model X.prog X.w) X.A (eval b X.env) (λu s₂=>wpAny (model X.prog X.w) X.A (compareOp op v u) (EP X pins σ Q) X.xe s₂) X.xe s₁) X.xe s
instance {X:Cx}{e:CmpOp}{a b:Expr}{t:TE}:CoeFun (PC X e a b t) λ_=>
 ∀(pins:List (Addr×Obj)) (s:Shared) (σ:St) (H:Hp) (Q:VK),Inv X pins σ H s->t σ H Q->
  wpAny (model X.prog X.w) X.A (eval a X.env) (λv c=>wpAny (model X.prog X.w) X.A (eval b X.env) (λu d=>wpAny (model X.prog X.w) X.A (compareOp e v u) (EP X pins σ Q) X.xe d) X.xe c) X.xe s:=⟨PC.out⟩
theorem Fh(b:Expr){a:CmpOp}(h:a≠.In)(c:a≠.NotIn):behindInMarks a b=false:=by
 have d:(a==CmpOp.In)=false:=by cases a<;>first|rfl|exact absurd rfl h
 have e:(a==CmpOp.NotIn)=false:=by cases a<;>first|rfl|exact absurd rfl c
 cases b<;>simp[behindInMarks,d,e]
def tB(t:TE):TT:=λσ H Q=>t σ H λx a=>∃c,x=.bl c/\Q c a
theorem OG{c:CmpOp}{t:TE}(h:PC X c a b t)(e:behindInMarks c b=false:=by first|calc Fh _ (by decide) (by decide)|rfl):PT X (.Compare a [c] [b] pos) (tB t):=by
 calc⟨?_⟩;intro pins s σ H Q I c;calc wpAny_isTrue_Compare1 (cX (h pins s σ H _ I c) λv f e=>cX e λu c f=>cX f λc h g=>?_) e;nofun;obtain⟨x,i,j,k,l⟩:=g;ac_rfl;obtain⟨d,rfl,q⟩:=l
 cases k;calc wpAny_truthy_bool ⟨i,j,q⟩
theorem OH{e:Expr}{t:TE}(h:PE X e t)(b:∀a,isTrue e X.env a=(do let v <-a;standAt e.pos;holding [v] (truthy v)):=by intro _;rfl):PT X e (tB t):=by
 calc⟨?_⟩;intro pins s σ H Q I a;calc isTrue_plain (cX (h pins s σ H _ I a) λv e c=>?_) (b _);nofun;obtain⟨x,f,g,i,j⟩:=c;ac_rfl;obtain⟨d,rfl,q⟩:=j
 cases i;calc wpAny_truthy_bool ⟨f,g,q⟩
variable {tA XS:TT}{rest:List Expr}
def OI(t u:TT):TT:=λσ H Q=>t σ H λc a=>if c=true then u σ a Q else Q false a
def Zi(t u:TT):TT:=λσ H Q=>t σ H λc a=>if c=true then Q true a else u σ a Q
def OJ(t:TT):TT:=λσ H Q=>t σ H λc a=>Q (!c) a
theorem pw_and1(b:PT X a tA):PW X (.BoolOp .And [a] pos) tA:=by
 calc⟨?_⟩;intro d pins s σ H Q I h;refine isTrue_and (cX (b pins s σ H Q I h) λc f e=>?_)
 cases c with
 |true=>calc isTrue_and_nil e
 |false=>calc e
theorem pw_or1(b:PT X a tA):PW X (.BoolOp .Or [a] pos) tA:=by
 calc⟨?_⟩;intro d pins s σ H Q I h;refine isTrue_or (cX (b pins s σ H Q I h) λc f e=>?_)
 cases c with
 |false=>calc isTrue_or_nil e
 |true=>calc e
theorem pw_and(g:PT X a tA)(i:PW X (.BoolOp .And (b::rest) pos) XS):PW X (.BoolOp .And (a::b::rest) pos) (OI tA XS):=by
 calc⟨?_⟩;intro j pins s σ H Q I h;calc isTrue_and (cX (g pins s σ H _ I h) λc k l=>?_);nofun;obtain⟨d,e,f⟩:=l;ac_rfl
 cases c with
 |true=>calc i j pins k σ d Q e f
 |false=>calc⟨d,e,f⟩
theorem pw_or(g:PT X a tA)(i:PW X (.BoolOp .Or (b::rest) pos) XS):PW X (.BoolOp .Or (a::b::rest) pos) (Zi tA XS):=by
 calc⟨?_⟩;intro j pins s σ H Q I h;calc isTrue_or (cX (g pins s σ H _ I h) λc k l=>?_);nofun;obtain⟨d,e,f⟩:=l;ac_rfl
 cases c with
 |true=>calc⟨d,e,f⟩
 |false=>calc i j pins k σ d Q e f
theorem bP(b:PT X a tA):PT X (.UnaryOp .Not a pos) (OJ tA):=by
 walk_at "xc";exact isTrue_not (b pins s σ H (λc d=>Q (!c) d) I h)
def Fi(ta tb:TE):TE:=λσ H Q=>ta σ H λx a=>∃c,x=.bl c/\if c=true then tb σ a Q else Q (.bl false) a
def OK(ta tb:TE):TE:=λσ H Q=>ta σ H λx a=>∃c,x=.bl c/\if c=true then Q (.bl true) a else tb σ a Q
def Fj(ta:TE):TE:=λσ H Q=>ta σ H λx a=>∃c,x=.bl c/\Q (.bl (!c)) a
theorem ja{op}{t:TE}(h:PE X a t):PE X (.BoolOp op [a] pos) t:=.mk λpins s σ H Q I b=>BoolOp_one (h pins s σ H Q I b)
theorem jb(g:PE X a ta)(i:PE X (.BoolOp .And (b::rest) pos) tb):PE X (.BoolOp .And (a::b::rest) pos) (Fi ta tb):=by
 walk_at "xc";refine BoolOp_and (cX (g pins s σ H _ I h) λv j k=>?_);nofun;obtain⟨x,e,f,l,d⟩:=k;ac_rfl;obtain⟨c,rfl,d⟩:=d
 cases l;refine wpAny_truthy_bool ?_
 cases c with
 |true=>calc i pins j σ e Q f d
 |false=>calc⟨.bl false,e,f,rfl,d⟩
theorem Tq(g:PE X a ta)(i:PE X (.BoolOp .Or (b::rest) pos) tb):PE X (.BoolOp .Or (a::b::rest) pos) (OK ta tb):=by
 walk_at "xc";refine BoolOp_or (cX (g pins s σ H _ I h) λv j k=>?_);nofun;obtain⟨x,e,f,l,d⟩:=k;ac_rfl;obtain⟨c,rfl,d⟩:=d
 cases l;refine wpAny_truthy_bool ?_
 cases c with
 |false=>calc i pins j σ e Q f d
 |true=>calc⟨.bl true,e,f,rfl,d⟩
theorem Fl(d:PE X a ta):PE X (.UnaryOp .Not a pos) (Fj ta):=by
 walk_at "xc";refine UnaryOp_ (cX (d pins s σ H _ I h) λv j e=>?_);nofun;obtain⟨x,f,g,i,b⟩:=e;ac_rfl;obtain⟨c,rfl,b⟩:=b
 cases i;calc not_of (wpAny_truthy_bool ⟨.bl (!c),f,g,rfl,b⟩)
def Zj(t:TT)(ta tb:TE):TE:=λσ H Q=>t σ H λc a=>if c=true then ta σ a Q else tb σ a Q
theorem Fm{c:Expr}(j:PT X c tA)(k:PE X a ta)(l:PE X b tb):PE X (.IfExp c a b pos) (Zj tA ta tb):=by
 walk_at "xc";refine wpAny_IfExp (cX (j pins s σ H _ I h) λd e c=>?_);nofun;obtain⟨f,g,i⟩:=c;ac_rfl
 cases d with
 |true=>calc k pins e σ f Q g i
 |false=>calc l pins e σ f Q g i
end
end
section
variable {X:Cx}{e tg:Expr}{pins:List (Addr×Obj)}{i:Nat}{σ:St}{x:Str}{te:TE}{K:W.Frag}
def aU(K:W.Frag)(H:Hp)(a:Addr)(xs:List V):Prop:=
 Rd H a (.lst xs)\/
  ∃(o:Obj) (b:Array Value) (n:Nat),K.lookup a=some o/\o.cls=.type "list"/\o.dict=none/\o.data=.seq b n/\b.size<=sizeLine/\Vals xs b.toList
def bI(K:W.Frag)(H:Hp)(a:Addr)(xs:List V):Prop:=
 Rd H a (.tup xs)\/
  ∃(o:Obj) (b:Array Value) (n:Nat),K.lookup a=some o/\o.cls=.type "tuple"/\o.data=.seq b n/\b.size<=sizeLine/\Vals xs b.toList
def Zk:Value->Option V
 | .none=>some .bM
 | .bool b=>some (.bl b)
 | .int i _=>some (.int i)
 | .str x _=>some (.str x)
 | .bytes b _=>some (.zf b)
 | .float b _=>some (.Mz b)
 | .ref a=>some (.ref a)
 | .type n=>some (.ty n)
 |_=>none
theorem RelV.abs{x:V}{u:Value}(r:RelV x u):Zk u=some x:=by
 cases x with
 |bM=>cases r;rfl
 |bl _=>cases r;rfl
 |int _=>obtain⟨t,rfl⟩:=r;rfl
 |str _=>obtain⟨t,rfl⟩:=r;rfl
 |zf _=>obtain⟨t,rfl⟩:=r;rfl
 |Mz _=>obtain⟨t,rfl⟩:=r;rfl
 |ref _=>cases r;rfl
 |ty _=>cases r;rfl
theorem RelV.inj{x y:V}{u:Value}(r:RelV x u)(q:RelV y u):x=y:=Option.some.inj (r.abs.symm.trans q.abs)
theorem Vals.inj:∀{xs a:List V}{us:List Value},Vals xs us->Vals a us->xs=a
 |_,_,_,.nil,.nil=>rfl
 |_,_,_,.cons r t,.cons a b=>by rw[r.inj a,Vals.inj t b]
section
variable {X:Cx}{pins:List (Addr×Obj)}{σ:St}{H:Hp}{s:Shared}{a:Addr}{xs ys:List V}
theorem aU.of(h:H a=some (.lst xs)):aU K H a xs:=.inl (.inl h)
theorem bI.of(h:H a=some (.tup xs)):bI K H a xs:=.inl (.inl h)
theorem Inv.list(I:Inv X pins σ H s)(h:aU X.K H a xs):∃b:List Value,Vals xs b/\PlainL s.heap a b.toArray/\xs.length<=sizeLine:=by
 rcases h with h|⟨o,b,n,c,d,f,g,i,r⟩
 ·obtain⟨z,b,n,r,e⟩:=h.ok I.aZ;exact⟨b,r,⟨_,n,e,rfl,rfl,rfl⟩,z⟩
 ·calc⟨b.toList,r,⟨o,n,I.ic a o c,d,f,by simpa using g⟩,?_⟩;have e:=r.length;simp only[Array.length_toList]at e;lia
theorem Inv.tuple(I:Inv X pins σ H s)(h:bI X.K H a xs):∃b:List Value,Vals xs b/\IsTup s.heap a b.toArray/\xs.length<=sizeLine:=by
 rcases h with h|⟨o,b,n,c,d,f,g,r⟩
 ·obtain⟨z,b,r,p⟩:=h.ok I.aZ;exact⟨b,r,p,z⟩
 ·calc⟨b.toList,r,⟨o,I.ic a o c,d,n,by simpa using f⟩,?_⟩;have e:=r.length;simp only[Array.length_toList]at e;lia
theorem Inv.xi(I:Inv X pins σ H s)(h:aU X.K H a xs)(h':aU X.K H a ys):xs=ys:=by
 obtain⟨f,r,⟨o,n,e,_,_,d⟩,_⟩:=I.list h;obtain⟨g,i,⟨j,k,b,_,_,c⟩,_⟩:=I.list h';rw[e]at b;cases b;rw[d]at c;injection c with h _
 have:f=g:=by simpa using congrArg Array.toList h
 subst this;calc r.inj i
theorem Inv.ui(I:Inv X pins σ H s)(h:bI X.K H a xs)(h':bI X.K H a ys):xs=ys:=by
 obtain⟨f,r,⟨o,e,_,n,d⟩,_⟩:=I.tuple h;obtain⟨g,i,⟨j,b,_,k,c⟩,_⟩:=I.tuple h';rw[e]at b;cases b;rw[d]at c;injection c with h _
 have:f=g:=by simpa using congrArg Array.toList h
 subst this;calc r.inj i
end
abbrev Cx.mj(X:Cx)(E:Value->Shared->Prop):Cx:={X with xe:=E}
abbrev Cx.vC(X:Cx):Cx:=X.mj λ_ _=>False
theorem Cx.Ok.mj(a:X.Ok)(E:Value->Shared->Prop):(X.mj E).Ok:=
 ⟨a.mod,a.kind,a.glob,a.blt,a.above,a.inj,a.has,a.MA,a.hd,a.frames,a.OC,a.RP,a.bs,a.zu,a.vv,a.xh,a.lT,a.Fd⟩
theorem Cx.Ok.fV{E:Value->Shared->Prop}(a:(X.mj E).Ok):X.Ok:=
 ⟨a.mod,a.kind,a.glob,a.blt,a.above,a.inj,a.has,a.MA,a.hd,a.frames,a.OC,a.RP,a.bs,a.zu,a.vv,a.xh,a.lT,a.Fd⟩
section
variable {X:Cx}{pins:List (Addr×Obj)}{σ:St}{H:Hp}{s:Shared}{E:Value->Shared->Prop}
theorem Inv.mj(I:Inv X pins σ H s)(E:Value->Shared->Prop):Inv (X.mj E) pins σ H s:=⟨I.ok.mj E,I.os,I.bare,I.base,I.loc,I.cell,I.free,I.iq,I.pin,I.aZ,I.len⟩
theorem Inv.fV(I:Inv (X.mj E) pins σ H s):Inv X pins σ H s:=⟨I.ok.fV,I.os,I.bare,I.base,I.loc,I.cell,I.free,I.iq,I.pin,I.aZ,I.len⟩
theorem SP.fV{D:Ends}{f:Flow}{s':Shared}(h:SP (X.mj E) pins D f s'):SP X pins D f s':=by
 cases f with
 |next=>obtain⟨a,b,I,q⟩:=h;calc⟨a,b,I.fV,q⟩
 |brk=>obtain⟨a,b,I,q⟩:=h;calc⟨a,b,I.fV,q⟩
 |cont=>obtain⟨a,b,I,q⟩:=h;calc⟨a,b,I.fV,q⟩
 |ret u=>obtain⟨v,a,b,I,r,q⟩:=h;calc⟨v,a,b,I.fV,r,q⟩
theorem PE.vC{t:TE}(h:PE X.vC e t):PE X e t:=.mk λpins s σ H Q I a=>
 aas (h pins s σ H Q (I.mj _) a) (λ_ _ ⟨v,b,c,r,q⟩=>⟨v,b,c.fV,r,q⟩) λ_ _ z=>aak z
theorem PT.vC{t:TT}(h:PT X.vC e t):PT X e t:=.mk λpins s σ H Q I a=>
 aas (h pins s σ H Q (I.mj _) a) (λ_ _ ⟨b,c,q⟩=>⟨b,c.fV,q⟩) λ_ _ z=>aak z
theorem qW.vC{a:List Stmt}{t:TS}(h:qW X.vC a t):qW X a t:=.mk λpins s σ H D I a=>
 aas (h pins s σ H D (I.mj _) a) (λ_ _ q=>q.fV) λ_ _ z=>aak z
end
section
variable {X:Cx}{st:Stmt}{rest:List Stmt}{t u:TS}{e:Expr}{te:TE}{pos:Pos}
def Fo:TS:=λD σ H=>D.nx σ H
def CW(t u:TS):TS:=λD σ H=>t {D with nx:=u D} σ H
theorem aJ:qW X [] Fo:=.mk λ_ _ σ H _ I h=>wpAny_execs_nil ⟨σ,H,I,h⟩
theorem aj(a:PS X st t)(b:qW X rest u):qW X (st::rest) (CW t u):=by
 walk_at "xd";refine wpAny_execs_cons (cX (a pins s σ H {D with nx:=u D} I h) λf c q=>?_)
 cases f with
 |next=>
  obtain⟨a,d,e,q⟩:=q;calc b pins c a d D e q
 |ret v=>calc q
 |brk=>calc q
 |cont=>calc q
theorem ao(a:PS X st t):qW X [st] t:=by
 walk_at "xd";refine wpAny_execs_cons (cX (a pins s σ H D I h) λf b q=>?_)
 cases f with
 |next=>calc wpAny_execs_nil q
 |ret v=>calc q
 |brk=>calc q
 |cont=>calc q
theorem Inv.quiet{H:Hp}{s:Shared}(I:Inv X pins σ H s):interactive X.env=false:=by simp[interactive,I.ok.kind]
def xj(te:TE):TS:=λD σ H=>te σ H λ_ a=>D.nx σ a
theorem Km(a:PE X e te)(b:swapsWith e none pos.line X.env=pure false:=by rfl):PS X (.Expr e pos) (xj te):=by
 walk_at "xd";exact wpAny_Expr_any (cX (a pins s σ H _ I h) λv g ⟨x,c,d,i,f⟩=>⟨σ,c,d,f⟩) I.quiet b
def OL(te:TE):TS:=λD σ H=>te σ H D.rt
theorem aI(a:PE X e te):PS X (.Return (some e) pos) (OL te):=by
 walk_at "xd";exact wpAny_Return_some (cX (a pins s σ H _ I h) λv g ⟨x,b,c,d,f⟩=>⟨x,σ,b,c,d,f⟩)
def MI:TS:=λD _ H=>D.rt .bM H
def zw(c:TT)(t u:TS):TS:=λD σ H=>c σ H λb a=>if b=true then t D σ a else u D σ a
theorem aW{c:Expr}{a b:List Stmt}{e:TT}(k:PT X c e)(l:qW X a t)(m:qW X b u):PS X (.If c a b pos) (zw e t u):=by
 walk_at "xd";refine wpAny_If (cX (k pins s σ H _ I h) λd f a=>?_);nofun;obtain⟨g,i,j⟩:=a;ac_rfl
 cases d with
 |true=>calc l pins f σ g D i j
 |false=>calc m pins f σ g D i j
def zx:TS:=λ_ _ _=>False
theorem dN:PS X st zx:=.mk λ_ _ _ _ _ _ h=>h.elim
end
abbrev TG:=V->St->Hp->(St->Hp->Prop)->Prop
abbrev MJ:=List V->St->Hp->(St->Hp->Prop)->Prop
structure PG(X:Cx)(target:Expr)(t:TG):Prop where
 out:
  ∀(pins:List (Addr×Obj)) (s:Shared) (σ:St) (H:Hp) (v:V) (u:Value) (Q:St->Hp->Prop),Inv X pins σ H s->RelV v u->t v σ H Q->
   wpAny (model X.prog X.w) X.A (assign target X.env u) (λ_ s'=>∃σ' H',Inv X pins σ' H' s'/\Q σ' H') X.xe s
instance {X:Cx}{a:Expr}{t:TG}:CoeFun (PG X a t) λ_=>
 ∀(pins:List (Addr×Obj)) (s:Shared) (σ:St) (H:Hp) (v:V) (u:Value) (Q:St->Hp->Prop),Inv X pins σ H s->RelV v u->t v σ H Q->
  wpAny (model X.prog X.w) X.A (assign a X.env u) (λ_ s'=>∃a b,Inv X pins a b s'/\Q a b) X.xe s:=⟨PG.out⟩
structure RQ(X:Cx)(ts:List Expr)(t:MJ):Prop where
 out:
  ∀(pins:List (Addr×Obj)) (s:Shared) (σ:St) (H:Hp) (vs:List V) (us:List Value) (Q:St->Hp->Prop),Inv X pins σ H s->Vals vs us->t vs σ H Q->
   wpAny (model X.prog X.w) X.A (assignInOrder ((assignEach ts X.env).map (·.2)) us) (λ_ s'=>∃σ' H',Inv X pins σ' H' s'/\Q σ' H') X.xe s
instance {X:Cx}{a:List Expr}{t:MJ}:CoeFun (RQ X a t) λ_=>
 ∀(pins:List (Addr×Obj)) (s:Shared) (σ:St) (H:Hp) (vs:List V) (us:List Value) (Q:St->Hp->Prop),Inv X pins σ H s->Vals vs us->t vs σ H Q->
  wpAny (model X.prog X.w) X.A (assignInOrder ((assignEach a X.env).map (·.2)) us) (λ_ s'=>∃a b,Inv X pins a b s'/\Q a b) X.xe s:=⟨RQ.out⟩
abbrev OM:=V->V->V->Hp->(Hp->Prop)->Prop
def ON(X:Cx)(t:OM):Prop:=
 ∀(pins:List (Addr×Obj)) (s:Shared) (σ:St) (H:Hp) (o i v:V) (a b u:Value) (Q:Hp->Prop),Inv X pins σ H s->RelV o a->RelV i b->RelV v u->t o i v H Q->
  wpAny (model X.prog X.w) X.A (setItem a b u) (λ_ s'=>∃a,Inv X pins σ a s'/\Q a) X.xe s
abbrev XT:=V->V->Hp->VK->Prop
def PIp(X:Cx)(a:Operator)(t:XT):Prop:=
 ∀(pins:List (Addr×Obj)) (s:Shared) (σ:St) (H:Hp) (x y:V) (v u:Value) (Q:VK),Inv X pins σ H s->RelV x v->RelV y u->t x y H Q->
  wpAny (model X.prog X.w) X.A (inplaceOp a v u) (EP X pins σ Q) X.xe s
section
variable {X:Cx}{pos:Pos}
def hX(i:Nat):TG:=λv σ H Q=>Q (σ.set i (some v)) H
theorem ba(a:X.N.Nodup)(b:X.N[i]?=some x)(c:Loc X.env.scope x)(d:X.fn x=true\/X.env.scope.names.lookup x=some .local:=by grind):PG X (.Name x pos) (hX i):=by
 calc⟨?_⟩;intro pins s σ H v u Q I r h;calc wpAny_assign_Name (jG I a b c r (λf e=>⟨_,H,e,h⟩) d)
def Kn:MJ:=λvs σ H Q=>vs=[]/\Q σ H
def qp(t:TG)(u:MJ):MJ:=λvs σ H Q=>∃v r,vs=v::r/\t v σ H λa b=>u r a b Q
theorem Bf:RQ X [] Kn:=by
 calc⟨?_⟩;intro pins s σ H a b Q I r h;obtain⟨e,h⟩:=h;subst e
 cases r;calc assignInOrder_nil ⟨σ,H,I,h⟩
theorem kC{a:List Expr}{t:TG}{u:MJ}(b:PG X e t)(c:RQ X a u)
  (d:(assignEach (e::a) X.env).map (·.2)=assign e X.env::(assignEach a X.env).map (·.2):=by rfl):RQ X (e::a) (qp t u):=by
 calc⟨?_⟩;intro pins s σ H a g Q I r h;obtain⟨v,i,f,h⟩:=h;subst f
 cases r with
 |cons r f=>
  rw[d];calc assignInOrder_cons (cX (b pins s σ H _ _ _ I r h) λ_ g i=>?_);nofun;obtain⟨a,b,d,h⟩:=i;ac_rfl;calc c pins g a b _ _ Q d f h
def Ko(K:W.Frag)(n:Nat)(t:MJ):TG:=λv σ H Q=>∃a xs,v=.ref a/\bI K H a xs/\xs.length=n/\t xs σ H Q
theorem Fp{a:List Expr}{k:Nat}{t:MJ}{n:Nat}(b:X.calm=true)(h:RQ X a t)
  (d:(assignEach a X.env).length=n:=by rfl) (f:(assignEach a X.env).findIdx? (·.1)=none:=by rfl):PG X (.Tuple a k pos) (Ko X.K n t):=by
 calc⟨?_⟩;intro pins s σ H v u Q I r c;obtain⟨a,g,i,j,l,c⟩:=c;subst i
 cases r;obtain⟨k,a,i,m⟩:=I.tuple j;calc assign_Tuple_tuple (I.ok.hd b) i (by simp[d,<-l,a.length]) f λk m=>?_;have d:Inv X pins σ H {s with heap:=k}:=I.kept (t':=s.toks) λb o e=>m b o (Y' (S' e)) e;calc h pins _ σ H g _ Q d (by simpa using a) c
def OO(a b:TE)(t:OM):TG:=λv σ H Q=>a σ H λo c=>b σ c λi a=>t o i v a λb=>Q σ b
theorem jc{o i:Expr}{c d:TE}{t:OM}(e:PE X o c)(f:PE X i d)(g:ON X t)
  (j:∀v,assign (.Subscript o i pos) X.env v=(do
   let a <-holding [v] (eval o X.env)
   let b <-holding [v,a] (eval i X.env)
   standAt pos
   holding [v,a,b] (setItem a b v)
   release [v,a,b] []):=by intro _;rfl):PG X (.Subscript o i pos) (OO c d t):=by
 calc⟨?_⟩;intro pins s σ H v u Q I r h;rw[j];calc j' (wpAny_holding (cX (e pins s σ H _ I h) λa d c=>?_));nofun;obtain⟨x,e,h,j,k⟩:=c;ac_rfl;calc j' (wpAny_holding (cX (f pins d σ e _ h k) λb l c=>?_));nofun;obtain⟨y,d,e,f,h⟩:=c;ac_rfl;calc j' (wpAny_standAt (j' (wpAny_holding (cX (g pins l σ d x y v a b u _ e j f r h) λ_ k c=>?_))));nofun;obtain⟨a,b,d⟩:=c;ac_rfl;calc wpAny_release ⟨σ,a,b,d⟩
def CY(te:TE)(g:TG):TS:=λD σ H=>te σ H λx a=>g x σ a D.nx
theorem fA{g:TG}(a:PE X e te)(b:PG X tg g)(c:swapsWithSole [tg] e pos.line X.env=pure false:=by rfl)(d:swappedStores [tg] e X.env=pure none:=by rfl)
  (f:(assignEach [tg] X.env).map (·.2)=[assign tg X.env]:=by rfl):PS X (.Assign [tg] e pos) (CY te g):=by
 walk_at "xd";refine wpAny_Assign_stores (cX (a pins s σ H _ I h) λv g i=>?_) c d;nofun;obtain⟨x,a,j,k,l⟩:=i;ac_rfl;rw[f];exact cX (b pins g σ a x v _ j k l) λ_ c q=>q
theorem Fq{a:Pos}(b:X.N.Nodup)(c:X.N[i]?=some x)(d:Loc X.env.scope x)(f:PE X e te)(g:swapsWith e (some (.Name x a)) pos.line X.env=pure false:=by rfl)(j:X.fn x=true\/X.env.scope.names.lookup x=some .local:=by grind):
  PS X (.Assign [.Name x a] e pos) (CY te (hX i)):=by
 walk_at "xd";refine wpAny_Assign_Name (cX (f pins s σ H _ I h) λv k a=>?_) g;nofun;obtain⟨y,f,k,l,m⟩:=a;ac_rfl;exact jG k b c d l (λn g=>⟨_,f,g,m⟩) j
def OP(i:Nat)(te:TE)(a:XT):TS:=λD σ H=>∃x,σ[i]?=some (some x)/\te σ H λy b=>a x y b λz c=>D.nx (σ.set i (some z)) c
theorem OQ{d:Operator}{g:XT}{b:Pos}(o:X.N.Nodup)(j:X.N[i]?=some x)(f:Loc X.env.scope x)(p:PE X e te)(q:PIp X d g)(t:X.fn x=true\/X.env.scope.names.lookup x=some .local:=by grind):
  PS X (.AugAssign (.Name x b) d e pos) (OP i te g):=by
 walk_at "xd";obtain⟨v,y,h⟩:=h;obtain⟨m,B,z⟩:=I.loc;have c:Tj X.env.scope x:=by rcases f with k|k;exact .inl k;exact .inr (.inl k)
 obtain⟨u,r,l⟩:=z i x v j y c;calc wpAny_AugAssign_Name ?_;have n:wpAny (model X.prog X.w) X.A (eval e X.env) (λw b=>wpAny (model X.prog X.w) X.A (inplaceOp d u w) (λr c=>wpAny (model X.prog X.w) X.A (storeName X.env x r) (λ_=>SP X pins D .next) X.xe c) X.xe b) X.xe s:=by
  calc cX (p pins s σ H _ I h) λw c b=>?_;nofun;obtain⟨y,d,g,m,p⟩:=b;ac_rfl;calc cX (q pins c σ d v y u w _ g r m p) λz F b=>?_;nofun;obtain⟨p,c,d,g,m⟩:=b;ac_rfl;exact jG d o j f g (λq p=>⟨_,c,p,m⟩) t
 rcases l with⟨a,b⟩|⟨a,c,C,E⟩
 ·exact wpAny_loadName_local I.ok.kind a B b n
 ·rcases a with a | a
  ·exact wpAny_loadName_cell I.ok.kind a C E n
  ·rcases f with k | k
   ·have:X.env.scope.names.lookup x=some .free:=a;rw[k]at this;cases this
   ·have:X.env.scope.names.lookup x=some .free:=a;rw[k]at this;cases this
def Zl(f:Int->Int->Int):XT:=λx y H Q=>∃i j,x=.int i/\y=.int j/\Q (.int (f i j)) H
theorem OS:PIp X .Add (Zl λi j=>i+j):=by
 intro pins s σ H x y v u Q I a b h;obtain⟨i,j,c,d,q⟩:=h;subst c;subst d;obtain⟨t,rfl⟩:=a;obtain⟨e,rfl⟩:=b;calc iadd_int ⟨.int _,H,I.tok _,⟨_,rfl⟩,q⟩
end
section
variable {X:Cx}{pos:Pos}
def vD(c:TT)(f:TS):TS:=λD σ H=>∃W:Nat->St->Hp->Prop,(∃m,W m σ H)/\∀m σ H,W m σ H->
 c σ H λb d=>if b=true then ∃N:St->Hp->Prop,(∀a c,N a c->∃e,e<m/\W e a c)/\f {D with nx:=N,ct:=N,bk:=D.nx} σ d else D.nx σ d
theorem Fs{c:Expr}{a:List Stmt}{i:TT}{j:TS}(k:PassesOwn (model X.prog X.w) X.A X.env X.xe)(p:PT X c i)(q:qW X a j):PS X (.While c a [] pos) (vD i j):=by
 walk_at "xd";obtain⟨W,⟨r,t⟩,a⟩:=h;refine wpAny_While (codeAny_whileLoop (λn u=>∃c i,Inv X pins c i u/\W n c i) ?_ r ⟨σ,H,I,t⟩);rintro n v ⟨d,j,x,y⟩;refine wpAny_passesOwn k (cX (p pins v d j _ x (a n d j y)) λb z B=>?_);nofun;obtain⟨l,m,e⟩:=B;ac_rfl
 cases b with
 |true=>
  obtain⟨N,o,e⟩:=e;rw[if_pos rfl];refine wpAny_passesOwn k (cX (q pins z d l _ m e) λf a g=>?_)
  cases f with
  |next=>
   obtain⟨a,b,c,f⟩:=g;obtain⟨i,j,k⟩:=o a b f;calc⟨i,j,a,b,c,k⟩
  |cont=>
   obtain⟨a,b,c,f⟩:=g;obtain⟨i,j,k⟩:=o a b f;calc⟨i,j,a,b,c,k⟩
  |brk=>calc g
  |ret v=>calc g
 |false=>
  rw[if_neg Bool.false_ne_true];calc wpAny_execs_nil ⟨d,l,m,e⟩
end
structure It where
 go:Nat->Hp->Prop
 Kp:Nat->Hp->V->Hp->Prop
 stop:Nat->Hp->Prop
def oU(X:Cx)(pins:List (Addr×Obj))(H:Hp)(b:Addr):Prop:=
 H b=none/\b≠X.env.locals/\b∉X.fs/\(b∈X.ex\/X.s₀.heap.objs.size<=b)/\(∀x c,X.env.cells.lookup x=some c->c≠b)/\∀p∈X.pn++pins,p.1≠b
theorem Inv.Ft{H c:Hp}{s:Shared}{b:Addr}(I:Inv X pins σ H s)(a:s.heap.objs.size<=b)(d:c b=none):oU X pins c b:=by
 refine⟨d,Nat.ne_of_gt (R' I.lt a),I.OE a,.inr (aap I.sz a),λx c e z=>?_,λp b z=>?_⟩
 ·obtain⟨v,q⟩:=I.cell x c e;exact absurd (R' q.lt (by rw[z];calc a)) (Nat.lt_irrefl _)
 ·calc absurd (R' (S' (I.pin p b).1) (by rw[z];calc a)) (Nat.lt_irrefl _)
structure Turn(P:Program)(w:World)(K:W.Frag)(tg:Expr)(J:It)(fp:List Addr)(it:Addr)(tn:Nat->Heap->Prop):Prop where
 mem:it∈fp
 obj:∀i h,tn i h->∀b∈fp,∃o,h.get? b=some o/\∀v,o.data≠.cell v
 keep:∀i h h',tn i h->(∀b∈fp,∀o,h.get? b=some o->h'.get? b=some o)->tn i h'
 item:∀(X:Cx),X.prog=P->X.w=w->X.K=K->X.calm=true->∀(i:Nat) (pins:List (Addr×Obj)) (s:Shared) (σ:St) (H:Hp) (E:Value->Shared->Prop),Inv X pins σ H s->(∀b ∈ fp,oU X pins H b)->tn i s.heap->J.go i H->
  wpAny (model P w) X.A (pyNext (.ref it)) (λr s1=>∃u,r=some u/\
   wpAny (model P w) X.A (letOwnedTupleGo tg (.ref it) u) (λ_ s2=>∃x H',Inv X pins σ H' s2/\RelV x u/\J.Kp i H x H'/\tn (i + 1) s2.heap/\∀b ∈ fp,H' b=none) E s1) E s
 done:∀(X:Cx),X.prog=P->X.w=w->X.K=K->X.calm=true->∀(i:Nat) (pins:List (Addr×Obj)) (s:Shared) (σ:St) (H:Hp) (E:Value->Shared->Prop),Inv X pins σ H s->(∀b ∈ fp,oU X pins H b)->tn i s.heap->J.stop i H->
  wpAny (model P w) X.A (pyNext (.ref it)) (λr s1=>r=none/\Inv X pins σ H s1) E s
 self:∀(A:Around) (i:Nat) (s:Shared) (Q:Value->Shared->Prop) (E:Value->Shared->Prop),tn i s.heap->Q (.ref it) s->wpAny (model P w) A (pyIter (.ref it)) Q E s
abbrev TI:=St->Hp->(It->Hp->Prop)->Prop
def Zm(X:Cx)(pins:List (Addr×Obj))(σ:St)(tg:Expr)(R:It->Hp->Prop)(g:Value)(c:Shared):Prop:=
 ∃(d:Addr) (e:List Addr) (f:Nat->Heap->Prop) (J:It) (a:Hp),g=.ref d/\Inv X pins σ a c/\Turn X.prog X.w X.K tg J e d f/\f 0 c.heap/\(∀b∈e,oU X pins a b)/\R J a
structure PI(X:Cx)(tg iter:Expr)(wi:TI):Prop where
 out:
  ∀(pins:List (Addr×Obj)) (s:Shared) (σ:St) (H:Hp) (R:It->Hp->Prop),Inv X pins σ H s->wi σ H R->
   wpAny (model X.prog X.w) X.A (eval iter X.env) (λv s1=>wpAny (model X.prog X.w) X.A (pyIter v) (Zm X pins σ tg R) X.xe s1) X.xe s
instance {X:Cx}{tg a:Expr}{b:TI}:CoeFun (PI X tg a b) λ_=>
 ∀(pins:List (Addr×Obj)) (s:Shared) (σ:St) (H:Hp) (R:It->Hp->Prop),Inv X pins σ H s->b σ H R->
  wpAny (model X.prog X.w) X.A (eval a X.env) (λv b=>wpAny (model X.prog X.w) X.A (pyIter v) (Zm X pins σ tg R) X.xe b) X.xe s:=⟨PI.out⟩
theorem Fu{M:Model}{A:Around}{E:Value->Shared->Prop}{s:Shared}{tg:Expr}{b:Addr}{u:Value}{o:Obj}{n:String}{vs:Array Value}{Q:Unit->Shared->Prop}(c:s.heap.get? b=some o)(d:o.cls=.type n)(e:o.data=.fields vs)
    (f:["enumerate","zip","dict_itemiterator","dict_reverseitemiterator","odict_iterator","itertools.zip_longest","itertools.pairwise"].contains n=false) (a:Q () s):wpAny M A (letOwnedTupleGo tg (.ref b) u) Q E s:=by
  unfold letOwnedTupleGo
  cases tg<;>first
    |calc P' a
    | (cases u <;> first
        |calc P' a
        | (refine j' (wpAny_load c ?_)
           rw[d,e];show wpAny M A (if (["enumerate","zip","dict_itemiterator","dict_reverseitemiterator","odict_iterator","itertools.zip_longest","itertools.pairwise"].contains n && vs[0]? == some (rawInt _))=true then _ else _) Q E s;rw[if_neg (by intro h;rw[f,Bool.false_and] at h;cases h)];exact P' a))
def wU(K:W.Frag)(a:Addr):It:=
 ⟨λi H=>∃xs x,aU K H a xs/\xs[i]?=some x,λi H x b=>b=H/\∀xs,aU K H a xs->xs[i]?=some x,λi H=>∃xs,aU K H a xs/\xs.length<=i⟩
def Kq(K:W.Frag)(a:Addr):It:=
 ⟨λi H=>∃xs x,bI K H a xs/\xs[i]?=some x,λi H x b=>b=H/\∀xs,bI K H a xs->xs[i]?=some x,λi H=>∃xs,bI K H a xs/\xs.length<=i⟩
def Bg(a:Int)(n:Nat):It:=⟨λi _=>i<n,λi H x b=>b=H/\x=.int (a+i),λi _=>n<=i⟩
theorem CZ{P:Program}{w:World}(a g:Addr):Turn P w K tg (wU K a) [g] g (λi h=>h.IsListIter g a i) where
 mem:=by simp
 obj:=λi h f b j=>by
  have e:b=g:=by simpa using j
  subst e;obtain⟨o,e,c,d⟩:=f;exact⟨o,e,λv z=>by rw[d]at z;cases z⟩
 keep:=λi h l f k=>f.at λo e=>k g (by simp) o e
 item:=by
  intro X q r t L i pins s σ H E I m f y;subst q r t;obtain⟨M,x,n,A⟩:=y;obtain⟨N,B,p,O⟩:=I.list n;obtain⟨u,k,v⟩:=B.get A;obtain⟨C,D,Q,F,G,J⟩:=m g (by simp);calc wpAny_pyNext_list_item f p.isList (x:=u) (by simpa using k) λl a w=>?_;have k:Inv X pins σ H {s with heap:=l}:=I.turned (t':=s.toks) (λb o j e=>(w.2 b j).trans e) C D F G J;obtain⟨o,e,c,d⟩:=id a;exact⟨u,rfl,Fu (s:={s with heap:=l}) e c d (by decide) ⟨x,H,k,v,⟨rfl,λw u=>by rw[I.xi u n];calc A⟩,a,λb j=>(m b j).1⟩⟩
 done:=by
  intro X q r t L i pins s σ H E I m f y;subst q r t;obtain⟨M,n,A⟩:=y;obtain⟨N,B,p,O⟩:=I.list n;obtain⟨C,D,Q,F,G,J⟩:=m g (by simp);have a:=B.length;exact wpAny_pyNext_list_end (I.ok.hd L) f p.isList (by simp;lia) λl a=>⟨rfl,I.turned (t':=s.toks) (λb o j e=>a b o j e) C D F G J⟩
 self:=λ_ _ _ _ _ f h=>wpAny_pyIter_listiter f h
theorem zy{P:Program}{w:World}(a g:Addr):Turn P w K tg (Kq K a) [g] g (λi h=>h.IsTupleIter g a i) where
 mem:=by simp
 obj:=λi h f b j=>by
  have e:b=g:=by simpa using j
  subst e;obtain⟨o,e,c,d⟩:=f;exact⟨o,e,λv z=>by rw[d]at z;cases z⟩
 keep:=λi h l f k=>f.at λo e=>k g (by simp) o e
 item:=by
  intro X q r t M i pins s σ H E I m f y;subst q r t;obtain⟨N,x,n,A⟩:=y;obtain⟨B,C,p,O⟩:=I.tuple n;obtain⟨u,v,w⟩:=C.get A;obtain⟨D,F,Q,G,J,L⟩:=m g (by simp);calc wpAny_pyNext_tuple_item f (show s.heap.IsTuple a B.toArray from p) (x:=u) (by simpa using v) λl k z=>?_;have v:Inv X pins σ H {s with heap:=l}:=I.turned (t':=s.toks) (λb o j e=>(z.2 b j).trans e) D F G J L;obtain⟨o,e,c,d⟩:=id k;exact⟨u,rfl,Fu (s:={s with heap:=l}) e c d (by decide) ⟨x,H,v,w,⟨rfl,λz u=>by rw[I.ui u n];calc A⟩,k,λb j=>(m b j).1⟩⟩
 done:=by
  intro X q r t M i pins s σ H E I m f y;subst q r t;obtain⟨N,n,A⟩:=y;obtain⟨B,C,p,O⟩:=I.tuple n;obtain⟨D,F,Q,G,J,L⟩:=m g (by simp);have c:=C.length;exact wpAny_pyNext_tuple_end (I.ok.hd M) f (show s.heap.IsTuple a B.toArray from p) (by simp;lia) λl c=>⟨rfl,I.turned (t':=s.toks) (λb o j e=>c b o j e) D F G J L⟩
 self:=λ_ _ _ _ _ f h=>wpAny_pyIter_tupleiter f h
theorem zz{P:Program}{w:World}(c:Addr)(f:Int)(n:Nat):Turn P w K tg (Bg f n) [c] c (λi h=>IsRangeIter h c (f+(i:Nat)*1) ((n:Int)-(i:Nat)) 1) where
 mem:=by simp
 obj:=λi h a b d=>by
  have e:b=c:=by simpa using d
  subst e;exact⟨_,a,λv z=>by
   have k:Data.fields _=Data.cell v:=z
   cases k⟩
 keep:=λi h g a k=>k c (by simp) _ a
 item:=by
  intro X l m p q i pins s σ H E I j a r;subst l m p;obtain⟨u,x,F,y,A,B⟩:=j c (by simp);have W:=Walks.range (prog:=X.prog) (w:=X.w) (I.ok.hd q) c f 1 n;calc W.item i s _ _ r a λv g C G D J=>?_;obtain⟨t,rfl⟩:=G;have k:Inv X pins σ H {s with heap:=g,toks:=C}:=I.turned (λb o d e=>J b o (by simpa using d) e) u x y A B;calc⟨_,rfl,Fu (s:={s with heap:=g,toks:=C}) (n:="range_iterator") D rfl rfl (by decide) ⟨.int (f+i),H,k,⟨t,?_⟩,⟨rfl,rfl⟩,D,λb d=>(j b d).1⟩⟩;rw[Int.mul_one]
 done:=by
  intro X l m p q i pins s σ H E I j a r;subst l m p;obtain⟨u,x,F,y,A,B⟩:=j c (by simp);exact wpAny_pyNext_range_end (I.ok.hd q) a (by have:n<=i:=r;lia) λg c=>⟨rfl,I.turned (t':=s.toks) (λb o d e=>c b o d e) u x y A B⟩
 self:=λ_ _ _ _ _ a h=>wpAny_pyIter_rangeiter a h
end
section
variable {D:Ends}{H:Hp}{pins:List (Addr×Obj)}{s:Shared}{σ:St}{g:TG}{tb:TS}
section
variable {X:Cx}{tg:Expr}
theorem Fw{R:It->Hp->Prop}{E:Value->Shared->Prop}{a c:Int}{t u v:Tok}{d:Nat}(I:Inv X pins σ H s)(g:-(2^62)<=a)(h:a<2^62)(i:-(2^62)<=c)(j:c<2^62)
  (q:R (Bg a (c-a).toNat) H):wpAny (model X.prog X.w) X.A (pyIter (.ref s.heap.objs.size)) (Zm X pins σ tg R) E {s with heap:=s.heap.push {cls:=.type "range",data:=.fields #[.int a t,.int c u,.int 1 v]},toks:=d}:=by
 refine wpAny_pyIter_range (IsRange.new ..) (small_one g h i j) ?_;have f:Inv X pins σ H {s with heap:=s.heap.push {cls:=.type "range",data:=.fields #[.int a t,.int c u,.int 1 v]},toks:=d}:=I.kept λb o e=>J' _ e;refine⟨(s.heap.push {cls:=.type "range",data:=.fields #[.int a t,.int c u,.int 1 v]}).objs.size,[(s.heap.push {cls:=.type "range",data:=.fields #[.int a t,.int c u,.int 1 v]}).objs.size],_,_,H,rfl,
  f.kept (t':=d) λb o e=>J' _ e,zz _ a (c - a).toNat,?_,λb k=>?_,q⟩
 ·have l:a + ((0:Nat):Int) * 1=a:=by simp
  have m:(((c-a).toNat:Nat):Int)-((0:Nat):Int)=Builtin.Range.rangeSize a c 1:=by rw[rangeSize_one];split<;>lia
  show IsRangeIter _ _ (a+((0:Nat):Int)*1) ((((c-a).toNat:Nat):Int)-((0:Nat):Int)) 1;rw[l,m];exact V' _ rfl
 ·have e:b=(s.heap.push {cls:=.type "range",data:=.fields #[.int a t,.int c u,.int 1 v]}).objs.size:=by simpa using k
  subst e;calc f.Ft (K' _) (f.aZ.fresh (K' _))
def Fx(a:TA):TI:=λσ H R=>a σ H λvs b=>∃j:Int,vs=[.int j]/\-(2^62)<=j/\j<2^62/\R (Bg 0 j.toNat) b
def MK(a:TA):TI:=λσ H R=>a σ H λvs b=>∃i j:Int,vs=[.int i,.int j]/\(-(2^62)<=i/\i<2^62/\-(2^62)<=j/\j<2^62)/\R (Bg i (j-i).toNat) b
theorem dw{a:Expr}{c:TA}{p pos:Pos}(d:Gl X "range")(f:X.mg "range"=none)(g:PA X [a] c)(i:starEach [a] X.env=[(false,eval a X.env)]:=by rfl):PI X tg (.Call (.Name "range" p) [a] [] pos) (Fx c):=by
 calc⟨?_⟩;intro pins s σ H R I h;calc Call_ (oS I d f boot_range (PyProof.Rows.callWith_type1 (cX (g pos pins s σ H _ I h) λc j a=>?_) i rfl));nofun;obtain⟨c,d,k,l,b⟩:=a;ac_rfl;obtain⟨j,e,b,m,q⟩:=b;subst e
 cases l with
 |cons r n=>
  cases n;obtain⟨t,rfl⟩:=r;calc call_range_1 (Fw k (by lia) (by lia) b m (by simpa using q))
def OT(a:TI)(g:TG)(tb:TS):TS:=λD σ H=>a σ H λJ b=>∃W:Nat->Nat->St->Hp->Prop,(∃m,W 0 m σ b)/\∀i m σ H,W i m σ H->
 (J.stop i H/\D.nx σ H)\/(J.go i H/\∃N:St->Hp->Prop,(∀a b,N a b->∃d,d<m/\W (i+1) d a b)/\∀x b,J.Kp i H x b->g x σ b λc e=>tb {D with nx:=N,ct:=N,bk:=D.nx} c e)
def oV(a:List Addr)(h:Heap):List (Addr×Obj):=a.filterMap λb=>(h.get? b).map λo=>(b,o)
theorem j1{a:List Addr}{h:Heap}{b:Addr}{o:Obj}(c:b∈a)(e:h.get? b=some o):(b,o)∈oV a h:=List.mem_filterMap.mpr ⟨b,c,by rw[e];rfl⟩
theorem Dc{a:List Addr}{h:Heap}{p:Addr×Obj}(c:p∈oV a h):p.1∈a/\h.get? p.1=some p.2:=by
 obtain⟨b,d,e⟩:=List.mem_filterMap.mp c
 cases q:h.get? b with
 |none=>rw[q]at e;cases e
 |some o=>
  rw[q]at e;have f:(b,o)=p:=Option.some.inj e;subst f;calc⟨d,q⟩
theorem Inv.pinned{a:List Addr}(I:Inv X pins σ H s)(g:∀b∈a,oU X pins H b)(h:∀b∈a,∃o,s.heap.get? b=some o/\∀v,o.data≠.cell v):Inv X (pins++oV a s.heap) σ H s:=
 I.vA λp a=>(List.mem_append.mp a).elim (λz=>I.pin p (aam _ z)) λz=>by
  obtain⟨c,e⟩:=Dc z;obtain⟨i,j,k,_⟩:=g p.1 c;obtain⟨o,f,d⟩:=h p.1 c;rw[e]at f;cases f;calc⟨e,i,j,k,d⟩
theorem Inv.kD{pl:List (Addr×Obj)}(I:Inv X (pins++pl) σ H s):Inv X pins σ H s:=I.vA λp a=>I.pin p (aam _ (List.mem_append_left _ a))
theorem fm{c:Expr}{m:List Stmt}{J:TI}{pos:Pos}(z:PassesOwn (model X.prog X.w) X.A X.env X.xe)(M:X.calm=true)(Y:PI X tg c J)(Z:PG X tg g)(j:qW X m tb)
  (hs:∀x,foldedSetIterable c X.env x=pure x:=by intro _;rfl):PS X (.For tg c m [] pos) (OT J g tb):=by
 walk_at "xd";refine wpAny_For (cX (Y pins s σ H _ I h) λv m c=>cX c λm J h2=>?_) hs;obtain⟨c,B,O,J,H2,e,I2,T,Bh,P,W,⟨m0,w0⟩,C⟩:=h2;subst e;have K:∀{o:Hp},(∀b∈B,o b=none)->∀b∈B,oU X pins o b:=λc b j=>⟨c b j,(P b j).2⟩
 calc codeAny_forLoop_any (λn c=>∃i d o,Inv X pins d o c/\O i c.heap/\(∀b∈B,o b=none)/\W i n d o) ?_ m0 ⟨0,σ,H2,I2,Bh,λb j=>(P b j).1,w0⟩;rintro n Q ⟨i,k,G,R,S,U,w3⟩;rcases C i n k G w3 with⟨c,qn⟩|⟨go,N,hN,E⟩
 ·calc wpAny_passesOwn z (cX (T.done X rfl rfl rfl M i pins Q k G X.xe R (K U) S c) λr s4 y=>?_);nofun;obtain⟨L,I4⟩:=y;ac_rfl;subst L;exact wpAny_execs_nil ⟨k,G,I4,qn⟩
 ·calc wpAny_passesOwn z (cX (T.item X rfl rfl rfl M i pins Q k G X.xe R (K U) S go) λr s4 y=>?_);nofun;obtain⟨u,L,h4⟩:=y;ac_rfl;subst L;calc wpAny_passesOwn z (cX h4 λ_ C y=>?_);nofun;obtain⟨x,m,r,G,J,c,L⟩:=y;ac_rfl;have M:=r.pinned (K L) (T.obj _ _ c);calc wpAny_passesOwn z (cX (Z _ C k m x u _ M G (E x m J)) λ_ P y=>?_);nofun;obtain⟨k,m,u,x⟩:=y;ac_rfl;calc wpAny_passesOwn z (cX (j _ P k m _ u x) λf r t=>?_);have l:∀{a:St} {p:Hp},Inv X (pins++oV B C.heap) a p r->N a p->∃m,m<n/\∃i d o,Inv X pins d o r/\O i r.heap/\(∀b∈B,o b=none)/\W i m d o:=λ{a p} q F=>by
   obtain⟨d,k,m⟩:=hN a p F;calc⟨d,k,i+1,a,p,q.kD,T.keep _ _ _ c λb j o e=>(q.pin (b,o) (aam _ (aam _ (j1 j e)))).1,λb j=>?_,m⟩;obtain⟨o,e,d⟩:=T.obj _ _ c b j;exact(q.pin (b,o) (aam _ (aam _ (j1 j e)))).2.1
  cases f with
  |next=>obtain⟨a,p,q,F⟩:=t;calc l q F
  |cont=>obtain⟨a,p,q,F⟩:=t;calc l q F
  |brk=>obtain⟨a,p,q,t⟩:=t;calc⟨a,p,q.kD,t⟩
  |ret v=>obtain⟨b,a,p,q,c,t⟩:=t;calc⟨b,a,p,q.kD,c,t⟩
end
theorem ir{K:W.Frag}{a:Addr}{xs:List V}(b:Nat->St->Hp->Prop)(k:b 0 σ H)(l:∀i σ H,i<=xs.length->b i σ H->aU K H a xs)
  (n:∀i x σ H,xs[i]?=some x->b i σ H->g x σ H λc h=>tb {D with nx:=b (i+1),ct:=b (i+1),bk:=D.nx} c h) (o:∀σ H,b xs.length σ H->D.nx σ H):
  ∃W:Nat->Nat->St->Hp->Prop,(∃m,W 0 m σ H)/\∀i m σ H,W i m σ H->
   ((wU K a).stop i H/\D.nx σ H)\/((wU K a).go i H/\∃N:St->Hp->Prop,(∀d f,N d f->∃j,j<m/\W (i+1) j d f)/\∀x f,(wU K a).Kp i H x f->g x σ f λc h=>tb {D with nx:=N,ct:=N,bk:=D.nx} c h):=by
 calc⟨λi m σ H=>m=xs.length-i/\i<=xs.length/\b i σ H,⟨xs.length,by simp,aal _,k⟩,?_⟩;rintro i m σ H ⟨rfl,c,p⟩;have q:=l i σ H c p;by_cases a:i<xs.length
 ·calc .inr ⟨⟨xs,xs[i],q,by simp[a]⟩,b (i+1),λd f c=>⟨xs.length-(i+1),by lia,rfl,a,c⟩,λx f y=>?_⟩;obtain⟨e,y⟩:=y;subst e;exact n i x σ _ (y xs q) p
 ·have e:i=xs.length:=by lia
  subst e;calc .inl ⟨⟨xs,q,K' _⟩,o σ H p⟩
theorem Kr{K:W.Frag}{a:Addr}{xs:List V}(b:Nat->St->Hp->Prop)(k:b 0 σ H)(l:∀i σ H,i<=xs.length->b i σ H->bI K H a xs)
  (n:∀i x σ H,xs[i]?=some x->b i σ H->g x σ H λc h=>tb {D with nx:=b (i+1),ct:=b (i+1),bk:=D.nx} c h) (o:∀σ H,b xs.length σ H->D.nx σ H):
  ∃W:Nat->Nat->St->Hp->Prop,(∃m,W 0 m σ H)/\∀i m σ H,W i m σ H->
   ((Kq K a).stop i H/\D.nx σ H)\/((Kq K a).go i H/\∃N:St->Hp->Prop,(∀d f,N d f->∃j,j<m/\W (i+1) j d f)/\∀x f,(Kq K a).Kp i H x f->g x σ f λc h=>tb {D with nx:=N,ct:=N,bk:=D.nx} c h):=by
 calc⟨λi m σ H=>m=xs.length-i/\i<=xs.length/\b i σ H,⟨xs.length,by simp,aal _,k⟩,?_⟩;rintro i m σ H ⟨rfl,c,p⟩;have q:=l i σ H c p;by_cases a:i<xs.length
 ·calc .inr ⟨⟨xs,xs[i],q,by simp[a]⟩,b (i+1),λd f c=>⟨xs.length-(i+1),by lia,rfl,a,c⟩,λx f y=>?_⟩;obtain⟨e,y⟩:=y;subst e;exact n i x σ _ (y xs q) p
 ·have e:i=xs.length:=by lia
  subst e;calc .inl ⟨⟨xs,q,K' _⟩,o σ H p⟩
theorem jH{f:Int}{n:Nat}(a:Nat->St->Hp->Prop)(l:a 0 σ H)
  (o:∀i σ H,i<n->a i σ H->g (.int (f+i)) σ H λb h=>tb {D with nx:=a (i+1),ct:=a (i+1),bk:=D.nx} b h) (q:∀σ H,a n σ H->D.nx σ H):
  ∃W:Nat->Nat->St->Hp->Prop,(∃m,W 0 m σ H)/\∀i m σ H,W i m σ H->
   ((Bg f n).stop i H/\D.nx σ H)\/((Bg f n).go i H/\∃N:St->Hp->Prop,(∀c d,N c d->∃k,k<m/\W (i+1) k c d)/\∀x d,(Bg f n).Kp i H x d->g x σ d λb h=>tb {D with nx:=N,ct:=N,bk:=D.nx} b h):=by
 calc⟨λi m σ H=>m=n-i/\i<=n/\a i σ H,⟨n,by simp,aal _,l⟩,?_⟩;rintro i m σ H ⟨rfl,b,p⟩;by_cases j:i<n
 ·calc .inr ⟨j,a (i+1),λc d b=>⟨n-(i+1),by lia,rfl,j,b⟩,λx d y=>?_⟩;obtain⟨e,y⟩:=y;subst e y;exact o i σ _ j p
 ·have e:i=n:=by lia
  subst e;calc .inl ⟨K' _,q σ H p⟩
end
section
variable {op:CmpOp}{g:Int->Int->Int}
abbrev R2:=V->V->Hp->VK->Prop
def gS(X:Cx)(f:Value->Value->Sem Value)(r:R2):Prop:=
 ∀(pins:List (Addr×Obj)) (s:Shared) (σ:St) (H:Hp) (x y:V) (v u:Value) (Q:VK),Inv X pins σ H s->RelV x v->RelV y u->r x y H Q->
  wpAny (model X.prog X.w) X.A (f v u) (EP X pins σ Q) X.xe s
def Zp(X:Cx)(f:Value->Sem Value)(r:V->Hp->VK->Prop):Prop:=
 ∀(pins:List (Addr×Obj)) (s:Shared) (σ:St) (H:Hp) (x:V) (v:Value) (Q:VK),Inv X pins σ H s->RelV x v->r x H Q->
  wpAny (model X.prog X.w) X.A (f v) (EP X pins σ Q) X.xe s
def fq(X:Cx)(f:Value)(r:List V->Hp->VK->Prop):Prop:=
 ∀(pins:List (Addr×Obj)) (s:Shared) (σ:St) (H:Hp) (xs:List V) (us:List Value) (Q:VK),Inv X pins σ H s->Vals xs us->r xs H Q->
  wpAny (model X.prog X.w) X.A (call f us) (EP X pins σ Q) X.xe s
def Zq(X:Cx)(r:V->Hp->(Bool->Hp->Prop)->Prop):Prop:=
 ∀(pins:List (Addr×Obj)) (s:Shared) (σ:St) (H:Hp) (x:V) (v:Value) (Q:Bool->Hp->Prop),Inv X pins σ H s->RelV x v->r x H Q->
  wpAny (model X.prog X.w) X.A (truthy v) (TP X pins σ Q) X.xe s
def Ks(r:R2)(a b:TE):TE:=λσ H Q=>a σ H λx c=>b σ c λy a=>r x y a Q
def Zr(r:V->Hp->VK->Prop)(a:TE):TE:=λσ H Q=>a σ H λx b=>r x b Q
def rI(C:Int->Int->Prop)(g:Int->Int->V):R2:=λx y H Q=>∃i j,x=.int i/\y=.int j/\C i j/\Q (g i j) H
def Kt(g:Int->Int->V):R2:=λx y H Q=>∃i j,x=.int i/\y=.int j/\Q (g i j) H
def rU(g:Int->V):V->Hp->VK->Prop:=λx H Q=>∃i,x=.int i/\Q (g i) H
section
variable {X:Cx}{a b c:Expr}{ta tb tc:TE}{pos:Pos}
theorem OU(j:PE X a ta)(k:PE X b tb){pins:List (Addr×Obj)}{s:Shared}{σ:St}{H:Hp}{R:V->V->Hp->Prop}(I:Inv X pins σ H s)
  (h:ta σ H λx i=>tb σ i λy c=>R x y c) {Q:Value->Shared->Prop} {f:Value->Value->Sem Value}
  (l:∀v u g x y c,Inv X pins σ c g->RelV x v->RelV y u->R x y c->wpAny (model X.prog X.w) X.A (f v u) Q X.xe g):
  wpAny (model X.prog X.w) X.A (eval a X.env) (λv d=>wpAny (model X.prog X.w) X.A (eval b X.env) (λu e=>wpAny (model X.prog X.w) X.A (f v u) Q X.xe e) X.xe d) X.xe s:=by
 calc cX (j pins s σ H _ I h) λv e d=>?_;nofun;obtain⟨x,i,f,h,j⟩:=d;ac_rfl;calc cX (k pins e σ i _ f j) λu g d=>?_;nofun;obtain⟨y,c,e,f,i⟩:=d;ac_rfl;calc l v u g x y c e h f i
theorem aQ{op:Operator}{r:R2}(c:gS X (binaryOp op) r)(d:PE X a ta)(e:PE X b tb):PE X (.BinOp a op b pos) (Ks r ta tb):=by
 walk_at "xc";exact wpAny_BinOp (OU d e I h λv u f x y g i j k q=>c pins f σ g x y v u Q i j k q)
theorem jI{op:UnaryOp}{r:V->Hp->VK->Prop}(b:Zp X (unaryOp op) r)(c:PE X a ta):PE X (.UnaryOp op a pos) (Zr r ta):=by
 walk_at "xc";exact UnaryOp_ (cX (c pins s σ H _ I h) λv d ⟨x,e,f,g,i⟩=>b pins d σ e x v Q f g i)
theorem XW{f:Value->Value->Sem Value}{C:Int->Int->Prop}
  (a:∀(i j:Int) (t u:Tok) (s:Shared) (Q:Value->Shared->Prop) (E:Value->Shared->Prop),C i j->Q (.int (g i j) s.toks) {s with toks:=s.toks+1}->wpAny (model X.prog X.w) X.A (f (.int i t) (.int j u)) Q E s):
  gS X f (rI C λi j=>.int (g i j)):=by
 intro b s σ H x y v u Q I c d h;obtain⟨i,j,rfl,rfl,e,q⟩:=h;obtain⟨t,rfl⟩:=c;obtain⟨k,rfl⟩:=d;calc a i j t k s _ _ e ⟨.int (g i j),H,I.tok _,⟨_,rfl⟩,q⟩
theorem Ts{f:Value->Value->Sem Value}
  (a:∀(i j:Int) (t u:Tok) (s:Shared) (Q:Value->Shared->Prop) (E:Value->Shared->Prop),Q (.int (g i j) s.toks) {s with toks:=s.toks+1}->wpAny (model X.prog X.w) X.A (f (.int i t) (.int j u)) Q E s):
  gS X f (Kt λi j=>.int (g i j)):=by
 intro b s σ H x y v u Q I c d h;obtain⟨i,j,rfl,rfl,q⟩:=h;obtain⟨t,rfl⟩:=c;obtain⟨e,rfl⟩:=d;calc a i j t e s _ _ ⟨.int (g i j),H,I.tok _,⟨_,rfl⟩,q⟩
theorem Ku{f:Value->Value->Sem Value}{g:Int->Int->Bool}
  (a:∀(i j:Int) (t u:Tok) (s:Shared) (Q:Value->Shared->Prop) (E:Value->Shared->Prop),Q (.bool (g i j)) s->wpAny (model X.prog X.w) X.A (f (.int i t) (.int j u)) Q E s):
  gS X f (Kt λi j=>.bl (g i j)):=by
 intro b s σ H x y v u Q I c d h;obtain⟨i,j,rfl,rfl,q⟩:=h;obtain⟨t,rfl⟩:=c;obtain⟨e,rfl⟩:=d;calc a i j t e s _ _ ⟨.bl (g i j),H,I,rfl,q⟩
def Fy(i j:Int):Prop:=0<=j/\j<=1000000/\i.natAbs<2^64
def Fz(i j:Int):Prop:=(-(2^64)<i/\i<2^64)\/(-(2^64)<j/\j<2^64)
theorem Fz.ok{i j:Int}(h:Fz i j):IntMulOk i j:=by
 rcases h with⟨a,b⟩|⟨a,b⟩
 ·exact .of_left (intBits_le_64 a b)
 ·calc .of_right (intBits_le_64 a b)
theorem OV:gS X (binaryOp .Add) (Kt λi j=>.int (i+j)):=Ts λ_ _ _ _ _ _ _ q=>add_int q
theorem OW:gS X (binaryOp .Sub) (Kt λi j=>.int (i-j)):=Ts λ_ _ _ _ _ _ _ q=>sub_int q
theorem OX:gS X (binaryOp .Mult) (rI Fz λi j=>.int (i*j)):=XW λ_ _ _ _ _ _ _ a q=>mul_int q a.ok
theorem OY:gS X (binaryOp .Mod) (rI (λ_ j=>0<j) λi j=>.int (i%j)):=XW λi j _ _ _ _ _ a q=>by
 have b:(0:Int)<j:=a;calc mod_int' (by lia) (by rw[Int.fmod_eq_emod_of_nonneg i (by lia)];calc q)
theorem OZ:gS X (binaryOp .Pow) (rI Fy λi j=>.int (i^j.toNat)):=XW λ_ _ _ _ _ _ _ a q=>pow_int_small a.1 a.2.1 a.2.2 q
theorem unI{f:Value->Sem Value}{g:Int->Int}
  (a:∀(i:Int) (t:Tok) (s:Shared) (Q:Value->Shared->Prop) (E:Value->Shared->Prop),Q (.int (g i) s.toks) {s with toks:=s.toks+1}->wpAny (model X.prog X.w) X.A (f (.int i t)) Q E s):
  Zp X f (rU λi=>.int (g i)):=by
 intro b s σ H x v Q I c h;obtain⟨i,rfl,q⟩:=h;obtain⟨t,rfl⟩:=c;calc a i t s _ _ ⟨.int (g i),H,I.tok _,⟨_,rfl⟩,q⟩
theorem gu:Zp X (unaryOp .USub) (rU λi=>.int (-i)):=unI λ_ _ _ _ _ q=>neg_int q
end
def Kv:V->V->Bool
 | .bM,.bM=>true | .bM,.int _=>true | .int _,.bM=>true | .bM,.bl _=>true | .bl _,.bM=>true | .bM,.str _=>true | .str _,.bM=>true
 | .int _,.int _=>true | .bl _,.bl _=>true | .str _,.str _=>true | .zf _,.zf _=>true
 | .int _,.str _=>true | .str _,.int _=>true | .bl _,.str _=>true | .str _,.bl _=>true
 |_,_=>false
def rEq:R2:=λx y H Q=>Kv x y=true/\Q (.bl (decide (x=y))) H
def rNe:R2:=λx y H Q=>Kv x y=true/\Q (.bl (!decide (x=y))) H
theorem Bi{i j:Int}:decide (V.int i=V.int j)=(i==j):=by
 rw[Bool.eq_iff_iff];simp
theorem FA{i j:Bool}:decide (V.bl i=V.bl j)=(i==j):=by
 rw[Bool.eq_iff_iff];simp
theorem Bj{i j:Str}:decide (V.str i=V.str j)=(i==j):=by
 rw[Bool.eq_iff_iff];simp
theorem Bk{i j:Array UInt8}:decide (V.zf i=V.zf j)=(i.toList==j.toList):=by
 rw[Bool.eq_iff_iff]
 cases i
 cases j;simp
section
variable {X:Cx}{a b c:Expr}{ta tb tc:TE}{pos:Pos}
theorem bZ{pins:List (Addr×Obj)}{σ:St}{H:Hp}{s:Shared}{Q:VK}{k a:Bool}(I:Inv X pins σ H s)(q:Q (.bl k) H)(e:k=a):EP X pins σ Q (.bool a) s:=by
 subst e;calc⟨.bl k,H,I,rfl,q⟩
theorem Tt:gS X (compareOp .Eq) rEq:=by
 intro e s σ H x y v u Q I d a h;obtain⟨c,q⟩:=h
 cases x with
 |bM=>
  cases d
  cases y with
  |bM=>cases a;calc PySem.EqNone.eq_none_none (bZ I q (by simp))
  |bl j=>cases a;calc PySem.EqNone.eq_none_bool (bZ I q (by simp))
  |int j=>obtain⟨b,rfl⟩:=a;calc PySem.EqNone.eq_none_int (bZ I q (by simp))
  |str j=>obtain⟨b,rfl⟩:=a;calc PySem.EqNone.eq_none_str (bZ I q (by simp))
  |_=>calc absurd (show false=true from c) U'
 |bl i=>
  cases d
  cases y with
  |bM=>cases a;calc PySem.EqNone.eq_bool_none (bZ I q (by simp))
  |bl j=>cases a;calc eq_bool (bZ I q FA)
  |str j=>obtain⟨b,rfl⟩:=a;calc PySem.EqMixed.eq_bool_str (bZ I q (by simp))
  |_=>calc absurd (show false=true from c) U'
 |int i=>
  obtain⟨t,rfl⟩:=d
  cases y with
  |bM=>cases a;calc PySem.EqNone.eq_int_none (bZ I q (by simp))
  |int j=>obtain⟨b,rfl⟩:=a;calc eq_int (bZ I q Bi)
  |str j=>obtain⟨b,rfl⟩:=a;calc PySem.EqMixed.eq_int_str (bZ I q (by simp))
  |_=>calc absurd (show false=true from c) U'
 |str i=>
  obtain⟨t,rfl⟩:=d
  cases y with
  |bM=>cases a;calc PySem.EqNone.eq_str_none (bZ I q (by simp))
  |bl j=>cases a;calc PySem.EqMixed.eq_str_bool (bZ I q (by simp))
  |int j=>obtain⟨b,rfl⟩:=a;calc PySem.EqMixed.eq_str_int (bZ I q (by simp))
  |str j=>obtain⟨b,rfl⟩:=a;calc eq_str (bZ I q Bj)
  |_=>calc absurd (show false=true from c) U'
 |zf i=>
  obtain⟨t,rfl⟩:=d
  cases y with
  |zf j=>obtain⟨b,rfl⟩:=a;calc W.eq_bytes (bZ I q Bk)
  |_=>calc absurd (show false=true from c) U'
 |_=>cases y<;>calc absurd (show false=true from c) U'
theorem Tu:gS X (compareOp .NotEq) rNe:=by
 intro e s σ H x y v u Q I d a h;obtain⟨c,q⟩:=h
 cases x with
 |bM=>
  cases d
  cases y with
  |bM=>cases a;calc PySem.EqNone.ne_none_none (bZ I q (by simp))
  |bl j=>cases a;calc PySem.EqNone.ne_none_bool (bZ I q (by simp))
  |int j=>obtain⟨b,rfl⟩:=a;calc PySem.EqNone.ne_none_int (bZ I q (by simp))
  |str j=>obtain⟨b,rfl⟩:=a;calc PySem.EqNone.ne_none_str (bZ I q (by simp))
  |_=>calc absurd (show false=true from c) U'
 |bl i=>
  cases d
  cases y with
  |bM=>cases a;calc PySem.EqNone.ne_bool_none (bZ I q (by simp))
  |bl j=>cases a;calc ne_bool (bZ I q (congrArg not FA))
  |str j=>obtain⟨b,rfl⟩:=a;calc PySem.EqMixed.ne_bool_str (bZ I q (by simp))
  |_=>calc absurd (show false=true from c) U'
 |int i=>
  obtain⟨t,rfl⟩:=d
  cases y with
  |bM=>cases a;calc PySem.EqNone.ne_int_none (bZ I q (by simp))
  |int j=>obtain⟨b,rfl⟩:=a;calc ne_int (bZ I q (congrArg not Bi))
  |str j=>obtain⟨b,rfl⟩:=a;calc PySem.EqMixed.ne_int_str (bZ I q (by simp))
  |_=>calc absurd (show false=true from c) U'
 |str i=>
  obtain⟨t,rfl⟩:=d
  cases y with
  |bM=>cases a;calc PySem.EqNone.ne_str_none (bZ I q (by simp))
  |bl j=>cases a;calc PySem.EqMixed.ne_str_bool (bZ I q (by simp))
  |int j=>obtain⟨b,rfl⟩:=a;calc PySem.EqMixed.ne_str_int (bZ I q (by simp))
  |str j=>obtain⟨b,rfl⟩:=a;calc ne_str (bZ I q (congrArg not Bj))
  |_=>calc absurd (show false=true from c) U'
 |zf i=>
  obtain⟨t,rfl⟩:=d
  cases y with
  |zf j=>obtain⟨b,rfl⟩:=a;calc W.ne_bytes (bZ I q (congrArg not Bk))
  |_=>calc absurd (show false=true from c) U'
 |_=>cases y<;>calc absurd (show false=true from c) U'
theorem Tv:gS X (compareOp .Lt) (Kt λi j=>.bl (decide (i<j))):=Ku λ_ _ _ _ _ _ _ q=>lt_int q
theorem Tw:gS X (compareOp .LtE) (Kt λi j=>.bl (decide (i<=j))):=Ku λ_ _ _ _ _ _ _ q=>le_int q
theorem Tz:gS X (compareOp .Gt) (Kt λi j=>.bl (decide (j<i))):=Ku λ_ _ _ _ _ _ _ q=>gt_int q
theorem TB:gS X (compareOp .GtE) (Kt λi j=>.bl (decide (j<=i))):=Ku λ_ _ _ _ _ _ _ q=>ge_int q
theorem O0:gS X (compareOp .Is) (λx y H Q=>y=.bM/\Q (.bl (decide (x=.bM))) H):=by
 intro a s σ H x y v u Q I b c h;obtain⟨rfl,q⟩:=h
 cases c;refine is_none_gen (bZ I q ?_)
 cases x<;>first
  |(cases b;rfl)
  |(obtain⟨t,rfl⟩:=b;rfl)
theorem Kw:gS X (compareOp .IsNot) (λx y H Q=>y=.bM/\Q (.bl (!decide (x=.bM))) H):=by
 intro a s σ H x y v u Q I b c h;obtain⟨rfl,q⟩:=h
 cases c;refine isnot_none_gen (bZ I q ?_)
 cases x<;>first
  |(cases b;rfl)
  |(obtain⟨t,rfl⟩:=b;rfl)
theorem aG(b:Expr){op:CmpOp}(h:op≠.In:=by decide)(a:op≠.NotIn:=by decide):behindInMarks op b=false:=by
 have c:(op==CmpOp.In)=false:=by cases op<;>first|rfl|exact absurd rfl h
 have d:(op==CmpOp.NotIn)=false:=by cases op<;>first|rfl|exact absurd rfl a
 cases b<;>simp[behindInMarks,c,d]
theorem ie{r:R2}(c:gS X (compareOp op) r)(d:PE X a ta)(e:PE X b tb)(f:behindInMarks op b=false):PE X (.Compare a [op] [b] pos) (Ks r ta tb):=by
 walk_at "xc";exact wpAny_Compare1 (OU d e I h λv u g x y i j k l q=>c pins g σ i x y v u Q j k l q) f
def Bl(t:TE):TT:=λσ H Q=>t σ H λx a=>∃k,x=.bl k/\Q k a
theorem Bm{r:R2}(d:gS X (compareOp op) r)(f:PE X a ta)(g:PE X b tb)(i:behindInMarks op b=false):PT X (.Compare a [op] [b] pos) (Bl (Ks r ta tb)):=by
 walk_at "xc";refine wpAny_isTrue_Compare1 (cX (f pins s σ H _ I h) λv j ⟨x,k,l,m,n⟩=>cX (g pins j σ k _ l n) λu f ⟨y,o,p,q,r⟩=>
  cX (d pins f σ o x y v u _ p m q r) λc g ⟨z,t,w,A,k,e,B⟩=>?_) i
 subst e
 cases A;calc wpAny_truthy_bool ⟨t,w,B⟩
def zB(r b:R2)(ta tb tc:TE):TE:=λσ H Q=>ta σ H λx a=>tb σ a λy c=>r x y c λz a=>∃k,z=.bl k/\
 (if k=true then tc σ a λw' c=>b y w' c Q else Q (.bl false) a)
theorem xk{d:CmpOp}{r f:R2}(m:gS X (compareOp op) r)(n:gS X (compareOp d) f)(o:PE X a ta)(p:PE X b tb)(q:PE X c tc)
  (t:lastMarks [op,d] [b,c]=false:=by with_unfolding_all rfl):PE X (.Compare a [op,d] [b,c] pos) (zB r f ta tb tc):=by
 walk_at "xc";refine Compare_chain (cX (o pins s σ H _ I h) λv d ⟨x,f,r,w,z⟩=>chain_link (cX (p pins d σ f _ r z) λu o ⟨y,A,B,g,C⟩=>
  cX (m pins o σ A x y v u _ B w g C) λd D ⟨z,i,j,E,k,e,l⟩=>?_)) t
 subst e
 cases E;refine wpAny_truthy_bool ?_
 cases k with
 |false=>calc ite_ff ⟨.bl false,i,j,rfl,l⟩
 |true=>calc ite_tt (chain_last (cX (q pins D σ i _ j l) λd e ⟨f,k,m,o,p⟩=>n pins e σ k y f u d Q m g o p))
def Zt(K:W.Frag)(x:V)(H:Hp)(k:Bool):Prop:=
 match x with
 | .bM=>k=false
 | .bl b=>k=b
 | .int i=>k=(i !=0)
 | .str y=>y.length<=sizeLine/\k=((y.length:Int) !=0)
 | .zf y=>y.size<=sizeLine/\k=((y.size:Int) !=0)
 | .ref p=>(∃xs,aU K H p xs/\k= !xs.isEmpty)\/(∃xs,bI K H p xs/\k= !xs.isEmpty)\/∃a,H p=some (.dK a)/\k= !a.isEmpty
 |_=>False
theorem zC{κ:Type}{a:List (κ×V)}{vs:List (κ×Value)}(r:KV a vs):(!vs.isEmpty)= !a.isEmpty:=by
 cases r<;>rfl
theorem rF{xs:List V}{a:List Value}(r:Vals xs a):(!a.toArray.isEmpty)= !xs.isEmpty:=by
 cases r<;>simp
theorem oW:(sizeLine:Nat)<2^63:=by rw[sizeLine_eq];decide
theorem Zu:Zq X (λx H Q=>∃k,Zt X.K x H k/\Q k H):=by
 intro m s σ H x v Q I f h;obtain⟨k,e,q⟩:=h;have m:=oW;have h:sizeLine=16777216:=sizeLine_eq
 cases x with
 |bM=>
  cases f;have a:k=false:=e;subst a;calc truthy_none ⟨H,I,q⟩
 |bl b=>
  cases f;have a:k=b:=e;subst a;calc wpAny_truthy_bool ⟨H,I,q⟩
 |int i=>
  obtain⟨t,rfl⟩:=f;have a:k=(i !=0):=e;subst a;calc PySem.P.truthy_int ⟨H,I,q⟩
 |str y=>
  obtain⟨t,rfl⟩:=f;obtain⟨o,a⟩:y.length<=sizeLine/\k=((y.length:Int) !=0):=e;subst a;calc PySem.P.truthy_str (by lia) ⟨H,I.tok _,q⟩
 |zf y=>
  obtain⟨t,rfl⟩:=f;obtain⟨o,a⟩:y.size<=sizeLine/\k=((y.size:Int) !=0):=e;subst a;calc W.truthy_bytes (by lia) ⟨H,I.tok _,q⟩
 |ref p=>
  cases f;have a:(∃d,aU X.K H p d/\k= !d.isEmpty)\/(∃d,bI X.K H p d/\k= !d.isEmpty)\/∃g,H p=some (.dK g)/\k= !g.isEmpty:=e;rcases a with⟨d,j,a⟩|⟨d,j,a⟩|⟨g,j,a⟩
  ·subst a;obtain⟨u,r,l,n⟩:=I.list j;have c:=r.length;exact wpAny_truthy_list l.isList (by simp only[List.size_toArray];lia) ⟨H,I.tok _,by rw[rF r];calc q⟩
  ·subst a;obtain⟨u,r,l,n⟩:=I.tuple j;have c:=r.length;exact truthy_tuple l (by simp only[List.size_toArray];lia) ⟨H,I.tok _,by rw[rF r];calc q⟩
  ·subst a;obtain⟨n,f,d,r,m⟩:g.length<=sizeLine/\(p==sysModules)=false/\∃d,KV g d/\s.heap.DictOf (dJ X.prog X.w) p d:=I.aZ p _ j;have c:g.length=d.length:=Paired.length r;calc wpAny_truthy_dict f m (by lia) ⟨H,I.tok _,by rw[zC r];calc q⟩
 |_=>calc(show False from e).elim
theorem zD:gS X (binaryOp .Add) (λx y H Q=>∃i j,x=.str i/\y=.str j/\i.length+j.length<=sizeLine/\Q (.str (i++j)) H):=by
 intro a s σ H x y v u Q I b c h;obtain⟨i,j,rfl,rfl,d,q⟩:=h;obtain⟨t,rfl⟩:=b;obtain⟨e,rfl⟩:=c;calc add_str (λe a=>⟨.str (i++j),H,I.tok _,⟨_,rfl⟩,q⟩) d
theorem vals1{x:V}{us:List Value}(r:Vals [x] us):∃u,us=[u]/\RelV x u:=by
 cases r with
 |cons a b=>cases b;calc⟨_,rfl,a⟩
theorem vals2{x y:V}{us:List Value}(r:Vals [x,y] us):∃u w',us=[u,w']/\RelV x u/\RelV y w':=by
 cases r with
 |cons a b=>
  cases b with
  |cons c d=>cases d;calc⟨_,_,rfl,a,c⟩
theorem Dd(b:X.calm=true):fq X (.builtin "max") (λxs H Q=>∃i j,xs=[.int i,.int j]/\Q (.int (if j > i then j else i)) H):=by
 intro a s σ H xs c Q I r h;obtain⟨i,j,rfl,q⟩:=h;obtain⟨u,d,rfl,⟨t,rfl⟩,⟨e,rfl⟩⟩:=vals2 r;refine max_two_ints (I.ok.hd b) λa c k=>⟨_,H,I.kept k,?_,q⟩
 by_cases a:j > i
 ·rw[if_pos a,if_pos a];exact⟨_,rfl⟩
 ·rw[if_neg a,if_neg a];calc⟨_,rfl⟩
theorem uj:fq X (.type "int") (λxs H Q=>(∃i,xs=[.int i]/\Q (.int i) H)\/∃k,xs=[.bl k]/\Q (.int (if k then 1 else 0)) H):=by
 intro a s σ H xs c Q I r h;rcases h with⟨i,rfl,q⟩|⟨k,rfl,q⟩
 ·obtain⟨u,rfl,t,rfl⟩:=vals1 r;exact call_int_int ⟨.int i,H,I,⟨_,rfl⟩,q⟩
 ·obtain⟨u,rfl,b⟩:=vals1 r
  cases b;calc call_int_bool ⟨.int (if k then 1 else 0),H,I.tok _,⟨_,rfl⟩,q⟩
def FC(K:W.Frag)(x:V)(H:Hp)(n:Nat):Prop:=
 match x with
 | .str y=>y.length<=sizeLine/\n=y.length
 | .zf y=>y.size<=sizeLine/\n=y.size
 | .ref p=>(∃xs,aU K H p xs/\n=xs.length)\/∃xs,bI K H p xs/\n=xs.length
 |_=>False
theorem FE:fq X (.builtin "len") (λxs H Q=>∃x n,xs=[x]/\FC X.K x H n/\Q (.int n) H):=by
 intro i s σ H xs m Q I r h;obtain⟨x,n,rfl,e,q⟩:=h;obtain⟨u,rfl,c⟩:=vals1 r;have h:=oW;have h:sizeLine=16777216:=sizeLine_eq
 cases x with
 |str y=>
  obtain⟨t,rfl⟩:=c;obtain⟨j,b⟩:y.length<=sizeLine/\n=y.length:=e;subst b;calc len_str (by lia) ⟨.int _,H,I.tok _,⟨_,rfl⟩,q⟩
 |zf y=>
  obtain⟨t,rfl⟩:=c;obtain⟨j,b⟩:y.size<=sizeLine/\n=y.size:=e;subst b;calc W.len_bytes (by lia) ⟨.int _,H,I.tok _,⟨_,rfl⟩,q⟩
 |ref p=>
  cases c;have b:(∃xs,aU X.K H p xs/\n=xs.length)\/∃xs,bI X.K H p xs/\n=xs.length:=e;rcases b with⟨xs,d,b⟩|⟨xs,d,b⟩
  ·subst b;obtain⟨k,f,g,l⟩:=I.list d;have a:=f.length;exact Calls.call_len_list g.isList (by simp only[List.size_toArray];lia) ⟨.int xs.length,H,I.tok _,⟨_,by simp only[List.size_toArray];rw[a]⟩,q⟩
  ·subst b;obtain⟨k,f,g,l⟩:=I.tuple d;have a:=f.length;calc len_tuple g (by simp only[List.size_toArray];lia) ⟨.int xs.length,H,I.tok _,⟨_,by simp only[List.size_toArray];rw[a]⟩,q⟩
 |_=>calc(show False from e).elim
end
end
section
variable {C:Addr}{mA:Str->Option Value}{Q:Value->Shared->Prop}
structure zE(h:Heap)(x dx C:Addr)(mA:Str->Option Value):Prop where
 obj:h.get? x=some (W.instObj C dx)
 ns:h.Ns1 dx mA
 ne:dx≠x
theorem De{h:Heap}{b:Addr}(n:h.Ns1 b mA):∃od,h.get? b=some od/\∀name,W.lookIn name od=some (mA name):=by
 obtain⟨o,c,m,d,f,g,_,i⟩:=n;calc⟨o,d,λname=>?_⟩;have e:=i name;unfold nsFind findBy at e;rw[<-Array.find?_toList]at e;unfold W.lookIn;rw[f];dsimp only;split
 ·rename_i y q;rw[q]at e;exact congrArg some e
 ·rename_i q;rw[q]at e;have a:c.toList.any (·.refKey)=false:=by
   rw[List.any_eq_false];intro y j;obtain⟨z,t,k⟩:=g y (Array.mem_toList_iff.mp j);simp[DictEntry.refKey,k]
  have l:¬c.toList.any (·.refKey)=true:=by rw[a];exact U'
  rw[if_neg l];calc congrArg some e
theorem zE.look{h:Heap}{x a:Addr}(I:zE h x a C mA):∃od,W.InstAt h x (W.instObj C a) C (some od)/\∀name,W.lookIn name od=some (mA name):=
 let ⟨od,a,b⟩:=De I.ns
 ⟨od,⟨I.obj,rfl,rfl,a⟩,b⟩
section
variable {prog:Program}{w:World}{A:Around}{E:Value->Shared->Prop}{s:Shared}{K:W.Frag}{x dx C f:Addr}{mA:Str->Option Value}{name:Str}{v:Value}
theorem get_map{a:Bool}(X:K.In s.heap)(I:zE s.heap x dx C mA)(b:W.plainGet K C name=true)(c:W.hasDictIn K C=true)
  (d:W.findIn K (.ref C) name=some none) (e:mA name=some v) (f:W.handedIn v=true) (h:Q v {s with toks:=s.toks+1}):
  wpAny (model prog w) A (getAttr (.ref x) name a) Q E s:=by
 obtain⟨g,J,a⟩:=I.look;calc W.get_value X J (W.plainGet_of b).1 (W.findObj_own c d rfl (by rw[a,e])) f h
theorem FG{pl:Sem Bool}{Q:Value×List Value->Shared->Prop}(X:K.In s.heap)(I:zE s.heap x dx C mA)(a:W.plainGet K C name=true)
  (b:W.findIn K (.ref C) name=some (some (.ref f))) (c:W.isFn K (.ref f)=true) (d:mA name=none) (h:Q (.ref f,[.ref x]) s):
  wpAny (model prog w) A (getMethod (.ref x) name pl) Q E s:=by
 obtain⟨e,J,g⟩:=I.look;calc W.method_fn X J (W.plainGet_of a).1 (W.plainGet_of a).2 b (beq_iff_eq.mp c) (by show(W.lookIn name e).map (·.isSome)=some false;rw[g,d];rfl) h
theorem Kx{ns:List Str}{Q:Unit->Shared->Prop}(X:K.In s.heap)(I:zE s.heap x dx C mA)
  (b:W.findIn K (.ref C) "__setattr__"=some (some (.builtin "object.__setattr__"))) (c:W.plainOver K C=true) (d:W.takerIn K C name=some none) (e:W.hasDictIn K C=true)
  (i:PySem.Within mA ns) (hsz:ns.length<=sizeLine)
  (h:∀h',zE h' x dx C (λy=>if y=name then some v else mA y)->Heap.SameBut dx s.heap h'->Q () {s with heap:=h',toks:=s.toks+2}):
  wpAny (model prog w) A (setAttr (.ref x) name v) Q E s:=by
 obtain⟨g,J,j⟩:=I.look;calc W.set_plain X J b (W.osa_open (s:={s with toks:=s.toks+1}) (r:=none) X J c d λb=>?_);obtain⟨d,b,c⟩:=W.any_some e;have d:s.heap.get? x=some ⟨.ref C,some dx,.plain,#[]⟩:=I.obj;calc j' (P' (j' (j' (wpAny_loadPart d (j' (W.Looks.here (s:={s with toks:=s.toks+1}) (W.looks_clsIn X b) ?_))))));rw[c];calc P' (a:=some dx) (j' (P' (j' ?_)));calc wpAny_nsSet1 (s:={s with toks:=s.toks+1}) I.ns λh' e g=>?_;obtain⟨l,j,k,b,c,d⟩:=e.count (PySem.Within.cons name v i);calc j' (wpAny_lookBehind b (by rw[c];calc pastItsLine_dict (aap d (by rw[List.length_cons];lia))) ?_);calc P' (h _ ⟨(g.2 _ (Ne.symm I.ne)).trans I.obj,e,I.ne⟩ g)
theorem FH{R:Result->Shared->Prop}{vs:List Value}{a:List (Str×Value)}(X:K.In s.heap)(b:W.makesIn K C=true)
  (c:W.findIn K (.ref C) "__init__"=some (some (.ref f))) (e:W.typeIn K (.ref f)=some (.type "function"))
  (h:codeAny (model prog w) (A.under (.builtin "type.__call__" ⟨.ref C::vs,a⟩)) (.call (.ref f) ⟨.ref (s.heap.objs.size + 1)::vs,a⟩) (W.InitBack (s.heap.objs.size + 1) R)
   {s with heap:=(s.heap.push W.emptyDict).push (W.instObj C s.heap.objs.size)}):
  codeAny (model prog w) A (.call (.ref C) ⟨vs,a⟩) R s:=by
 obtain⟨a,g,d,t,i⟩:=s;calc W.make_core (W.makes_of X b) (W.looks_findIn X c) (λa=>W.bind_fn X a e) (.inl rfl) h
end
def bt(f:Str)(v:V):List (Str×V)->List (Str×V)
 | []=>[(f,v)]
 |(g,x)::r=>if g=f then(g,v)::r else(g,x)::bt f v r
theorem bx(f g:Str)(v:V):∀a:List (Str×V),(bt f v a).lookup g=if g=f then some v else a.lookup g
 | []=>by
  show List.lookup g [(f,v)]=_;by_cases h:g=f
  ·have a:(g==f)=true:=beq_iff_eq.mpr h;simp only[List.lookup,a,if_pos h]
  ·have a:(g==f)=false:=beq_eq_false_iff_ne.mpr h;simp only[List.lookup,a,if_neg h]
 |(k,x)::r=>by
  have c:=bx f g v r;rw[show bt f v ((k,x)::r)=(if k=f then(k,v)::r else(k,x)::bt f v r) from rfl];by_cases b:k=f
  ·rw[if_pos b];by_cases h:g=k
   ·have a:(g==k)=true:=beq_iff_eq.mpr h;simp only[List.lookup,a,if_pos (h.trans b)]
   ·have a:(g==k)=false:=beq_eq_false_iff_ne.mpr h;simp only[List.lookup,a,if_neg (λe:g=f=>h (e.trans b.symm))]
  ·rw[if_neg b];by_cases h:g=k
   ·have a:(g==k)=true:=beq_iff_eq.mpr h;simp only[List.lookup,a,if_neg (λe:g=f=>b (h.symm.trans e))]
   ·have a:(g==k)=false:=beq_eq_false_iff_ne.mpr h;simp only[List.lookup,a];calc c
theorem oX(f:Str)(v:V):∀a:List (Str×V),f∈(bt f v a).map (·.1)/\∀g,g∈a.map (·.1)->g∈(bt f v a).map (·.1)
 | []=>⟨by simp[bt],λg h=>by simp at h⟩
 |(k,x)::r=>by
  obtain⟨c,d⟩:=oX f v r;rw[show bt f v ((k,x)::r)=(if k=f then(k,v)::r else(k,x)::bt f v r) from rfl];by_cases b:k=f
  ·rw[if_pos b];subst b;exact⟨by simp,λg h=>by simpa using h⟩
  ·rw[if_neg b];refine⟨?_,λg h=>?_⟩
   ·rw[List.map_cons];exact aaE _ c
   ·rw[List.map_cons] at h ⊢;rcases List.mem_cons.mp h with e | e
    ·exact List.mem_cons.mpr (.inl e)
    ·calc aaE _ (d g e)
theorem kE(f:Str)(v:V):∀a:List (Str×V),(bt f v a).length<=a.length+1
 | []=>by simp[bt]
 |(k,x)::r=>by
  have a:=kE f v r;rw[show bt f v ((k,x)::r)=(if k=f then(k,v)::r else(k,x)::bt f v r) from rfl];by_cases a:k=f
  ·rw[if_pos a,List.length_cons,List.length_cons];lia
  ·rw[if_neg a,List.length_cons,List.length_cons];lia
theorem jZ.some_of{v:V}{o:Option Value}(r:jZ (some v) o):∃u,o=some u/\RelV v u:=by
 cases o with
 |none=>calc(show False from r).elim
 |some u=>calc⟨u,rfl,r⟩
theorem jZ.none_of{o:Option Value}(r:jZ none o):o=none:=by
 cases o with
 |none=>rfl
 |some u=>calc(show False from r).elim
theorem Df{v:V}{u:Value}(r:RelV v u):W.handedIn u=true:=by
 cases v with
 |bM=>cases(show u=Value.none from r);rfl
 |bl b=>cases(show u=Value.bool b from r);rfl
 |int i=>obtain⟨t,e⟩:=(show ∃t,u=Value.int i t from r);cases e;rfl
 |str x=>obtain⟨t,e⟩:=(show ∃t,u=Value.str x t from r);cases e;rfl
 |zf b=>obtain⟨t,e⟩:=(show ∃t,u=Value.bytes b t from r);cases e;rfl
 |Mz b=>obtain⟨t,e⟩:=(show ∃t,u=Value.float b t from r);cases e;rfl
 |ref a=>cases(show u=Value.ref a from r);rfl
 |ty n=>cases(show u=Value.type n from r);rfl
section
variable {P:Program}{w:World}{H H':Hp}{h h':Heap}{a C dx:Addr}{fs zh:List (Str×V)}
theorem nM(b:lY P w H h)(e:H a=some (.ins C dx fs)):∃mA,zE h a dx C mA/\(∀f,jZ (fs.lookup f) (mA f))/\PySem.Within mA (fs.map (·.1))/\fs.length<=1000/\H dx=some (.own a):=by
 obtain⟨d,z,c,f,mA,n,r,q⟩:=(show cQ P w H h a (.ins C dx fs) from b a _ e)
 calc⟨mA,⟨f,n,c⟩,r,q,z,d⟩
end
structure tw(K:W.Frag)(C:Addr):Prop where
 pg:W.plainGet K C Str.empty=true
 hd:W.hasDictIn K C=true
 po:W.plainOver K C=true
 sa:W.findIn K (.ref C) "__setattr__"=some (some (.builtin "object.__setattr__"))
theorem tw.get{K:W.Frag}(c:tw K C)(f:Str):W.plainGet K C f=true:=c.pg
def b4(K:W.Frag)(C:Addr)(f:Str):Prop:=W.findIn K (.ref C) f=some none
theorem b4.TC{K:W.Frag}{f:Str}(n:b4 K C f):W.takerIn K C f=some none:=by
 unfold W.takerIn;rw[show W.findIn K (.ref C) f=some none from n];rfl
structure Meth(K:W.Frag)(C:Addr)(m:Str)(f:Addr):Prop where
 at_:W.findIn K (.ref C) m=some (some (.ref f))
 fn:W.isFn K (.ref f)=true
 kp:W.keepIn K (.ref f)=true
section
variable {X:Cx}{pins:List (Addr×Obj)}{σ:St}{H:Hp}{s:Shared}{a C dx:Addr}{fs:List (Str×V)}{f:Str}{v:V}{A:Around}{E:Value->Shared->Prop}
theorem zF{b:Bool}(I:Inv X pins σ H s)(e:H a=some (.ins C dx fs))(c:tw X.K C)(n:b4 X.K C f)(l:fs.lookup f=some v)
  (h:∀u s',Inv X pins σ H s'->RelV v u->Q u s'):wpAny (model X.prog X.w) A (getAttr (.ref a) f b) Q E s:=by
 obtain⟨mA,O,r,_,_,_⟩:=nM I.aZ e;obtain⟨u,d,b⟩:=jZ.some_of (v:=v) (o:=mA f) (by rw[<-l];calc r f);calc get_map I.ic O (c.get f) c.hd n d (Df b) (h u _ (I.tok _) b)
theorem j2{m:Str}{g:Addr}{pl:Sem Bool}{Q:Value×List Value->Shared->Prop}(I:Inv X pins σ H s)(e:H a=some (.ins C dx fs))(c:tw X.K C)(k:Meth X.K C m g)(l:fs.lookup m=none)
  (h:Q (.ref g,[.ref a]) s):wpAny (model X.prog X.w) A (getMethod (.ref a) m pl) Q E s:=by
 obtain⟨mA,O,r,_,_,_⟩:=nM I.aZ e;have b:mA m=none:=jZ.none_of (by rw[<-l];calc r m);calc FG I.ic O (c.get m) k.at_ k.fn b h
theorem zG{y:V}{u:Value}{Q:Unit->Shared->Prop}(I:Inv X pins σ H s)(e:H a=some (.ins C dx fs))(c:tw X.K C)(n:b4 X.K C f)(b:fs.length<1000)(k:RelV y u)
  (h:∀s',Inv X pins σ (upd H a (.ins C dx (bt f y fs))) s'->Q () s'):wpAny (model X.prog X.w) A (setAttr (.ref a) f u) Q E s:=by
 obtain⟨mA,O,r,i,_,j⟩:=nM I.aZ e;have b:(fs.map (·.1)).length<=sizeLine:=by rw[List.length_map,sizeLine_eq];lia
 calc Kx I.ic O c.sa c.po n.TC c.hd i b λg d l=>h _ ?_;have hd:∃o,g.get? dx=some o:=let ⟨o,_,_,b,_⟩:=d.ns;⟨o,b⟩
 calc I.write (x:=a) (e:=dx) (by rw[e];calc aaF) (.inr j) (λb q c z=>(l.2 b c).trans z) hd ?_;refine⟨by rw[az O.ne];calc j,?_,O.ne,d.obj,_,d.ns,λg=>?_,λg b=>?_⟩
 ·have:=kE f y fs;lia
 ·show jZ ((bt f y fs).lookup g) (if g=f then some u else mA g);rw[bx];by_cases q:g=f
  ·rw[if_pos q,if_pos q];exact k
  ·rw[if_neg q,if_neg q];exact r g
 ·by_cases q:g=f
  ·rw[q];exact(oX f y fs).1
  ·calc(oX f y fs).2 g (i g λz=>b ?_);show(if g=f then some u else mA g)=none;rw[if_neg q];calc z
theorem Inv.made(I:Inv X pins σ H s):Inv X pins σ (upd (upd H s.heap.objs.size (.own (s.heap.objs.size+1))) (s.heap.objs.size+1) (.ins C s.heap.objs.size []))
  {s with heap:=(s.heap.push W.emptyDict).push (W.instObj C s.heap.objs.size)}:=by
 have c:(s.heap.push W.emptyDict).get? s.heap.objs.size=some W.emptyDict:=V' s.heap rfl;have d:((s.heap.push W.emptyDict).push (W.instObj C s.heap.objs.size)).get? (s.heap.objs.size+1)=some (W.instObj C s.heap.objs.size):=by
  have:=V' (s.heap.push W.emptyDict) (o:=W.instObj C s.heap.objs.size) rfl;rwa [Heap.size_push]at this
 have f:(s.heap.push W.emptyDict).Ns s.heap.objs.size (λ_=>none):=⟨W.emptyDict,#[],_,c,rfl,(λe b=>absurd b (by simp)),λ_=>rfl⟩
 have e:=I.laid (a:=s.heap.objs.size) (o:=.own (s.heap.objs.size+1)) (h':=s.heap.push W.emptyDict) (t':=s.toks) (λb u q=>J' _ q) (K' _) ⟨_,c⟩;calc e.laid (a:=s.heap.objs.size+1) (o:=.ins C s.heap.objs.size []) (t':=s.toks) (λb u q=>J' _ q) (Nat.le_of_eq (Heap.size_push _ _)) ?_;have b:s.heap.objs.size≠s.heap.objs.size+1:=Y' (Nat.lt_succ_self _);calc⟨by rw[az b,af],aal _,b,d,λ_=>none,(Heap.Ns1.of_empty f).at λo q=>J' _ q,λ_=>aaF,λy b=>absurd rfl b⟩
theorem Ky{prog:Program}{w:World}{env:Env}{e:Expr}{f:Str}{pos:Pos}{s:Shared}(b:attributeBase e f env (eval e env)=eval e env)
  (h:wpAny (model prog w) A (eval e env) (λo a=>wpAny (model prog w) A (getAttr o f true) Q E a) E s):wpAny (model prog w) A (eval (.Attribute e f pos) env) Q E s:=
 Attribute_any_ h (by rw[arm_eval_Attribute,b])
end
def Kz(K:W.Frag)(a:TE)(f:Str):TE:=λσ H Q=>a σ H λx b=>∃a C d c v,x=.ref a/\b a=some (.ins C d c)/\tw K C/\b4 K C f/\c.lookup f=some v/\Q v b
def O1(K:W.Frag)(a b:TE)(f:Str):TS:=λD σ H=>b σ H λy d=>a σ d λx c=>∃a C d b,x=.ref a/\c a=some (.ins C d b)/\tw K C/\b4 K C f/\b.length<1000/\
 D.nx σ (upd c a (.ins C d (bt f y b)))
section
variable {X:Cx}{o e value:Expr}{f:Str}{pos pos' O2:Pos}{ta tv:TE}
theorem bJ(b:PE X e ta)(d:attributeBase e f X.env (eval e X.env)=eval e X.env):PE X (.Attribute e f pos) (Kz X.K ta f):=by
 walk_at "xc";refine Ky d (cX (b pins s σ H _ I h) λu p g=>?_);nofun;obtain⟨x,i,j,k,a,C,b,d,v,m,o,c,n,l,q⟩:=g;ac_rfl;subst m;obtain rfl:u=Value.ref a:=k;exact zF j o c n l λd g a b=>⟨v,i,a,b,q⟩
theorem fW(b:PE X o ta)(d:PE X value tv)(e:swapsWith value (some (.Attribute o f pos')) pos.line X.env=pure false):PS X (.Assign [.Attribute o f pos'] value pos) (O1 X.K ta tv f):=by
 walk_at "xd";refine plainObj_wpAny_Assign_Attribute (cX (d pins s σ H _ I h) λu g ⟨y,i,j,k,q⟩=>cX (b pins g σ i _ j q) λm d p=>?_) e;nofun;obtain⟨x,b,r,t,a,C,d,g,v,w,c,n,l,z⟩:=p;ac_rfl;subst v;obtain rfl:m=Value.ref a:=t;exact zG r w c n l k λb a=>⟨σ,_,a,z⟩
theorem ML{pl:Sem Bool}{m:Str}{b:Pos}{args:List Expr}{pins:List (Addr×Obj)}{s:Shared}{σ:St}{H:Hp}{g:TE}(r:PE X e g)(I:Inv X pins σ H s)
  (h:g σ H λx i=>∃a C n j g,x=.ref a/\i a=some (.ins C n j)/\tw X.K C/\Meth X.K C m g/\j.lookup m=none/\
   ∀d,Inv X pins σ i d->wpAny (model X.prog X.w) X.A (callWith pos (.ref g) [.ref a] (backTo pos (starEach args X.env)) (backToKw pos (keywordEach [] X.env))) Q X.xe d)
  (t:eval (.Call (.Attribute e m b) args [] pos) X.env=(do
   let o <-eval e X.env
   standAt b.atName
   let (f,first) <-holding [o] (getMethod o m pl)
   callWith pos f first (backTo pos (starEach args X.env)) (backToKw pos (keywordEach [] X.env)))):
  wpAny (model X.prog X.w) X.A (eval (.Call (.Attribute e m b) args [] pos) X.env) Q X.xe s:=by
 calc W.methodCall_KW (pl:=pl) (cX (r pins s σ H _ I h) λu d v=>?_) t;nofun;obtain⟨x,i,p,y,a,C,n,j,g,z,B,c,k,l,q⟩:=v;ac_rfl;subst z;obtain rfl:u=Value.ref a:=y;calc j2 p B c k l (q d p)
end
section
variable {X:Cx}{pins:List (Addr×Obj)}{σ:St}{H:Hp}{s:Shared}{A:Around}{E:Value->Shared->Prop}{Q:Value->Shared->Prop}{c:Value}{b:Bool}
inductive gv(K:W.Frag)(H:Hp):V->Value->Prop where
  |bM:gv K H .bM (.type "NoneType")
  |bl (x:Bool):gv K H (.bl x) (.type "bool")
  |int (i:Int):gv K H (.int i) (.type "int")
  |str (x:Str):gv K H (.str x) (.type "str")
  |Mz (x:UInt64):gv K H (.Mz x) (.type "float")
  |lst {a:Addr} {xs:List V} (e:H a=some (.lst xs)):gv K H (.ref a) (.type "list")
  |zg {a:Addr} {o:Obj} {xs:List V} (e:H a=some (.zg o (.lst xs))):gv K H (.ref a) (.type "list")
  |tup {a:Addr} {xs:List V} (e:H a=some (.tup xs)):gv K H (.ref a) (.type "tuple")
  |dK {a:Addr} {bg:List (Key×V)} (e:H a=some (.dK bg)):gv K H (.ref a) (.type "dict")
  |dT {a:Addr} {bg:List (List Key×V)} (e:H a=some (.dT bg)):gv K H (.ref a) (.type "dict")
  | ins {a C dx:Addr} {fs:List (Str×V)} (e:H a=some (.ins C dx fs)) (cl:tw K C) (ha:W.findIn K (.ref C) "__class__"=some (some (.builtin "object.__class__")))
      (hn:W.specialIn K (.builtin "object.__class__") "__get__"=some (some (.builtin "getset_descriptor.__get__"))) (XY:W.takesIn K (.builtin "object.__class__")=some true)
      (hm:W.mroIn K C (.type "object")=some true):gv K H (.ref a) (.ref C)
theorem uk{x:V}{u t:Value}(I:Inv X pins σ H s)(d:RelV x u)(r:gv X.K H x t)(e:W.kitOne X.K t c=some b)(h:∀v,Q (.bool b) {s with toks:=v}):
  wpAny (model X.prog X.w) A (call (.builtin "isinstance") [u,c]) Q E s:=by
 cases r with
 |bM=>cases(show u=Value.none from d);calc W.kia_one W.kitx_none I.ic aaF e (λz=>nomatch z) h
 |bl y=>cases(show u=Value.bool y from d);calc W.kia_one W.kitx_bool I.ic aaF e (λz=>nomatch z) h
 |int i=>obtain⟨t,q⟩:=(show ∃t,u=Value.int i t from d);cases q;calc W.kia_one W.kitx_int I.ic aaF e (λz=>nomatch z) h
 |str y=>obtain⟨t,q⟩:=(show ∃t,u=Value.str y t from d);cases q;calc W.kia_one W.kitx_str I.ic aaF e (λz=>nomatch z) h
 |Mz y=>obtain⟨t,q⟩:=(show ∃t,u=Value.float y t from d);cases q;calc W.kia_one W.kitx_float I.ic aaF e (λz=>nomatch z) h
 | @lst a j f=>
  cases(show u=Value.ref a from d);obtain⟨_,_,n,_,g⟩:=(show cQ X.prog X.w H s.heap a (.lst j) from I.aZ a _ f)
  calc W.kia_one W.kitx_list I.ic ⟨_,g,rfl⟩ e (λz=>nomatch z) h
 | @zg a B j f=>
  cases(show u=Value.ref a from d);obtain⟨_,_,_,n,_,g⟩:=(show cQ X.prog X.w H s.heap a (.zg B (.lst j)) from I.aZ a _ f)
  calc W.kia_one W.kitx_list I.ic ⟨_,g,rfl⟩ e (λz=>nomatch z) h
 | @tup a j f=>
  cases(show u=Value.ref a from d);obtain⟨_,_,_,p⟩:=(show cQ X.prog X.w H s.heap a (.tup j) from I.aZ a _ f)
  obtain⟨o,g,k,_⟩:=p;calc W.kia_one W.kitx_tuple I.ic ⟨o,g,k⟩ e (λz=>nomatch z) h
 | @dK a l f=>
  cases(show u=Value.ref a from d);obtain⟨_,_,i,_,p⟩:=(show cQ X.prog X.w H s.heap a (.dK l) from I.aZ a _ f)
  obtain⟨o,D,F,g,k,_⟩:=p;calc W.kia_one W.kitx_dict I.ic ⟨o,g,k.1⟩ e (λz=>nomatch z) h
 | @dT a l f=>
  cases(show u=Value.ref a from d);obtain⟨_,_,j,_,o,D,F,g,k,_⟩:=(show cQ X.prog X.w H s.heap a (.dT l) from I.aZ a _ f)
  calc W.kia_one W.kitx_dict I.ic ⟨o,g,k.1⟩ e (λz=>nomatch z) h
 | @ins a C g i f m G L M N=>
  cases(show u=Value.ref a from d);obtain⟨mA,O,_⟩:=nM I.aZ f;obtain⟨a,J,_⟩:=O.look;calc W.kia_one (W.kitx_own (m.get _) m.hd G L M N) I.ic J e (λz=>nomatch z) h
end
end
section
variable {A:Around}{H:Hp}{kw:List (Str×Value)}{us:List Value}{s:Shared}{mg:Str->Option Value}{K:W.Frag}
structure d9(k:Nat)(A:Around):Prop where
 hd:A.handled=none
 dp:A.depth+3*k+5<recursionLimit
 un:A.units+16*k+200<cLine
theorem d9.mono{j k:Nat}(r:d9 k A)(h:j<=k):d9 j A:=⟨r.hd,by have:=r.dp;lia,by have:=r.un;lia⟩
theorem d9.deeper{k:Nat}(r:d9 (k+1) A)(env:Env):d9 k (A.deeper env):=
 ⟨r.hd,by have:=r.dp;show A.depth+1+3*k+5<_;lia,by have:=r.un;show A.units+3+16*k+200<_;lia⟩
theorem zH{C:Addr}:(A.under (.builtin "type.__call__" ⟨.ref C::us,kw⟩)).depth=A.depth+1:=by
 first|rfl|simp[Around.under,Code.weight,Code.isCreation,Code.isGuard,Code.isCaller,Code.frames,Code.isFrame,guardIds]
theorem zI{C:Addr}:(A.under (.builtin "type.__call__" ⟨.ref C::us,kw⟩)).units=A.units+1:=by
 first|rfl|simp[Around.under,Code.cUnits,Code.frames,Code.isFrame]
theorem d9.make{k:Nat}(r:d9 (k+1) A)(C:Addr)(us:List Value)(kw:List (Str×Value)):d9 k (A.under (.builtin "type.__call__" ⟨.ref C::us,kw⟩)):=
 ⟨r.hd,by have:=r.dp;rw[zH];lia,by have:=r.un;rw[zI];lia⟩
theorem d9.depth{k:Nat}(r:d9 k A):A.depth<recursionLimit:=by have:=r.dp;lia
theorem d9.units{k:Nat}(r:d9 k A):A.units+64<cLine:=by have:=r.un;lia
def Dg:TA:=λ_ H Q=>Q [] H
def xl(a:TE)(b:TA):TA:=λσ H Q=>a σ H λx c=>b σ c λxs a=>Q (x::xs) a
section
variable {X:Cx}{e:Expr}{es:List Expr}{te:TE}{t:TA}{pos:Pos}
theorem aa:PA X [] Dg:=.mk λ_ _ _ _ H Q I h=>Calls.spliced_nil ⟨[],H,I,.nil,h⟩
theorem KA(b:PE X e te)(c:PA X es t)(d:starEach (e::es) X.env=(false,eval e X.env)::starEach es X.env:=by rfl):PA X (e::es) (xl te t):=by
 calc⟨?_⟩;intro pos a s σ H Q I h;rw[d];show wpAny _ _ (spliced ((false,eval e X.env)::backTo pos (starEach es X.env))) _ _ s;calc Calls.spliced_cons (cX (b a s σ H _ I h) λu f g=>?_);nofun;obtain⟨x,b,d,h,i⟩:=g;ac_rfl;calc cX (c pos a f σ b _ d i) λus o ⟨j,k,l,m,n⟩=>⟨x::j,k,l,.cons h m,n⟩
def O3(t:TA):TE:=λσ H Q=>t σ H λxs a=>xs.length<=sizeLine/\∀p,a p=none->Q (.ref p) (upd a p (.tup xs))
def O4(t:TA):TE:=λσ H Q=>t σ H λxs a=>xs.length<=sizeLine/\∀p,a p=none->Q (.ref p) (upd a p (.lst xs))
theorem bQ{a}(h:PA X es t):PE X (.Tuple es a pos) (O3 t):=by
 calc⟨?_⟩;intro a s σ H Q I f;calc wpAny_Tuple_spliced (cX (h pos a s σ H _ I f) λus c ⟨g,b,d,r,z,q⟩=>⟨by rw[<-r.length];calc z,?_⟩);have a:b c.heap.objs.size=none:=d.aZ.fresh (K' _);calc⟨.ref c.heap.objs.size,upd b c.heap.objs.size (.tup g),d.laid (t':=c.toks) (λb u e=>J' _ e) (K' _) ?_,rfl,q _ a⟩;calc⟨z,us,r,⟨_,V' _ rfl,rfl,_,rfl⟩⟩
theorem bF(h:PA X es t):PE X (.List es pos) (O4 t):=by
 calc⟨?_⟩;intro a s σ H Q I f;calc wpAny_List_spliced (cX (h pos a s σ H _ I f) λus c ⟨g,b,d,r,z,q⟩=>⟨by rw[<-r.length];calc z,?_⟩);have a:b c.heap.objs.size=none:=d.aZ.fresh (K' _);calc⟨.ref c.heap.objs.size,upd b c.heap.objs.size (.lst g),d.laid (t':=c.toks) (λb u e=>J' _ e) (K' _) ?_,rfl,q _ a⟩;calc⟨z,us,0,r,V' _ rfl⟩
end
abbrev Sp:=List V->Hp->VK->XK->Prop
abbrev FI:=List Env->Hp->Shared->XK->Value->Shared->Prop
structure vE(P:Program)(w:World)(K:W.Frag)(mg:Str->Option Value)(base:Heap)(A:Around)(outer:List Env)(s:Shared)(H:Hp):Prop where
 frames:A.frames=some outer
 mod:Mod K mg base
 bs:∀b o,base.get? b=some o->s.heap.get? b=some o/\H b=none
 zu:base.objs.size<=s.heap.objs.size
 lT:s.heap.FunFrames base outer
 Fd:∀b∈wR outer,H b=none
 aZ:lY P w H s.heap
 bare:AllBare s.gens
def CE(outer:List Env)(P:Program)(w:World)(H:Hp)(s:Shared)(Q:VK)(u:Value)(s':Shared):Prop:=
 ∃v a,s'.os=s.os/\AllBare s'.gens/\Un (wR outer) [] H a s.heap s'.heap/\lY P w a s'.heap/\RelV v u/\Q v a
def CR(CX:FI)(outer:List Env)(P:Program)(w:World)(H:Hp)(s:Shared)(Q:VK)(E:XK)(r:Result)(s':Shared):Prop:=
 match r with
 | .ok (.ret u)=>CE outer P w H s Q u s'
 | .ok _=>False
 | .error e=>CX outer H s E e s'
structure jJ(P:Program)(w:World)(K:W.Frag)(mg:Str->Option Value)(base:Heap)(CX:FI)(k:Nat)(f:Addr)(fd:FuncData)(ps:List Str)(sp:Sp):Prop where
 len:∀vs H Q E,sp vs H Q E->vs.length=ps.length
 run:∀(A:Around) (outer:List Env) (s:Shared) (H:Hp) (args:Args) (us:List Value) (vs:List V) (Q:VK) (E:XK),d9 k A->vE P w K mg base A outer s H->BindsTo s fd args (ps.zip us)->Vals vs us->sp vs H Q E->
  codeAny (model P w) A (.call (.ref f) args) (CR CX outer P w H s Q E) s
theorem vE.make{P:Program}{w:World}{base:Heap}{outer:List Env}(e:vE P w K mg base A outer s H)(C:Addr)(us:List Value)(kw:List (Str×Value)):
  vE P w K mg base (A.under (.builtin "type.__call__" ⟨.ref C::us,kw⟩)) outer s H:=⟨by first|exact e.frames|(simpa[Around.under,Code.envs,Code.isFrame,pushEnvs] using e.frames),e.mod,e.bs,e.zu,e.lT,e.Fd,e.aZ,e.bare⟩
section
variable {X:Cx}{pins:List (Addr×Obj)}{σ:St}{H:Hp}{s s':Shared}
theorem Inv.KC(I:Inv X pins σ H s):vE X.prog X.w X.K X.mg X.base X.A X.stack s H:=
 ⟨I.ok.frames,I.ok.mod,I.bs,aap I.ok.zu I.sz,I.stack,I.qV,I.aZ,I.bare⟩
theorem Inv.after{Q:VK}{u:Value}(I:Inv X pins σ H s)(h:CE X.stack X.prog X.w H s Q u s'):EP X pins σ Q u s':=by
 obtain⟨v,c,os,a,e,f,r,q⟩:=h;obtain⟨i,g,d,t,b⟩:=s';obtain rfl:b=s.os:=os;calc⟨v,c,I.call (h':=i) (g':=g) (d':=d) (t':=t) (ch:=[]) e f a (λb z=>absurd z (by simp)),r,q⟩
end
def uo(sp:Sp)(a:List V)(E:XK)(t:TA):TE:=λσ H Q=>t σ H λvs b=>sp (vs++a) b Q E
def qr(C:Addr)(m:Str)(sp:Sp)(d:List V)(E:XK)(a:TE)(t:TA):TE:=λσ H Q=>a σ H λx b=>∃a e c,x=.ref a/\b a=some (.ins C e c)/\c.lookup m=none/\
 t σ b λvs a=>sp (x::(vs++d)) a Q E
def Bn(C:Addr)(sp:Sp)(c:List V)(E:XK)(t:TA):TE:=λσ H Q=>t σ H λvs b=>∀x a,b x=none->b a=none->a≠x->
 sp (.ref x::(vs++c)) (upd (upd b a (.own x)) x (.ins C a [])) (λv d=>v=.bM/\Q (.ref x) d) E
def Binds(K:W.Frag)(c:FuncData)(a:List Str)(b:List Value):Prop:=
 ∀(s:Shared) (us:List Value),K.In s.heap->(us++b).length=a.length->BindsTo s c ⟨us,[]⟩ (a.zip (us++b))
theorem Binds.all{b:FuncData}{a:List Str}(h:∀us:List Value,us.length=a.length->bindArgs b ⟨us,[]⟩=pure (a.zip us)):Binds K b a []:=λs us _ a=>by
 rw[List.append_nil]at a ⊢;calc .of_eq (h us a)
def Passes(CX:FI)(X:Cx)(E:XK):Prop:=∀(pins:List (Addr×Obj)) (σ:St) (H:Hp) (s:Shared) (e:Value) (s':Shared),Inv X pins σ H s->CX X.stack H s E e s'->X.xe e s'
section
variable {X:Cx}{CX:FI}{k:Nat}{f C:Addr}{fd:FuncData}{ps:List Str}{sp:Sp}{tE:List V}{ds:List Value}{E:XK}{x m:Str}{p pos apos:Pos}{e o:Expr}{es:List Expr}{ta:TE}{t:TA}
theorem zJ{pins:List (Addr×Obj)}{σ:St}{H:Hp}{s:Shared}{Q:VK}{us:List Value}{vs:List V}(F:jJ X.prog X.w X.K X.mg X.base CX k f fd ps sp)(c:d9 k X.A)(d:Binds X.K fd ps ds)(g:Vals tE ds)(i:Passes CX X E)
  (I:Inv X pins σ H s) (r:Vals vs us) (h:sp (vs++tE) H Q E):wpAny (model X.prog X.w) X.A (call (.ref f) us) (EP X pins σ Q) X.xe s:=by
 have b:Vals (vs++tE) (us++ds):=r.append g;have j:(us++ds).length=ps.length:=by rw[<-b.length];exact F.len _ _ _ _ h
 refine wpAny_call (codeAny_mono (F.run X.A X.stack s H ⟨us,[]⟩ (us++ds) (vs++tE) Q E c I.KC (d s us I.ic j) b h) λr l a=>?_)
 cases r with
 |error e=>calc i pins σ H s e l I a
 |ok m=>
  cases m with
  |ret u=>calc I.after a
  |next=>calc aak a
  |brk=>calc aak a
  |cont=>calc aak a
theorem KD(F:jJ X.prog X.w X.K X.mg X.base CX k f fd ps sp)(b:d9 k X.A)(a:Gl X x)(c:X.mg x=some (.ref f))(d:W.keepIn X.K (.ref f)=true)(g:Binds X.K fd ps ds)(i:Vals tE ds)(j:Passes CX X E)
  (l:PA X (e::es) t) (m:(x==("__debug__":Str))=false:=by decide) (n:starEach (e::es) X.env=(false,eval e X.env)::starEach es X.env:=by rfl) (o:(backTo pos (starEach es X.env)).any (·.1)=false:=by rfl):
  PE X (.Call (.Name x p) (e::es) [] pos) (uo sp tE E t):=by
 walk_at "xc";refine wpAny_Call_Name_kw (j0 I a c ?_ m);refine W.callWith_K (h₀:=X.base) I.ok.mod.xg d (cX (l pos pins s σ H _ I h) λus c ⟨m,u,a,r,q⟩=>⟨a.ic,?_⟩) n o;exact zJ F b g i j a r q
theorem Bo{pl:Sem Bool}(i:PE X o ta)(c:tw X.K C)(b:Meth X.K C m f)(F:jJ X.prog X.w X.K X.mg X.base CX k f fd ps sp)(j:d9 k X.A)(n:Binds X.K fd ps ds)(p:Vals tE ds)(v:Passes CX X E)(y:PA X (e::es) t)
  (z:starEach (e::es) X.env=(false,eval e X.env)::starEach es X.env:=by rfl) (B:(backTo pos (starEach es X.env)).any (·.1)=false:=by rfl)
  (r:eval (.Call (.Attribute o m apos) (e::es) [] pos) X.env=(do
   let d <-eval o X.env
   standAt apos.atName
   let (f,first) <-holding [d] (getMethod d m pl)
   callWith pos f first (backTo pos (starEach (e::es) X.env)) (backToKw pos (keywordEach [] X.env))):=by rfl):
  PE X (.Call (.Attribute o m apos) (e::es) [] pos) (qr C m sp tE E ta t):=by
 walk_at "xc";refine W.methodCall_KW (pl:=pl) (cX (i pins s σ H _ I h) λu D G=>?_) r;nofun;obtain⟨x,J,g,L,a,d,i,M,N,l,q⟩:=G;ac_rfl;subst M;obtain rfl:u=Value.ref a:=L;refine j2 g N c b l ?_;refine W.callWith_K (first:=[.ref a]) (h₀:=X.base) I.ok.mod.xg b.kp (cX (y pos pins D σ J _ g q) λus l ⟨c,u,d,r,i⟩=>⟨d.ic,?_⟩) z B;exact zJ (us:=.ref a::us) (vs:=.ref a::c) F j n p v d (.cons rfl r) i
theorem FJ{pl:Sem Bool}(g:PE X o ta)(c:tw X.K C)(d:Meth X.K C m f)(F:jJ X.prog X.w X.K X.mg X.base CX k f fd ps sp)(i:d9 k X.A)(j:Binds X.K fd ps ds)(n:Vals tE ds)(p:Passes CX X E)
  (r:eval (.Call (.Attribute o m apos) [] [] pos) X.env=(do
   let e <-eval o X.env
   standAt apos.atName
   let (f,first) <-holding [e] (getMethod e m pl)
   callWith pos f first (backTo pos (starEach [] X.env)) (backToKw pos (keywordEach [] X.env))):=by rfl):
  PE X (.Call (.Attribute o m apos) [] [] pos) (qr C m sp tE E ta Dg):=by
 walk_at "xc";refine W.methodCall_KW (pl:=pl) (cX (g pins s σ H _ I h) λu e t=>?_) r;nofun;obtain⟨x,e,b,v,a,g,B,y,z,l,q⟩:=t;ac_rfl;subst y;obtain rfl:u=Value.ref a:=v;refine j2 b z c d l ?_;exact W.callWith_K0 (first:=[.ref a]) b.ic d.kp (zJ (us:=[.ref a]) (vs:=[.ref a]) F i j n p b (.cons rfl .nil) q)
structure Mk(K:W.Frag)(C f:Addr):Prop where
 makes:W.makesIn K C=true
 init:W.findIn K (.ref C) "__init__"=some (some (.ref f))
 fn:W.isFn K (.ref f)=true
 kp:W.keepIn K (.ref C)=true
theorem FK{pins:List (Addr×Obj)}{σ:St}{Q:VK}{vs:List V}(M:Mk X.K C f)(F:jJ X.prog X.w X.K X.mg X.base CX k f fd ps sp)(hr:d9 (k+1) X.A)(g:Binds X.K fd ps ds)(i:Vals tE ds)
  (j:Passes CX X E) (I:Inv X pins σ H s) (r:Vals vs us)
  (h:∀x b,H x=none->H b=none->b≠x->sp (.ref x::(vs++tE)) (upd (upd H b (.own x)) x (.ins C b [])) (λv d=>v=.bM/\Q (.ref x) d) E):
  wpAny (model X.prog X.w) X.A (call (.ref C) us) (EP X pins σ Q) X.xe s:=by
 have b:=h (s.heap.objs.size+1) s.heap.objs.size (I.aZ.fresh (Nat.le_succ _)) (I.aZ.fresh (K' _)) (Y' (Nat.lt_succ_self _));have c:=Inv.made (C:=C) I;have d:Vals (V.ref (s.heap.objs.size+1)::(vs++tE)) (Value.ref (s.heap.objs.size+1)::(us++ds)):=.cons rfl (r.append i);have l:(Value.ref (s.heap.objs.size+1)::us++ds).length=ps.length:=by
  have e:=d.length;rw[F.len _ _ _ _ b]at e;exact e.symm
 refine wpAny_call (FH (f:=f) I.ic M.makes M.init (beq_iff_eq.mp M.fn) (codeAny_mono (F.run _ X.stack _ _ ⟨Value.ref (s.heap.objs.size + 1)::us,[]⟩ (Value.ref (s.heap.objs.size + 1)::(us++ds)) _ _ E (hr.make C us [])
  (c.KC.make C us []) (g _ (Value.ref (s.heap.objs.size + 1)::us) c.ic l) d b) λr m a=>?_))
 cases r with
 |error e=>calc j pins σ _ _ e m c a
 |ok n=>
  cases n with
  |ret u=>
   obtain⟨v,o,p,q,t,y⟩:=c.after a;subst t;calc⟨q,⟨V.ref (s.heap.objs.size+1),o,p,rfl,y⟩⟩
  |next=>calc aak a
  |brk=>calc aak a
  |cont=>calc aak a
theorem KG(M:Mk X.K C f)(F:jJ X.prog X.w X.K X.mg X.base CX k f fd ps sp)(b:d9 (k+1) X.A)(a:Gl X x)(c:X.mg x=some (.ref C))(d:Binds X.K fd ps ds)(g:Vals tE ds)(i:Passes CX X E)
  (j:PA X (e::es) t) (l:(x==("__debug__":Str))=false:=by decide) (m:starEach (e::es) X.env=(false,eval e X.env)::starEach es X.env:=by rfl) (n:(backTo pos (starEach es X.env)).any (·.1)=false:=by rfl):
  PE X (.Call (.Name x p) (e::es) [] pos) (Bn C sp tE E t):=by
 walk_at "xc";refine wpAny_Call_Name_kw (j0 I a c ?_ l);refine W.callWith_K (h₀:=X.base) I.ok.mod.xg M.kp (cX (j pos pins s σ H _ I h) λus c ⟨l,o,a,r,q⟩=>⟨a.ic,?_⟩) m n;exact FK M F b d g i a r q
end
structure aE(N P:List Str)(sc:Scope):Prop where
 kind:sc.kind=.function
 co:sc.isCoroutine=false
 gen:sc.isGenerator=false
 nd:N.Nodup
 pre:N.take P.length=P
 par:∀x∈P,sc.names.lookup x=some .local\/sc.names.lookup x=some .cell
 O5:∀y∈sc.names,y.2≠.free
theorem uq{b:Str->Option NameKind}{x:Str}:∀{a:List (Str×Value)}{m:Str->Option Value},(∀v,(x,v)∉a)->bindL b a m x=m x
 | [],_,_=>rfl
 |(n,v)::r,m,h=>by
  unfold bindL;rw[uq λw c=>h w (List.mem_cons_of_mem _ c)];split
  ·have:x≠n:=by rintro rfl;exact h v aaL
   simp[this]
  ·rfl
theorem ur{b:Str->Option NameKind}{x:Str}:∀{a:List (Str×Value)}{m:Str->Option Value},(∀v,(x,v)∉a)->bindC b a m x=m x
 | [],_,_=>rfl
 |(n,v)::r,m,h=>by
  unfold bindC;rw[ur λw c=>h w (List.mem_cons_of_mem _ c)];split
  ·rfl
  ·have:x≠n:=by rintro rfl;exact h v aaL
   simp[this]
theorem uu{a:Str->Option NameKind}{x:Str}{v:Value}:∀{P:List Str}{vs:List Value}{i:Nat}{m:Str->Option Value},P.Nodup->P[i]?=some x->vs[i]?=some v->a x=some .local->
  bindL a (P.zip vs) m x=some v
 | [],_,_,_,_,h,_,_=>by simp at h
 |_::_,[],_,_,_,_,h,_=>by simp at h
 |p::P,w::vs,0,m,d,b,c,e=>by
  simp at b c;subst b;subst c;show bindL a ((p,w)::P.zip vs) m p=_;unfold bindL;rw[uq λv f=>(List.nodup_cons.mp d).1 (List.of_mem_zip f).1,if_pos e];simp
 |p::P,w::vs,i+1,m,d,b,c,e=>by
  show bindL a ((p,w)::P.zip vs) m x=_;unfold bindL;calc uu (i:=i) (List.nodup_cons.mp d).2 (by simpa using b) (by simpa using c) e
theorem uv{a:Str->Option NameKind}{x:Str}{v:Value}:∀{P:List Str}{vs:List Value}{i:Nat}{m:Str->Option Value},P.Nodup->P[i]?=some x->vs[i]?=some v->a x≠some .local->
  bindC a (P.zip vs) m x=some v
 | [],_,_,_,_,h,_,_=>by simp at h
 |_::_,[],_,_,_,_,h,_=>by simp at h
 |p::P,w::vs,0,m,d,b,c,e=>by
  simp at b c;subst b;subst c;show bindC a ((p,w)::P.zip vs) m p=_;unfold bindC;rw[ur λv f=>(List.nodup_cons.mp d).1 (List.of_mem_zip f).1,if_neg e];simp
 |p::P,w::vs,i+1,m,d,b,c,e=>by
  show bindC a ((p,w)::P.zip vs) m x=_;unfold bindC;calc uv (i:=i) (List.nodup_cons.mp d).2 (by simpa using b) (by simpa using c) e
def start(N:List Str)(vs:List V):St:=vs.map some++List.replicate (N.length-vs.length) none
def jK(CX:FI)(P:Program)(w:World)(K:W.Frag)(mg:Str->Option Value)(base:Heap)(N:List Str)(a:Str)(scope:Scope)(f:Addr)(b:Value)(A:Around)(outer:List Env)(s:Shared)(H:Hp)(E:XK):Cx where
 prog:=P
 w:=w
 K:=K
 mg:=mg
 base:=base
 A:=A.deeper (envOfC a scope s.heap.objs.size f b)
 N:=N
 s₀:=s
 H₀:=H
 env:=envOfC a scope s.heap.objs.size f b
 outer:=outer
 stack:=envOfC a scope s.heap.objs.size f b::outer
 ex:=[]
 calm:=true
 fn:=λ_=>true
 pn:=[]
 xe:=λe s'=>wpAny (model P w) (A.deeper (envOfC a scope s.heap.objs.size f b)) (leaving (envOfC a scope s.heap.objs.size f b) e) (λ_ c=>CX outer H s E e c) (λa c=>CX outer H s E a c) s'
theorem xm{a:Scope}{n:Nat}{x:Str}(h:a.names.lookup x=some .cell):∃c,(cellsFrom n a.names []).lookup x=some c:=by
 have q:=W.cellsFrom_some a.names n [] (.inl h);calc Option.isSome_iff_exists.mp q
theorem uw{CX:FI}{P:Program}{w:World}{base:Heap}{N j:List Str}{a:Str}{scope:Scope}{f:Addr}{o:Value}{outer:List Env}{b:Shared}{E:XK}{vs:List V}
  (S:aE N j scope) (D:A.handled=none) (g:vE P w K mg base A outer s H) (p:vs.length=j.length) (r:Vals vs us)
  (x:InCallC s s.heap.objs.size (bindL (envOfC a scope s.heap.objs.size f o).kindOf (j.zip us) λ_=>none) (cellsFrom (s.heap.objs.size+1) scope.names []) (bindC (envOfC a scope s.heap.objs.size f o).kindOf (j.zip us) λ_=>none) b):
  Inv (jK CX P w K mg base N a scope f o A outer s H E) [] (start N vs) H b:=by
 have b:j.length<=N.length:=by have:=congrArg List.length S.pre;rw[List.length_take]at this;lia
 obtain⟨q,z,rfl,B⟩:=x.done;have p:∀b:Addr,b ∉ (jK CX P w K mg base N a scope f o A outer s H E).ex:=λb z=>absurd (show b ∈ ([]:List Addr) from z) (by simp);refine⟨⟨g.mod,S.kind,rfl,rfl,K' _,λy z c q d=>?_,λy k=>?_,λy c _ h=>?_,λ_=>D,Around.frames_deeper g.frames,.inr ⟨rfl,rfl⟩,λb z=>absurd z (p b),g.bs,g.zu,λb _ _=>p b,λb z=>absurd z (p b),g.lT,g.Fd⟩,
  rfl,g.bare,Un.kept B,⟨_,x.toInCall.ns,λi y v q d a=>?_⟩,λy c h=>⟨_,x.cell y c h⟩,g.aZ.fresh (K' _),λy c h=>?_,λp l=>absurd (show p ∈ ([]:List (Addr×Obj)) from l) (by simp),g.aZ.kept B,?_⟩
 ·exact name_of_addr x.apart (PySem.mem_of_lookup q) (PySem.mem_of_lookup d)
 ·have k:scope.names.lookup y=some .cell\/scope.names.lookup y=some .free:=k;rcases k with k | k
  ·exact xm k
  ·exact absurd rfl (S.O5 _ (PySem.mem_of_lookup k))
 ·exact L' (x.above y c (PySem.mem_of_lookup h))
 ·have t:i<vs.length:=by
   unfold start at d;by_cases t:i<vs.length
   ·exact t
   ·rw[List.getElem?_append_right (by simpa using t)]at d;rw[List.getElem?_replicate]at d;split at d<;>cases d
  have F:vs[i]?=some v:=by
   unfold start at d;rw[List.getElem?_append_left (by simpa using t),List.getElem?_map]at d
   cases e:vs[i]? with
   |none=>rw[e]at d;cases d
   |some a=>rw[e]at d;cases d;rfl
  obtain⟨u,C,G⟩:=r.get F;have l:j[i]?=some y:=by
   rw[<-S.pre,List.getElem?_take_of_lt (by lia)];exact q
  have m:j.Nodup:=by rw[<-S.pre];exact S.nd.sublist (List.take_sublist _ _)
  calc⟨u,G,?_⟩;rcases S.par y (X' l) with k|k
  ·exact .inl ⟨k,uu m l C k⟩
  ·obtain⟨c,e⟩:=xm (n:=s.heap.objs.size+1) k;calc .inr ⟨.inl k,c,e,?_⟩;have q:=x.cell y c e;rw[uv m l C (by show scope.names.lookup y≠_;rw[k];decide)]at q;exact q
 ·exact g.aZ.fresh (L' (x.above y c (PySem.mem_of_lookup h)))
 ·unfold start;show _=N.length;rw[List.length_append,List.length_map,List.length_replicate];lia
theorem MM{CX:FI}{P:Program}{w:World}{base:Heap}{k:Nat}{f:Addr}{name a:Str}{b:Arguments}{c:List Stmt}{scope:Scope}{o kV j y h ct l:Value}{F od:Option Addr}
  {M:Array (Option Value)} {N z:List Str} {sp:Sp} (O:K.lookup f=some ⟨l,od,.func (W.fnOf name a b c scope o kV j y F h ct),M⟩) (R:W.codeIn K h a=true) (S:aE N z scope)
  (l:∀vs H Q E,sp vs H Q E->vs.length=z.length)
  (T:∀(A:Around) (outer:List Env) (s:Shared) (H:Hp) (vs:List V) (Q:VK) (E:XK),d9 k (A.deeper (envOfC a scope s.heap.objs.size f h))->sp vs H Q E->
   ∃t,qW (jK CX P w K mg base N a scope f h A outer s H E) c t/\t {nx:=λ_ g=>Q .bM g,rt:=Q} (start N vs) H):
  jJ P w K mg base CX (k+1) f (W.fnOf name a b c scope o kV j y F h ct) z sp:=by
 calc⟨l,λA outer s H b us vs Q E B m U r G=>?_⟩;have X:=l _ _ _ _ G;have I:K.In s.heap:=m.mod.xg.keeps λb o e=>(m.bs b o e).1;have C:s.heap.NoLimit:=m.mod.nolimit.keeps λb o e=>(m.bs b o e).1;have Y:∀y∈z.zip us,scope.names.lookup y.1=some .local\/(scope.names.lookup y.1=some .cell/\((cellsFrom (s.heap.objs.size+1) scope.names []).lookup y.1).isSome=true):=λ⟨n,v⟩ Z=>by
  rcases S.par n (List.of_mem_zip Z).1 with q|q
  ·exact .inl q
  ·exact .inr ⟨q,W.cellsFrom_some _ _ _ (.inl q)⟩
 calc codeAny_call_function B.depth (I _ _ O) rfl S.co S.gen rfl (W.codeRec_of I R) (U _ _ _ _ ?_);calc wpAny_newFunctionEnv_cells S.kind Y λb he L x=>?_;subst he;calc⟨C.keeps x.toInCall.keep,codeAny_func ?_⟩;obtain⟨t,c,j⟩:=T A outer s H vs Q E (B.deeper _) G;have I:Inv (jK CX P w K mg base N a scope f h A outer s H E) [] (start N vs) H L:=uw S B.hd m X r x;calc aas (c [] L (start N vs) H _ I j) (λfl b i=>?_) λe b i=>i;have p:∀{d:St} {g:Hp} {v:V} {u:Value},Inv (jK CX P w K mg base N a scope f h A outer s H E) [] d g b->RelV v u->Q v g->CE outer P w H s Q u b:=
  λ{d g v u} J D q=>⟨v,g,J.os,J.bare,J.base,J.aZ,D,q⟩
 cases fl with
 |ret u=>
  obtain⟨v,d,g,J,D,q⟩:=i;calc p J D q
 |next=>
  obtain⟨d,g,J,q⟩:=i;calc p (v:=V.bM) (u:=Value.none) J rfl q
 |brk=>
  obtain⟨_,_,_,q⟩:=i;calc aak q
 |cont=>
  obtain⟨_,_,_,q⟩:=i;calc aak q
end
section
section
variable {X:Cx}{x:Str}{p pos:Pos}{e:Expr}{es:List Expr}{t:TA}{id T:String}{r:List V->Hp->VK->Prop}
def RT(r:List V->Hp->VK->Prop)(t:TA):TE:=λσ H Q=>t σ H λvs a=>r vs a Q
theorem FL(a:fq X (.builtin id) r)(b:Gl X x)(c:X.mg x=none)(d:bootBuiltins x=some (.builtin id))(f:PA X (e::es) t)(g:x≠"__name__":=by decide)(i:(x==("__debug__":Str))=false:=by decide)
  (j:starEach (e::es) X.env=(false,eval e X.env)::starEach es X.env:=by rfl) (k:(backTo pos (starEach es X.env)).any (·.1)=false:=by rfl):PE X (.Call (.Name x p) (e::es) [] pos) (RT r t):=by
 walk_at "xc";refine wpAny_Call_Name_kw (oS I b c d ?_ g i);exact PyProof.Rows.callWith_builtin1 (cX (f pos pins s σ H _ I h) λl m ⟨n,o,q,u,v⟩=>a pins m σ o n l Q q u v) j k
theorem Dh(a:fq X (.type T) r)(b:Gl X x)(c:X.mg x=none)(d:bootBuiltins x=some (.type T))(f:PA X (e::es) t)(g:x≠"__name__":=by decide)(i:(x==("__debug__":Str))=false:=by decide)
  (j:starEach (e::es) X.env=(false,eval e X.env)::starEach es X.env:=by rfl) (k:(backTo pos (starEach es X.env)).any (·.1)=false:=by rfl):PE X (.Call (.Name x p) (e::es) [] pos) (RT r t):=by
 walk_at "xc";refine wpAny_Call_Name_kw (oS I b c d ?_ g i);exact PyProof.Rows.callWith_type1 (cX (f pos pins s σ H _ I h) λl m ⟨n,o,q,u,v⟩=>a pins m σ o n l Q q u v) j k
end
end
end L2
namespace HT
open PySem PyProof.Rows
variable {Q:Value->Shared->Prop}
section
open PySem.SeqAt
open PySem.AutoSeq1 (wpAny_loadPart')
open PySem.MeetsSeq PySem.MeetsSeq2 PySem.MeetsSeq3
end
section
variable {prog:Program}{w:World}{A:Around}{E:Value->Shared->Prop}{s:Shared}
theorem KH{t b:Addr}{vs a:List Value}(q:IsTup s.heap t vs.toArray)(r:IsTup s.heap b a.toArray)(g:vs≠[])
  (u:a=[]->Q (.ref t) s) (v:a≠[]->Q (.ref s.heap.objs.size) {s with heap:=s.heap.push {cls:=.type "tuple",data:=.seq (vs++a).toArray}})
  (hsz:vs.length+a.length<=sizeLine):wpAny (model prog w) A (binaryOp .Add (.ref t) (.ref b)) Q E s:=by
 obtain⟨⟨cls,h,data,i⟩,d,j,n,k⟩:=id q;obtain⟨⟨x,l,e,m⟩,f,o,p,c⟩:=id r;simp only at j k o c;subst j k o c;have e:vs.toArray++a.toArray=(vs++a).toArray:=by simp
 by_cases c:a=[]
 ·exact concat_meets ⟨_,d,rfl⟩ ⟨_,f,rfl⟩ noFill_tuple_add seq_tuple_add PySem.F.slot_tuple_add PySem.F.entry_tuple_add (PySem.F.args_tuple_add_2 _ _)
   (tuple_addW1 t b vs.toArray a.toArray n p h l i m (by simpa using g) (by simp[c])) ⟨d,f,u c⟩
 ·refine concat_meets ⟨_,d,rfl⟩ ⟨_,f,rfl⟩ noFill_tuple_add seq_tuple_add PySem.F.slot_tuple_add PySem.F.entry_tuple_add (PySem.F.args_tuple_add_2 _ _)
   (tuple_addW2 t b vs.toArray a.toArray n p h l i m (by simpa using g) (by simpa using c) (by rw[List.size_toArray,List.size_toArray];calc hsz)) ⟨d,f,?_⟩
  rw[e];calc v c
def eG(n d:Nat):Option Int->Nat
 |none=>d
 |some v=>if v<0 then(v+(n:Int)).toNat else min v.toNat n
theorem Bp(n d k:Nat):eG n d (some (k:Int))=min k n:=by
 show(if (k:Int)<0 then((k:Int)+(n:Int)).toNat else min (k:Int).toNat n)=min k n;rw[if_neg (by lia),Int.toNat_natCast]
theorem O7(n d:Nat)(a:d<=n)(o:Option Int):eG n d o<=n:=by
 cases o with
 |none=>calc a
 |some v=>
  show(if v<0 then(v+(n:Int)).toNat else min v.toNat n)<=n;by_cases a:v<0
  ·rw[if_pos a];lia
  ·rw[if_neg a];calc Nat.min_le_right _ _
theorem Bq(v:Int)(n d:Nat):(if v<0 then max (v+(n:Int)) 0 else min v (n:Int))=((eG n d (some v):Nat):Int):=by
 show(if v<0 then max (v+(n:Int)) 0 else min v (n:Int))=(((if v<0 then(v+(n:Int)).toNat else min v.toNat n):Nat):Int)
 by_cases a:v<0
 ·simp only[if_pos a];lia
 ·simp only[if_neg a];lia
theorem zK(a b:Option Int)(n:Nat):Builtin.Slice.sliceAdjust a b 1 (n:Int)=(((eG n 0 a:Nat):Int),((eG n n b:Nat):Int)):=by
 have c:¬((1:Int)<0):=by lia
 unfold Builtin.Slice.sliceAdjust;simp only[c,if_false];refine Prod.ext ?_ ?_
 ·cases a with
  |none=>rfl
  |some v=>exact Bq v n 0
 ·cases b with
  |none=>rfl
  |some v=>calc Bq v n n
theorem zL(i j:Nat):Builtin.Slice.slicePlaces (i:Int) (j:Int) 1=j-i:=by
 unfold Builtin.Slice.slicePlaces;have a:(1:Int) > 0:=by lia
 simp only[a,if_true,Int.ediv_one];split<;>lia
theorem rG{v:Value}{o:Option Int}{Q:Option Int->Shared->Prop}(p:IsPart v o)(h:Q o s):wpAny (model prog w) A (Builtin.Slice.slicePartIndex v) Q E s:=by
 cases p with
 |none=>calc slicePart_none h
 |int i t=>calc slicePart_int h
theorem jL{e:Addr}{c d:Value}{a b:Option Int}{n:Nat}{Q:Int×Int×Nat->Shared->Prop}(g:s.heap.IsSliceOf e c d .none)(pl:IsPart c a)(i:IsPart d b)
  (h:Q (((eG n 0 a:Nat):Int),1,eG n n b-eG n 0 a) s):wpAny (model prog w) A (Builtin.Slice.sliceApplied (.ref e) (pure (n:Int))) Q E s:=by
 obtain⟨j,e,k,f⟩:=id g;unfold Builtin.Slice.sliceApplied Builtin.Slice.sliceFields;calc j' (j' (aay e f (x:=c) rfl (j' (aay e f (x:=d) rfl (j' (aay e f (x:=.none) rfl (P' ?_)))))));calc j' (slicePart_none ?_);show wpAny _ _ (if ((1:Int)==0)=true then _ else _) _ _ s;rw[if_neg (by decide)];calc j' (rG pl (j' (rG i (j' (P' ?_)))));show wpAny _ _ (match Builtin.Slice.sliceAdjust a b 1 (n:Int) with|(a,b)=>pure (a,(1:Int),Builtin.Slice.slicePlaces a b 1)) _ _ s;rw[zK a b n];show wpAny _ _ (pure (((eG n 0 a:Nat):Int),(1:Int),Builtin.Slice.slicePlaces ((eG n 0 a:Nat):Int) ((eG n n b:Nat):Int) 1)) _ _ s;rw[zL];calc P' h
theorem FN(xs:Array Value)(i k:Nat):((List.range k).filterMap λ(m:Nat)=>xs[((i:Int)+(m:Int)*1).toNat]?).toArray=((xs.toList.drop i).take k).toArray:=by
 have e:(λ(m:Nat)=>xs[((i:Int)+(m:Int)*1).toNat]?)=λm=>xs[i+m]?:=by
  funext m;have:((i:Int)+(m:Int)*1).toNat=i+m:=by lia
  rw[this]
 rw[e];have:=pick_run xs i k;rw[List.filterMap_map]at this;have a:((λx=>xs[x]?) ∘ λx=>i+x)=λm=>xs[i+m]?:=rfl;rw[a]at this;rw[this]
theorem nN{t f:Addr}{a:Array Value}{e g:Value}{b c:Option Int}(d:IsTup s.heap t a)(i:s.heap.IsSliceOf f e g .none)(pl:IsPart e b)(j:IsPart g c)
  (g:¬(eG a.size 0 b=0/\eG a.size a.size c=a.size))
  (h:Q (.ref s.heap.objs.size) {s with heap:=s.heap.push {cls:=.type "tuple",data:=.seq ((a.toList.drop (eG a.size 0 b)).take (eG a.size a.size c-eG a.size 0 b)).toArray}})
  (hsz:a.size<=sizeLine):wpAny (model prog w) A (getItem (.ref t) (.ref f)) Q E s:=by
 have e:sizeOk (.seq ((a.toList.drop (eG a.size 0 b)).take (eG a.size a.size c-eG a.size 0 b)).toArray):=by
  show((a.toList.drop (eG a.size 0 b)).take (eG a.size a.size c-eG a.size 0 b)).toArray.size<=sizeLine;rw[List.size_toArray,List.length_take,List.length_drop,Array.length_toList];lia
 have k:eG a.size a.size c<=a.size:=O7 _ _ (K' _) c;obtain⟨k,l,n,o⟩:=id i;have o:s.TypeIs (.ref f) "slice":=⟨k,l,n⟩
 unfold getItem
 try with_reducible refine wpAny_holding ?_
 first|calc j' (P' ?_)|skip
 calc j' (wpAny_sequenceKey d.typeIs (by decide) ?_);refine j' (wpAny_callSpecial?_slot (name:=Str.ofString "__getitem__") d.typeIs PyProof.Rows.slot_tuple_getitem
  (wpAny_call_entry PyProof.Rows.slot_tuple_getitem d.typeIs entry_tuple_getitem ?_ (args_tuple_getitem _ _)))
 show wpAny _ _ (Builtin.Tuple.tupleItemsOf (.ref t) >>= _) _ _ s;calc j' (tupleItemsOf_ d ?_);calc j' (wpAny_typeOf o ?_);rw[if_pos (by decide)];calc j' (jL i pl j ?_);have f:¬((((eG a.size 0 b:Nat):Int)==0&&(1:Int)==1&&(eG a.size a.size c-eG a.size 0 b)==a.size)=true):=by
  intro q;rw[Bool.and_eq_true,Bool.and_eq_true]at q;have d:((eG a.size 0 b:Nat):Int)=0:=eq_of_beq q.1.1;have d:eG a.size a.size c-eG a.size 0 b=a.size:=eq_of_beq q.2;exact g ⟨by lia,by lia⟩
 show wpAny _ _ (if (((eG a.size 0 b:Nat):Int)==0&&(1:Int)==1&&(eG a.size a.size c-eG a.size 0 b)==a.size)=true then _ else _) _ _ s;rw[if_neg f,FN]
 first
  |calc j' (m:=Builtin.Tuple.tupleExact _) (wpAny_newObj_type (P' ⟨_,rfl,P' h⟩) e)
  |calc j' (m:=Builtin.Tuple.tupleExact _) (wpAny_newObj_type (j' (P' (P' ⟨_,rfl,P' h⟩))) e)
  |calc j' (j' (m:=Builtin.Tuple.tupleExact _) (wpAny_newObj_type (P' (P' ⟨_,rfl,P' h⟩)) e))
  |calc j' (j' (m:=Builtin.Tuple.tupleExact _) (wpAny_newObj_type (P' ⟨_,rfl,P' h⟩) e))
end
end HT
namespace L2
open PySem PySem.Spec PyProof.Rows
section
abbrev TO:=St->Hp->(Option Int->Hp->Prop)->Prop
def PO(X:Cx)(e:Option Expr)(t:TO):Prop:=
 ∀(pins:List (Addr×Obj)) (s:Shared) (σ:St) (H:Hp) (Q:Option Int->Hp->Prop),Inv X pins σ H s->t σ H Q->
  wpAny (model X.prog X.w) X.A (evalPart e X.env) (λu s'=>∃o a,Inv X pins σ a s'/\IsPart u o/\Q o a) X.xe s
def vG:TO:=λ_ H Q=>Q none H
def FO(t:TE):TO:=λσ H Q=>t σ H λx a=>∃i,x=.int i/\Q (some i) a
section
variable {X:Cx}{e:Expr}{te:TE}{lo hi:Option Expr}{tl th:TO}{pos p2:Pos}
theorem nO:PO X none vG:=by
 intro a s σ H Q I h;rw[evalPart_none];calc P' ⟨none,H,I,.none,h⟩
theorem ig(h:PE X e te):PO X (some e) (FO te):=by
 intro a s σ H Q I b;rw[evalPart_some];calc cX (h a s σ H _ I b) λu k c=>?_;nofun;obtain⟨x,d,f,g,j⟩:=c;ac_rfl;obtain⟨i,rfl,q⟩:=j;obtain⟨t,rfl⟩:=g;calc⟨some i,d,f,.int i t,q⟩
def TL(X:Cx)(r:V->Option Int->Option Int->Hp->VK->Prop):Prop:=
 ∀(pins:List (Addr×Obj)) (s:Shared) (σ:St) (H:Hp) (x:V) (v a b:Value) (lo hi:Option Int) (c:Addr) (Q:VK),Inv X pins σ H s->RelV x v->s.heap.IsSliceOf c a b .none->IsPart a lo->IsPart b hi->r x lo hi H Q->
  ∃T a,typeLookup (.type T) "__getitem__"=pure (some (.builtin a))/\s.TypeIs v T/\wpAny (model X.prog X.w) X.A (getItem v (.ref c)) (EP X pins σ Q) X.xe s
def TM(r:V->Option Int->Option Int->Hp->VK->Prop)(te:TE)(tl th:TO):TE:=λσ H Q=>te σ H λx a=>tl σ a λl b=>th σ b λu a=>r x l u a Q
theorem xn{r:V->Option Int->Option Int->Hp->VK->Prop}(g:TL X r)(a:PE X e te)(d:PO X lo tl)(f:PO X hi th):PE X (.Subscript e (.Slice lo hi none p2) pos) (TM r te tl th):=by
 walk_at "xc";refine Subscript_ (cX (a pins s σ H _ I h) λv i b=>?_);nofun;obtain⟨x,a,j,k,m⟩:=b;ac_rfl;refine wpAny_Slice (cX (d pins i σ a _ j m) λc n ⟨l,o,p,r,q⟩=>cX (f pins n σ o _ p q) λd a b=>?_);nofun;obtain⟨u,f,i,j,m⟩:=b;ac_rfl;rw[evalPart_none];refine P' ?_;have n:Inv X pins σ f {a with heap:=a.heap.push {cls:=.type "slice",data:=.fields #[c,d,.none]}}:=i.kept (t':=a.toks) λb i q=>J' _ q;obtain⟨T,p,b,i,o⟩:=g pins {a with heap:=a.heap.push {cls:=.type "slice",data:=.fields #[c,d,.none]}} σ f x v c d l u a.heap.objs.size Q n k (Heap.IsSliceOf.new ..) r j m;show wpAny (model X.prog X.w) X.A (subscriptTail e (.Slice lo hi none p2) v (.ref a.heap.objs.size)) (EP X pins σ Q) X.xe {a with heap:=a.heap.push {cls:=.type "slice",data:=.fields #[c,d,.none]}};exact tail_any (ops:=[.ref a.heap.objs.size,v]) i b o (by with_unfolding_all rfl)
def dj(xs:List V)(lo hi:Option Int):List V:=(xs.drop (HT.eG xs.length 0 lo)).take (HT.eG xs.length xs.length hi-HT.eG xs.length 0 lo)
theorem qt(xs:List V)(lo hi:Option Int):(dj xs lo hi).length<=xs.length:=by
 unfold dj;rw[List.length_take,List.length_drop];lia
def ZC(K:W.Frag):V->Option Int->Option Int->Hp->VK->Prop:=λx lo hi H Q=>∃a xs,x=.ref a/\bI K H a xs/\
 ¬(HT.eG xs.length 0 lo=0/\HT.eG xs.length xs.length hi=xs.length)/\∀p,H p=none->Q (.ref p) (upd H p (.tup (dj xs lo hi)))
theorem O9:TL X (ZC X.K):=by
 intro b s σ H x v d m lo hi n Q I e g i j h;obtain⟨a,c,rfl,k,l,q⟩:=h
 cases e;obtain⟨m,r,b,d⟩:=I.tuple k;have a:m.toArray.size=c.length:=by rw[List.size_toArray];exact r.length.symm
 refine⟨"tuple",_,PyProof.Rows.slot_tuple_getitem.lookup,b.typeIs,?_⟩;refine HT.nN b g i j (by rw[a];exact l) ?_ (by rw[a];exact d);rw[a];refine⟨.ref s.heap.objs.size,_,I.laid (t':=s.toks) (o:=.tup (dj c lo hi)) (λb a q=>J' _ q) (K' _) ?_,rfl,q _ (I.aZ.fresh (K' _))⟩;exact⟨aap (qt c lo hi) d,_,(r.drop (HT.eG c.length 0 lo)).take (HT.eG c.length c.length hi-HT.eG c.length 0 lo),IsTup.new _ _⟩
def TN(K:W.Frag):R2:=λx y H Q=>∃a b xs c,x=.ref a/\y=.ref b/\bI K H a xs/\bI K H b c/\xs≠[]/\xs.length+c.length<=sizeLine/\
 (c=[]->Q (.ref a) H)/\(c≠[]->∀p,H p=none->Q (.ref p) (upd H p (.tup (xs++c))))
theorem Vals.vH{xs:List V}{us:List Value}(r:Vals xs us):us=[]↔xs=[]:=by
 cases r with
 |nil=>simp
 |cons _ _=>simp
theorem KI:gS X (binaryOp .Add) (TN X.K):=by
 intro c s σ H x y v u Q I d f h;obtain⟨a,b,g,i,rfl,rfl,j,k,l,e,m,n⟩:=h
 cases d
 cases f;obtain⟨c,d,h,_⟩:=I.tuple j;obtain⟨f,c,p2,_⟩:=I.tuple k;calc HT.KH h p2 (λz=>l (d.vH.mp z)) (λz=>⟨.ref a,H,I,rfl,m (c.vH.mp z)⟩) (λz=>?_) (by rw[<-d.length,<-c.length];calc e);calc⟨.ref s.heap.objs.size,_,I.laid (t':=s.toks) (o:=.tup (g++i)) (λb a q=>J' _ q) (K' _) ?_,rfl,n (λw=>z (c.vH.mpr w)) _ (I.aZ.fresh (K' _))⟩;calc⟨by rw[List.length_append];calc e,_,d.append c,IsTup.new _ _⟩
end
end
section
def qu(n:Nat)(i:Int):Option Nat:=if 0<=i then(if i<n then some i.toNat else none) else if -(n:Int)<=i then some (i+n).toNat else none
def ia{α:Type}(xs:List α)(i:Int):Option α:=(qu xs.length i).bind λj=>xs[j]?
theorem Bs{n:Nat}{i:Int}{j:Nat}(h:qu n i=some j):seqIndex? i n=some j/\j<n/\-(n:Int)<=i/\i<n:=by
 unfold qu at h;by_cases b:0<=i
 ·rw[if_pos b] at h;by_cases a:i < n
  ·rw[if_pos a]at h;have e:i.toNat=j:=Option.some.inj h;exact⟨by rw[seqIndex_of b a,e],by lia,by lia,a⟩
  ·rw[if_neg a]at h;cases h
 ·rw[if_neg b] at h;by_cases a:-(n:Int)<=i
  ·rw[if_pos a]at h;have e:(i+n).toNat=j:=Option.some.inj h;exact⟨by rw[seqIndex_neg (by lia) a,e],by lia,a,by lia⟩
  ·rw[if_neg a]at h;cases h
theorem vI{α:Type}{xs:List α}{i:Int}{v:α}(h:ia xs i=some v):∃j,seqIndex? i xs.length=some j/\xs[j]?=some v/\j<xs.length/\-(xs.length:Int)<=i/\i<xs.length:=by
 unfold ia at h
 cases e:qu xs.length i with
 |none=>rw[e]at h;cases h
 |some j=>
  rw[e]at h;obtain⟨a,b,c,d⟩:=Bs e;calc⟨j,a,h,b,c,d⟩
theorem aA{α:Type}{xs:List α}{j:Nat}{v:α}(h:xs[j]?=some v):ia xs (j:Int)=some v:=by
 have a:j<xs.length:=(List.getElem?_eq_some_iff.mp h).1;have e:qu xs.length (j:Int)=some j:=by
  unfold qu;rw[if_pos (by lia),if_pos (by lia)];simp
 unfold ia;rw[e];calc h
theorem jM{α:Type}(xs:List α)(v:α):ia (xs++[v]) (-1)=some v:=by
 have a:(xs++[v]).length=xs.length+1:=by simp
 have e:qu (xs++[v]).length (-1)=some xs.length:=by
  unfold qu;rw[a,if_neg (by decide),if_pos (by lia)];congr 1;lia
 unfold ia;rw[e];show(xs++[v])[xs.length]?=some v;simp
def Bt(b:Expr):Prop:=∀o i,subscripted b false o i=operate [o,i] (getItem o i)
def TQ(X:Cx)(r:R2):Prop:=
 ∀(b a:Expr) (pins:List (Addr×Obj)) (s:Shared) (σ:St) (H:Hp) (x y:V) (v u:Value) (Q:VK),Inv X pins σ H s->RelV x v->RelV y u->r x y H Q->
  subscripted a false v u=operate [v,u] (getItem v u)->wpAny (model X.prog X.w) X.A (subscriptTail b a v u) (EP X pins σ Q) X.xe s
def TR(X:Cx)(a:String)(r:V->List V->Hp->VK->Prop):Prop:=
 ∀(pins:List (Addr×Obj)) (s:Shared) (σ:St) (H:Hp) (x:V) (xs:List V) (v:Value) (us:List Value) (Q:VK),Inv X pins σ H s->RelV x v->Vals xs us->r x xs H Q->
  wpAny (model X.prog X.w) X.A (call (.builtin a) (v::us)) (EP X pins σ Q) X.xe s
section
variable {X:Cx}{a b:Expr}{ta tb:TE}{pos:Pos}
theorem TU{r:R2}(c:TQ X r)(d:PE X a ta)(e:PE X b tb)(f:Bt b):PE X (.Subscript a b pos) (Ks r ta tb):=by
 walk_at "xc";exact Subscript_ (OU d e I h λv u g x y i j k l q=>c a b pins g σ i x y v u Q j k l q (f _ _))
def ZD(K:W.Frag):R2:=λx y H Q=>∃p xs i v,x=.ref p/\y=.int i/\aU K H p xs/\ia xs i=some v/\Q v H
def ZE(K:W.Frag):R2:=λx y H Q=>∃p xs i v,x=.ref p/\y=.int i/\bI K H p xs/\ia xs i=some v/\Q v H
def ZF:R2:=λx y H Q=>∃z i c,x=.str z/\y=.int i/\z.length<=sizeLine/\ia z.cps.toList i=some c/\Q (.str ⟨#[c]⟩) H
theorem KJ:TQ X (ZD X.K):=by
 intro b c a s σ H x y v u Q I d e h f;obtain⟨p,j,i,z,rfl,rfl,g,k,q⟩:=h
 cases d;obtain⟨t,rfl⟩:=e;obtain⟨l,r,d,b⟩:=I.list g;obtain⟨j,c,b,e,m,n⟩:=vI k;obtain⟨w,g,e⟩:=r.get b;have k:=r.length;have b:=oW;have b:EP X a σ Q w s:=⟨z,H,I,e,q⟩
 by_cases h:0<=i
 ·have e:i.toNat=j:=by
   rw[seqIndex_of h n]at c;exact Option.some.inj c
  exact item_listR d.isList h (by lia) (by rw[e];simpa using g) b f
 ·have e:(i+(l.toArray.size:Int)).toNat=j:=by
   rw[seqIndex_neg (by lia) m]at c;rw[List.size_toArray,<-k];exact Option.some.inj c
  exact subscriptTail_builtinR (x:=w) d.isList.typeIs slot_list_getitem.lookup
   (wpAny_getItem_list_neg (Q:=λr c=>r=w/\EP X a σ Q r c) d.isList (by lia) (by rw[List.size_toArray]<;>lia) (by lia) (by rw[e];simpa using g) ⟨rfl,b⟩) f
theorem Pa:TQ X (ZE X.K):=by
 intro b c a s σ H x y v u Q I d e h f;obtain⟨p,j,i,z,rfl,rfl,g,k,q⟩:=h
 cases d;obtain⟨t,rfl⟩:=e;obtain⟨b,r,c,d⟩:=I.tuple g;obtain⟨j,d,b,e,h,i⟩:=vI k;obtain⟨w,e,g⟩:=r.get b;have h:=r.length;have b:=oW;have b:EP X a σ Q w s:=⟨z,H,I,g,q⟩
 exact subscriptTail_builtinR (x:=w) c.typeIs slot_tuple_getitem.lookup
  (getItem_tuple (j:=j) (Q:=λr g=>r=w/\EP X a σ Q r g) c (by lia) (by lia) (by rw[List.size_toArray,<-h];calc d) (by simpa using e) ⟨rfl,b⟩) f
theorem Pb:TQ X ZF:=by
 intro a b d s σ H x y v u Q I e f h g;obtain⟨z,i,c,rfl,rfl,j,k,q⟩:=h;obtain⟨t,rfl⟩:=e;obtain⟨l,rfl⟩:=f;obtain⟨j,a,b,h,d,e⟩:=vI k;have f:z.cps.toList.length=z.length:=by simp[Str.length]
 rw[f] at a d e;have h:=oW;exact tail_any (typeIs_str s z t) slot_str_getitem.lookup (getItem_str (c:=c) (by
  have d:decide (i < -(2 ^ 63:Int))=false:=decide_eq_false (by lia);have e:decide (i >= 2 ^ 63)=false:=decide_eq_false (by lia);rw[d,e,Bool.or_false]) (by rw[a];simpa using b) ⟨.str ⟨#[c]⟩,H,I.tok _,⟨_,rfl⟩,q⟩) g
theorem zM(a:List Value)(n j:Nat)(u:Value):Obj.mapSeq (·.setIfInBounds j u) {cls:=.type "list",data:=.seq a.toArray n}={cls:=.type "list",data:=.seq (a.set j u).toArray n}:=by
 simp[Obj.mapSeq]
theorem Inv.lst{pins:List (Addr×Obj)}{σ:St}{H:Hp}{s:Shared}{p:Addr}{xs:List V}(I:Inv X pins σ H s)(h:H p=some (.lst xs)):
  ∃(a:List Value) (n:Nat),Vals xs a/\s.heap.get? p=some {cls:=.type "list",data:=.seq a.toArray n}/\xs.length<=sizeLine:=by
 obtain⟨z,a,n,r,e⟩:=I.aZ p _ h;calc⟨a,n,r,e,z⟩
theorem Inv.Pc{pins:List (Addr×Obj)}{σ:St}{H:Hp}{s:Shared}{p:Addr}{xs a:List V}{d kB:List Value}{n c:Nat}{f:Obj->Obj}(I:Inv X pins σ H s)(h:H p=some (.lst xs))
  (i:s.heap.get? p=some {cls:=.type "list",data:=.seq d.toArray n}) (g:f {cls:=.type "list",data:=.seq d.toArray n}={cls:=.type "list",data:=.seq kB.toArray c}) (r:Vals a kB) (d:a.length<=sizeLine) (t:Nat):
  Inv X pins σ (upd H p (.lst a)) {s with heap:=s.heap.update p f,toks:=t}:=by
 have e:(s.heap.update p f).get? p=some {cls:=.type "list",data:=.seq kB.toArray c}:=by
  rw[Heap.get?_update_self f i (by rw[g]<;>rfl),g]
 calc I.write (x:=p) (e:=p) (by rw[h];trivial) (.inl rfl) (λb u a q=>(Heap.get?_update_other _ _ (Ne.symm a)).trans q) ⟨_,e⟩ ?_;calc⟨d,kB,c,r,e⟩
def TV:V->V->V->Hp->(Hp->Prop)->Prop:=λo i v H Q=>∃p xs k j,o=.ref p/\i=.int k/\H p=some (.lst xs)/\qu xs.length k=some j/\Q (upd H p (.lst (xs.set j v)))
theorem set_list:ON X TV:=by
 intro a s σ H o i v c f u Q I b d l h;obtain⟨p,m,k,j,rfl,rfl,e,w,q⟩:=h
 cases b;obtain⟨t,rfl⟩:=d;obtain⟨f,n,r,c,o⟩:=I.lst e;obtain⟨b,d,g,h⟩:=Bs w;have d:=r.length;have i:=oW;have i:Inv X a σ (upd H p (.lst (m.set j v))) {s with heap:=s.heap.update p (Obj.mapSeq (·.setIfInBounds j u))}:=
  I.Pc e c (zM f n j u) (r.set l j) (by rw[List.length_set];calc o) s.toks
 by_cases e:0<=k
 ·have a:k.toNat=j:=by
   rw[seqIndex_of e h]at b;exact Option.some.inj b
  exact W.ki_setAt c e (by lia) (by rw[List.size_toArray,<-d];calc h) (by rw[a];calc⟨_,i,q⟩)
 ·have a:(k+(f.toArray.size:Int)).toNat=j:=by
   rw[seqIndex_neg (by lia) g]at b;rw[List.size_toArray,<-d];exact Option.some.inj b
  calc W.ki_setBack c (by lia) (by rw[List.size_toArray,<-d];calc g) (by lia) (by rw[a];calc⟨_,i,q⟩)
theorem vJ(a b:Option Int)(n:Nat):(sliceBounds a b none n).1=((HT.eG n 0 a:Nat):Int)/\(sliceBounds a b none n).2.1=((HT.eG n n b:Nat):Int)/\(sliceBounds a b none n).2.2=1:=by
 refine⟨?_,?_,rfl⟩
 ·cases a with
  |none=>simp[sliceBounds,HT.eG]
  |some i=>
   simp only[sliceBounds,HT.eG,Option.getD_none,show(1:Int) > 0 by decide,if_true];by_cases h:i<0
   ·simp only[h,if_true]<;>lia
   ·simp only[h,if_false]<;>lia
 ·cases b with
  |none=>simp[sliceBounds,HT.eG]
  |some i=>
   simp only[sliceBounds,HT.eG,Option.getD_none,show(1:Int) > 0 by decide,if_true];by_cases h:i<0
   ·simp only[h,if_true]<;>lia
   ·simp only[h,if_false]<;>lia
theorem tF(a:List Value)(b c:Option Int):slicePick a.toArray b c none=((a.drop (HT.eG a.length 0 b)).take (HT.eG a.length a.length c-HT.eG a.length 0 b)).toArray:=by
 obtain⟨d,e,f⟩:=vJ b c a.toArray.size;unfold slicePick;rw[d,e,f];simp only[sliceRange_one,pick_run,List.size_toArray]<;>rfl
def ZG(K:W.Frag):V->Option Int->Option Int->Hp->VK->Prop:=λx b c H Q=>∃a xs,x=.ref a/\aU K H a xs/\∀p,H p=none->Q (.ref p) (upd H p (.lst (dj xs b c)))
theorem Bu:TL X (ZG X.K):=by
 intro d s σ H x v g n e f p Q I i j k l h;obtain⟨a,c,rfl,m,q⟩:=h
 cases i;obtain⟨d,r,g,h⟩:=I.list m;have d:=r.length;refine⟨"list",_,slot_list_getitem.lookup,g.isList.typeIs,?_⟩;refine wpAny_getItem_list_slice g.isList j k l .none (by simp) ?_ (by rw[List.size_toArray]<;>lia);rw[tF,<-d];refine⟨.ref s.heap.objs.size,_,I.laid (t':=s.toks) (o:=.lst (dj c e f)) (λb d q=>J' _ q) (K' _) ?_,rfl,q _ (I.aZ.fresh (K' _))⟩;exact⟨aap (qt c e f) h,_,0,(r.drop (HT.eG c.length 0 e)).take (HT.eG c.length c.length f-HT.eG c.length 0 e),V' _ rfl⟩
def gr:V->Bool
 | .bM=>true
 | .bl _=>true
 | .int _=>true
 | .str _=>true
 |_=>false
def EI:V->V->Bool
 | .bM,.bM=>true
 | .bl a,.bl b=>a==b
 | .bl a,.int b=>(if a then 1 else 0)==b
 | .int a,.bl b=>a==(if b then 1 else 0)
 | .int a,.int b=>a==b
 | .str a,.str b=>a==b
 |_,_=>false
theorem zN{A:Around}{s:Shared}{y x:V}{u v:Value}(e:RelV y u)(c:RelV x v)(g:gr y=true)(f:gr x=true):SeqAt.EqAt A s u v (EI y x):=by
 cases y with
 |bM=>
  cases e
  cases x with
  |bM=>cases c;calc SeqAt.EqAt.same _
  |bl b=>cases c;calc SeqAt.EqAt.none_bool b
  |int b=>obtain⟨t,rfl⟩:=c;calc SeqAt.EqAt.none_int b t
  |str b=>obtain⟨t,rfl⟩:=c;calc SeqAt.EqAt.none_str b t
  |_=>calc absurd (show false=true from f) U'
 |bl a=>
  cases e
  cases x with
  |bM=>cases c;calc SeqAt.EqAt.bool_none a
  |bl b=>cases c;calc SeqAt.EqAt.bool_bool a b
  |int b=>obtain⟨t,rfl⟩:=c;calc SeqAt.EqAt.bool_int a b t
  |str b=>obtain⟨t,rfl⟩:=c;calc SeqAt.EqAt.bool_str a b t
  |_=>calc absurd (show false=true from f) U'
 |int a=>
  obtain⟨d,rfl⟩:=e
  cases x with
  |bM=>cases c;calc SeqAt.EqAt.int_none a d
  |bl b=>cases c;calc SeqAt.EqAt.int_bool a d b
  |int b=>obtain⟨t,rfl⟩:=c;calc SeqAt.EqAt.int_int a d b t
  |str b=>obtain⟨t,rfl⟩:=c;calc SeqAt.EqAt.int_str a d b t
  |_=>calc absurd (show false=true from f) U'
 |str a=>
  obtain⟨d,rfl⟩:=e
  cases x with
  |bM=>cases c;calc SeqAt.EqAt.str_none a d
  |bl b=>cases c;calc SeqAt.EqAt.str_bool a d b
  |int b=>obtain⟨t,rfl⟩:=c;calc SeqAt.EqAt.str_int a d b t
  |str b=>obtain⟨t,rfl⟩:=c;calc SeqAt.EqAt.str_str a d b t
  |_=>calc absurd (show false=true from f) U'
 |_=>calc absurd (show false=true from g) U'
def KL(x:V)(u:Value):Bool:=match u with
 | .none=>EI .bM x
 | .bool b=>EI (.bl b) x
 | .int i _=>EI (.int i) x
 | .str z _=>EI (.str z) x
 |_=>false
theorem FQ{x y:V}{u:Value}(r:RelV y u)(f:gr y=true):KL x u=EI y x:=by
 cases y with
 |bM=>cases r;rfl
 |bl b=>cases r;rfl
 |int i=>obtain⟨t,rfl⟩:=r;rfl
 |str z=>obtain⟨t,rfl⟩:=r;rfl
 |_=>calc absurd (show false=true from f) U'
theorem vK{x:V}:∀{xs:List V}{us:List Value},Vals xs us->xs.all gr=true->us.any (KL x)=xs.any λy=>EI y x
 |_,_,.nil,_=>rfl
 |y::xs,u::us,.cons r t,f=>by
  rw[List.all_cons,Bool.and_eq_true]at f;rw[List.any_cons,List.any_cons,FQ r f.1,vK t f.2]
theorem rH{A:Around}{s:Shared}{x:V}{v:Value}(b:RelV x v)(c:gr x=true):∀{xs:List V}{us:List Value},Vals xs us->xs.all gr=true->∀u∈us,SeqAt.EqAt A s u v (KL x u)
 |_,_,.nil,_=>λu a=>by cases a
 |y::xs,u::us,.cons r t,f=>λd a=>by
  rw[List.all_cons,Bool.and_eq_true]at f;rcases List.mem_cons.mp a with rfl|a
  ·rw[FQ r f.1];exact zN r b f.1 c
  ·calc rH b c t f.2 d a
def Bv(x:V)(xs:List V):Bool:=xs.any λy=>EI y x
def rIn(K:W.Frag)(a:Bool):R2:=λx y H Q=>∃p xs,y=.ref p/\(aU K H p xs\/bI K H p xs)/\gr x=true/\xs.all gr=true/\Q (.bl (if a then !Bv x xs else Bv x xs)) H
theorem Dj:gS X (compareOp .In) (rIn X.K false):=by
 intro b s σ H x y v u Q I f d h;obtain⟨p,e,rfl,a,g,c,q⟩:=h
 cases d;rcases a with a|a
 ·obtain⟨b,r,d,h⟩:=I.list a;calc SeqAt.in_listAt (KL x) d.isList (λw e=>rH f g r c w (by simpa using e)) ⟨.bl _,H,I,rfl,?_⟩;rw[show b.toArray.any (KL x)=b.any (KL x) by simp,vK r c];exact q
 ·obtain⟨b,r,d,h⟩:=I.tuple a;calc SeqAt.in_tupleAt (KL x) d (λw e=>rH f g r c w (by simpa using e)) ⟨.bl _,H,I,rfl,?_⟩;rw[show b.toArray.any (KL x)=b.any (KL x) by simp,vK r c];calc q
theorem vL:fq X (.type "list") (λxs H Q=>∃p d,xs=[.ref p]/\(aU X.K H p d\/bI X.K H p d)/\∀l,H l=none->Q (.ref l) (upd H l (.lst d))):=by
 intro i s σ H xs o Q I r h;obtain⟨p,d,rfl,j,q⟩:=h;obtain⟨u,rfl,n⟩:=vals1 r
 cases n;have k:∀(c:List Value),Vals d c->d.length<=sizeLine->∀(a:Heap) (f:Nat),(∀b h,s.heap.get? b=some h->a.get? b=some h)->
   a.get? s.heap.objs.size=some {cls:=.type "list",dict:=none,data:=.seq c.toArray f,slots:=#[]}->EP X i σ Q (.ref s.heap.objs.size) {s with heap:=a}:=λc g m a f t e=>
  ⟨.ref s.heap.objs.size,_,I.laid (t':=s.toks) t (K' _) (show cQ X.prog X.w _ a _ (.lst d) from⟨m,c,f,g,e⟩),rfl,q _ (I.aZ.fresh (K' _))⟩
 rcases j with j|j
 ·obtain⟨c,g,h,m⟩:=I.list j;have d:=g.length;obtain⟨o,i,l,n,q⟩:=h.isList;exact call_list_seq p (.inl rfl) i l q (λa f t e=>k c g m a f t e) (by simp only[List.size_toArray]<;>lia)
 ·obtain⟨c,g,h,m⟩:=I.tuple j;have d:=g.length;obtain⟨o,i,l,n,q⟩:=h;calc call_list_seq p (.inr rfl) i l q (λa f t e=>k c g m a f t e) (by simp only[List.size_toArray]<;>lia)
theorem l8:fq X (.type "tuple") (λxs H Q=>∃p c,xs=[.ref p]/\((aU X.K H p c/\∀l,H l=none->Q (.ref l) (upd H l (.tup c)))\/(bI X.K H p c/\Q (.ref p) H))):=by
 intro a s σ H xs e Q I r h;obtain⟨p,c,rfl,h⟩:=h;obtain⟨u,rfl,d⟩:=vals1 r
 cases d;rcases h with⟨f,q⟩|⟨f,q⟩
 ·obtain⟨g,h,i,j⟩:=I.list f;have d:=h.length;calc call_tuple_list i.isList (λd e=>?_) (by simp only[List.size_toArray]<;>lia);have k:Inv X a σ H {s with heap:=d}:=I.kept (t':=s.toks) e;have m:Inv X a σ (upd H d.objs.size (.tup c)) {s with heap:=d.push {cls:=.type "tuple",data:=.seq g.toArray}}:=
   k.laid (t':=s.toks) (λb o e=>J' _ e) (K' _) (show cQ X.prog X.w _ _ _ (.tup c) from⟨j,g,h,IsTup.new _ _⟩)
  exact⟨.ref d.objs.size,_,m,rfl,q _ (k.aZ.fresh (K' _))⟩
 ·obtain⟨g,h,i,j⟩:=I.tuple f;calc call_tuple_same i ⟨.ref p,H,I,rfl,q⟩
def ZH(K:W.Frag)(T:String)(x:V)(H:Hp):Prop:=match x with
 | .str _=>T="str"
 | .int _=>T="int"
 | .ref p=>(T="list"/\∃xs,aU K H p xs)\/(T="tuple"/\∃o,K.lookup p=some o/\o.cls=.type "tuple"/\o.dict=none)\/
   (T="dict"/\((∃a,H p=some (.dK a))\/∃a,H p=some (.dT a)))\/(T="set"/\∃S n,H p=some (.set S n))
 |_=>False
theorem FT{pins:List (Addr×Obj)}{σ:St}{H:Hp}{s:Shared}{T:String}{x:V}{v:Value}(I:Inv X pins σ H s)(r:RelV x v)(f:ZH X.K T x H):
  s.TypeIs v T/\∀a,v=.ref a->∃c,s.heap.get? a=some c/\c.dict=none:=by
 cases x with
 |str z=>
  obtain⟨t,rfl⟩:=r
  cases(show T="str" from f);exact⟨typeIs_str s z t,λ_ e=>nomatch e⟩
 |int i=>
  obtain⟨t,rfl⟩:=r
  cases(show T="int" from f);exact⟨typeIs_int s i t,λ_ e=>nomatch e⟩
 |ref p=>
  cases r;rcases f with⟨rfl,m,k⟩|⟨rfl,o,b,l,g⟩|⟨rfl,b⟩|⟨rfl,S,n,b⟩
  ·obtain⟨c,_,j,_⟩:=I.list k;refine⟨j.isList.typeIs,λa e=>?_⟩
   cases e;obtain⟨o,n,e,c,g,_⟩:=j;exact⟨o,e,g⟩
  ·refine⟨⟨o,I.ic p o b,l⟩,λa e=>?_⟩
   cases e;exact⟨o,I.ic _ o b,g⟩
  ·have z:∃o,s.heap.get? p=some o/\o.ExactDict:=by
    rcases b with⟨c,b⟩|⟨c,b⟩
    ·obtain⟨_,_,_,_,o,_,_,e,d,_⟩:=I.aZ p _ b;exact⟨o,e,d⟩
    ·obtain⟨_,_,_,_,o,_,_,e,d,_⟩:=I.aZ p _ b;exact⟨o,e,d⟩
   obtain⟨o,e,d⟩:=z;refine⟨⟨o,e,d.1⟩,λa h=>?_⟩
   cases h;exact⟨o,e,d.2.1⟩
  ·obtain⟨o,_,_,_,e,d,_⟩:=I.aZ p _ b;refine⟨⟨o,e,d.1⟩,λa h=>?_⟩
   cases h;calc⟨o,e,d.2.1⟩
 |_=>calc aak f
def Pd(K:W.Frag)(T:String)(r:V->List V->Hp->VK->Prop)(b:TE):TE:=λσ H Q=>b σ H λx a=>ZH K T x a/\r x [] a Q
def ZI(K:W.Frag)(T:String)(r:V->List V->Hp->VK->Prop)(b:TE)(t:TA):TE:=λσ H Q=>b σ H λx a=>ZH K T x a/\t σ a λxs b=>r x xs b Q
variable {o e:Expr}{es:List Expr}{to:TE}{t:TA}{name:Str}{apos iu:Pos}{T id:String}{r:V->List V->Hp->VK->Prop}
theorem Pe(d:PlainAttrs T)(a:Slot T name id)(e:typeOf (.builtin id)=pure (.type "method_descriptor"))(f:TR X id r)(b:PE X o to)
  (c:attributeBase o name X.env (eval o X.env)=eval o X.env:=by rfl) (g:(apos.endLine==iu.line)=true:=by rfl):PE X (.Call (.Attribute o name apos) [] [] iu) (Pd X.K T r to):=by
 walk_at "xc";refine wpAny_Call_method0_late c g (cX (b pins s σ H _ I h) λv i j=>?_);nofun;obtain⟨x,g,b,c,k,l⟩:=j;ac_rfl;obtain⟨m,n⟩:=FT b c k;exact⟨T,id,d,a,e,m,n,Calls.callWith_builtin rfl (PySem.evalArgs_none (f pins i σ g x [] v [] Q b c .nil l))⟩
theorem dA(f:PlainAttrs T)(a:Slot T name id)(g:typeOf (.builtin id)=pure (.type "method_descriptor"))(i:TR X id r)(b:PE X o to)(j:PA X (e::es) t)
  (c:attributeBase o name X.env (eval o X.env)=eval o X.env:=by rfl)
  (d:((backTo iu (starEach (e::es) X.env)).all (λx=> !x.1) && (backToKw iu (keywordEach [] X.env)).all (λx=>x.1.isSome)
   && decide ((e::es).length + ([]:List Keyword).length + (if ([]:List Keyword).isEmpty then 0 else 1) < 30))=true:=by rfl)
  (k:(apos.endLine==iu.line)=true:=by rfl) (l:starEach (e::es) X.env=(false,eval e X.env)::starEach es X.env:=by rfl) (m:(backTo iu (starEach es X.env)).any (·.1)=false:=by rfl):
  PE X (.Call (.Attribute o name apos) (e::es) [] iu) (ZI X.K T r to t):=by
 walk_at "xc";refine wpAny_Call_method_late c d k rfl (cX (b pins s σ H _ I h) λv n p=>?_);nofun;obtain⟨x,k,b,c,q,u⟩:=p;ac_rfl;obtain⟨w,y⟩:=FT b c q;refine⟨T,id,f,a,g,w,y,?_⟩;have d:=j iu pins n σ k _ b u;rw[l]at d ⊢;refine Calls.callWith_builtin (by show(false||(backTo iu (starEach es X.env)).any (·.1))=false;rw[m]<;>rfl) (Calls.evalArgs_plain ?_);exact cX d λa f ⟨g,p,q,w,y⟩=>i pins f σ p x g v a Q q c w y
end
end
section
def X1(X:Cx)(a:String)(r:V->List V->Hp->VK->Prop):Prop:=
 ∀(pins:List (Addr×Obj)) (s:Shared) (σ:St) (H:Hp) (x:V) (xs:List V) (v:Value) (us:List Value) (Q:VK),Inv X pins σ H s->RelV x v->Vals xs us->r x xs H Q->
  wpAny (model X.prog X.w) X.A (call (.builtin a) (v::us)) (EP X pins σ Q) X.xe s
theorem Vals.one:∀{x:V}{us:List Value},Vals [x] us->∃u,us=[u]/\RelV x u
 |_,_,.cons r .nil=>⟨_,rfl,r⟩
theorem Vals.zero:∀{us:List Value},Vals [] us->us=[]
 |_,.nil=>rfl
theorem Vals.dropLast{xs:List V}{us:List Value}(h:Vals xs us):Vals xs.dropLast us.dropLast:=by
 induction h with
 |nil=>calc .nil
 |cons r t a=>
  cases t with
  |nil=>calc .nil
  |cons q b=>calc .cons r a
theorem Vals.eraseIdx:∀{xs:List V}{us:List Value}(i:Nat),Vals xs us->Vals (xs.eraseIdx i) (us.eraseIdx i)
 |_,_,_,.nil=>.nil
 |_,_,0,.cons _ t=>t
 |_,_,i+1,.cons r t=>.cons r (Vals.eraseIdx i t)
theorem zO{α:Type}(l:List α):l.eraseIdx (l.length-1)=l.dropLast:=by
 induction l with
 |nil=>rfl
 |cons a r c=>
  cases r with
  |nil=>rfl
  |cons b r=>
   have e:(a::b::r).length-1=((b::r).length-1)+1:=by
    have d:(a::b::r).length=r.length+2:=rfl;have a:(b::r).length=r.length+1:=rfl;lia
   rw[e,List.eraseIdx_cons_succ,c]
   all_goals rfl
theorem oY{α:Type}:∀(l:List α) (i:Nat),(l.eraseIdx i).length<=l.length
 | [],_=>K' _
 |_::_,0=>Nat.le_succ _
 |_::r,i+1=>Nat.succ_le_succ (oY r i)
section
variable {X:Cx}{pins:List (Addr×Obj)}{σ:St}{H:Hp}{s:Shared}{l b:Addr}{xs ys zs:List V}
theorem Inv.FU{a kB:List Value}{n:Nat}{f:Array Value->Array Value}{t':Nat}(I:Inv X pins σ H s)(b:H l=some (.lst xs))
  (e:s.heap.get? l=some {cls:=.type "list",data:=.seq a.toArray n}) (c:f a.toArray=kB.toArray) (d:Vals ys kB) (g:ys.length<=sizeLine):
  Inv X pins σ (upd H l (.lst ys)) {s with heap:=s.heap.update l (Obj.mapSeq f),toks:=t'}:=by
 have q:=PySem.IsL.update e f;rw[c]at q;calc I.write (x:=l) (e:=l) (by rw[b];calc trivial) (.inl rfl) (λe u a c=>(Heap.get?_update_other s.heap (Obj.mapSeq f) (Ne.symm a)).trans c) ⟨_,q⟩ ?_;calc⟨g,kB,_,d,q⟩
theorem Inv.ZJ{a:List Value}{t':Nat}(I:Inv X pins σ H s)(b:Vals ys a)(c:ys.length<=sizeLine):
  Inv X pins σ (upd H s.heap.objs.size (.lst ys)) {s with heap:=s.heap.push {cls:=.type "list",data:=.seq a.toArray},toks:=t'}:=
 I.laid (λ_ _ q=>J' _ q) (K' _) ⟨c,a,0,b,V' _ rfl⟩
theorem Inv.fresh(I:Inv X pins σ H s):H s.heap.objs.size=none:=I.aZ.fresh (K' _)
theorem Inv.xt(I:Inv X pins σ H s)(b:H l=some (.lst xs)):xs.length<=sizeLine/\∃(a:List Value) (n:Nat),Vals xs a/\xs.length=a.length/\s.heap.get? l=some {cls:=.type "list",data:=.seq a.toArray n}:=by
 obtain⟨z,a,n,r,e⟩:=I.aZ l _ b;calc⟨z,a,n,r,r.length,e⟩
theorem FV{n:Nat}(h:n<=sizeLine):Builtin.List.listTooLong n=false:=by
 unfold Builtin.List.listTooLong;calc decide_eq_false (by lia)
end
section
variable {X:Cx}
def KN:V->List V->Hp->VK->Prop:=λx vs H Q=>∃l xs y,x=.ref l/\vs=[y]/\H l=some (.lst xs)/\xs.length<sizeLine/\Q .bM (upd H l (.lst (xs++[y])))
theorem uy:X1 X "list.append" KN:=by
 intro a s σ H x e v f Q I c d h;obtain⟨l,g,y,rfl,rfl,b,i,q⟩:=h
 cases c;obtain⟨u,rfl,f⟩:=d.one;obtain⟨z,a,n,r,c,e⟩:=I.xt b;calc call_meets F.slot_list_append ⟨_,e,rfl⟩ F.entry_list_append (F.args_list_append_2 _ _) (PySem.list_append l a.toArray n u (by rw[List.size_toArray];lia)) ⟨e,?_⟩;calc⟨.bM,_,I.FU (kB:=a++[u]) b e (by simp) (r.append (.cons f .nil)) ?_,rfl,q⟩;rw[List.length_append,List.length_singleton];lia
def KO:V->List V->Hp->VK->Prop:=λx vs H Q=>∃l b xs a,x=.ref l/\vs=[.ref b]/\H l=some (.lst xs)/\H b=some (.lst a)/\xs.length+a.length<=sizeLine/\Q .bM (upd H l (.lst (xs++a)))
theorem Dl:X1 X "list.extend" KO:=by
 intro a s σ H x e v j Q I c d h;obtain⟨l,b,k,m,rfl,rfl,f,g,n,q⟩:=h
 cases c;obtain⟨u,rfl,i⟩:=d.one
 cases i;obtain⟨z,a,n,r,c,e⟩:=I.xt f;obtain⟨d,c,h,i,k,j⟩:=I.xt g;have d:a.toArray.size+c.toArray.size<=sizeLine:=by rw[List.size_toArray,List.size_toArray];lia
 have g:¬(!a.toArray.isEmpty&&Builtin.List.listTooLong (a.toArray.size+c.toArray.size))=true:=by
  rw[FV d,Bool.and_false];exact U'
 refine call_meets F.slot_list_extend ⟨_,e,rfl⟩ F.entry_list_extend (F.args_list_extend_2 _ _)
  (AutoSeq1.list_extend_list_list_0 l a.toArray n b c.toArray h g (by rw[List.size_toArray];lia) (by lia)) ⟨e,j,?_⟩
 calc⟨.bM,_,I.FU (kB:=a++c) f e (by simp) (r.append i) ?_,rfl,q⟩;rw[List.length_append];lia
def ZK:V->List V->Hp->VK->Prop:=λx vs H Q=>∃l xs y,x=.ref l/\vs=[]/\H l=some (.lst xs)/\xs[xs.length-1]?=some y/\Q y (upd H l (.lst xs.dropLast))
theorem Pg:X1 X "list.pop" ZK:=by
 intro a s σ H x e v i Q I d f h;obtain⟨l,j,y,rfl,rfl,c,g,q⟩:=h
 cases d;have b:=f.zero;subst b;obtain⟨z,a,n,r,d,e⟩:=I.xt c;obtain⟨u,b,f⟩:=r.get g;have h:a.toArray[a.toArray.size-1]?=some u:=by
  show a.toArray[a.length-1]?=some u;rw[<-Array.getElem?_toList,<-d];exact b
 calc call_meets F.slot_list_pop ⟨_,e,rfl⟩ F.entry_list_pop (F.args_list_pop_1 _) (MeetsSeq.list_pop_last l a.toArray n u h (by rw[List.size_toArray];lia)) ⟨e,?_⟩;refine⟨y,_,I.FU (kB:=a.dropLast) c e ?_ r.dropLast ?_,f,q⟩
 ·show a.toArray.eraseIdxIfInBounds (a.toArray.size-1)=a.dropLast.toArray;rw[List.size_toArray,List.eraseIdxIfInBounds_toArray,zO]
 ·rw[List.length_dropLast];lia
def Ph:V->List V->Hp->VK->Prop:=λx vs H Q=>∃l xs i k y,x=.ref l/\vs=[.int i]/\H l=some (.lst xs)/\-(2^63)<=i/\i<2^63/\seqIndex? i xs.length=some k/\xs[k]?=some y/\Q y (upd H l (.lst (xs.eraseIdx k)))
theorem T3:X1 X "list.pop" Ph:=by
 intro a s σ H x e v n Q I c d h;obtain⟨l,f,i,k,y,rfl,rfl,b,g,j,m,o,q⟩:=h
 cases c;obtain⟨u,rfl,p⟩:=d.one;obtain⟨t,rfl⟩:=p;obtain⟨z,a,n,r,c,e⟩:=I.xt b;obtain⟨w,d,h⟩:=r.get o;refine call_meets F.slot_list_pop ⟨_,e,rfl⟩ F.entry_list_pop (F.args_list_pop_2 _ _)
  (MeetsSeq.list_pop_at l a.toArray n i t k w (fitsIndex_both g j) (by rw[List.size_toArray,<-c];calc m) (by rw[<-Array.getElem?_toList];calc d) (by rw[List.size_toArray];lia)) ⟨e,?_⟩
 refine⟨y,_,I.FU (kB:=a.eraseIdx k) b e ?_ (r.eraseIdx k) ?_,h,q⟩
 ·show a.toArray.eraseIdxIfInBounds k=(a.eraseIdx k).toArray;rw[List.eraseIdxIfInBounds_toArray]
 ·have:=oY f k;lia
def ZL:R2:=λx y H Q=>∃l b xs a,x=.ref l/\y=.ref b/\H l=some (.lst xs)/\H b=some (.lst a)/\xs.length+a.length<=sizeLine/\∀p,H p=none->Q (.ref p) (upd H p (.lst (xs++a)))
theorem Pj:gS X (binaryOp .Add) ZL:=by
 intro a s σ H x y v u Q I c d h;obtain⟨l,b,e,i,rfl,rfl,f,g,j,q⟩:=h
 cases c
 cases d;obtain⟨z,a,n,r,b,e⟩:=I.xt f;obtain⟨h,b,i,c,j,d⟩:=I.xt g;calc PySem.P.add_list e d ?_ (by rw[List.size_toArray,List.size_toArray];lia);have f:a.toArray++b.toArray=(a++b).toArray:=by simp
 rw[f];calc⟨.ref _,_,I.ZJ (t':=s.toks) (r.append c) (by rw[List.length_append];lia),rfl,q _ I.fresh⟩
theorem FW{pins:List (Addr×Obj)}{s:Shared}{σ:St}{H:Hp}{l:Addr}{xs:List V}{i:Int}{t:Tok}{k:Nat}{Q:Unit->Shared->Prop}(I:Inv X pins σ H s)(b:H l=some (.lst xs))
  (c:-(2^63)<=i) (d:i<2^63) (f:seqIndex? i xs.length=some k) (h:∀s',Inv X pins σ (upd H l (.lst (xs.eraseIdx k))) s'->Q () s'):
  wpAny (model X.prog X.w) X.A (delItem (.ref l) (.int i t)) Q X.xe s:=by
 obtain⟨z,a,n,r,g,e⟩:=I.xt b;calc PySem.P.delItem_list (k:=k) e (fitsIndex_both c d) (by rw[List.size_toArray,<-g];calc f) (h _ ?_) (by rw[List.size_toArray];lia);refine I.FU (kB:=a.eraseIdx k) (t':=s.toks) b e ?_ (r.eraseIdx k) ?_
 ·show a.toArray.eraseIdxIfInBounds k=(a.eraseIdx k).toArray;rw[List.eraseIdxIfInBounds_toArray]
 ·have:=oY xs k;lia
end
section
variable {prog:Program}{w:World}{A:Around}{E:Value->Shared->Prop}{s:Shared}
set_option maxRecDepth 100000 in
end
section
variable {X:Cx}
end
end
section
variable {a:Addr}{X:Cx}{H H':Hp}{bg:List (Key×V)}{xs:List (List Key×Addr×Value)}{zj:List (TE×TE)}{pos:Pos}{Q:Value->Shared->Prop}
section
variable {κ:Type} [DecidableEq κ]
def gT(bg:List (κ×V))(k:κ):Option V:=(bg.find? λa=>decide (a.1=k)).map (·.2)
def putK(bg:List (κ×V))(k:κ)(v:V):List (κ×V):=
 if (bg.any λa=>decide (a.1=k))=true then bg.map (λa=>if a.1=k then(a.1,v) else a) else bg++[(k,v)]
theorem FX{k:κ}:gT ([]:List (κ×V)) k=none:=rfl
theorem eW{p:κ×V}{r:List (κ×V)}{k:κ}(e:p.1=k):gT (p::r) k=some p.2:=by simp[gT,List.find?_cons,e]
theorem eX{p:κ×V}{r:List (κ×V)}{k:κ}(e:¬p.1=k):gT (p::r) k=gT r k:=by simp[gT,List.find?_cons,e]
theorem kF(k:κ):∀bg:List (κ×V),(bg.any λa=>decide (a.1=k))=(gT bg k).isSome
 | []=>rfl
 |p::r=>by
  rw[List.any_cons];by_cases e:p.1=k
  ·simp only[eW e,decide_eq_true e,Bool.true_or,Option.isSome_some]
  ·rw[eX e,decide_eq_false e,Bool.false_or];calc kF k r
theorem xu(k j:κ)(y:V):∀bg:List (κ×V),gT (bg.map λa=>if a.1=k then(a.1,y) else a) j=(gT bg j).map λx=>if j=k then y else x
 | []=>rfl
 |p::r=>by
  have a:=xu k j y r;rw[List.map_cons];by_cases h:p.1=k
  ·rw[if_pos h];by_cases e:p.1=j
   ·rw[eW (p:=(p.1,y)) e,eW e,Option.map_some,if_pos (e.symm.trans h)]
   ·rw[eX (p:=(p.1,y)) e,eX e,a]
  ·rw[if_neg h];by_cases e:p.1=j
   ·rw[eW (p:=p) e,eW e,Option.map_some,if_neg (λz=>h (e.trans z))]
   ·rw[eX (p:=p) e,eX e,a]
theorem uz(k j:κ)(y:V):∀bg:List (κ×V),gT bg k=none->gT (bg++[(k,y)]) j=if j=k then some y else gT bg j
 | [],_=>by
  by_cases e:k=j
  ·rw[if_pos e.symm];exact eW (p:=(k,y)) e
  ·rw[if_neg (λz=>e z.symm)];calc eX (p:=(k,y)) e
 |p::r,a=>by
  rw[List.cons_append];have b:¬p.1=k:=λz=>by rw[eW z]at a;cases a
  rw[eX b]at a;have c:=uz k j y r a;by_cases e:p.1=j
  ·rw[eW e,eW e,if_neg (λz=>b (e.trans z))]
  ·rw[eX e,eX e,c]
theorem FY(bg:List (κ×V))(k j:κ)(y:V):gT (putK bg k y) j=if j=k then some y else gT bg j:=by
 unfold putK;by_cases a:(bg.any λb=>decide (b.1=k))=true
 ·rw[if_pos a,xu];rw[kF] at a;by_cases e:j=k
  ·obtain⟨x,b⟩:=Option.isSome_iff_exists.mp a;rw[if_pos e,e,b,Option.map_some,if_pos rfl]
  ·rw[if_neg e]
   cases gT bg j with
   |none=>rfl
   |some x=>rw[Option.map_some,if_neg e]
 ·rw[if_neg a];calc uz k j y bg ?_;rw[kF] at a
  cases q:gT bg k with
  |none=>rfl
  |some x=>rw[q]at a;calc(a rfl).elim
theorem kG(bg:List (κ×V))(k:κ)(v:V):(putK bg k v).length<=bg.length+1:=by
 unfold putK;split
 ·rw[List.length_map];lia
 ·rw[List.length_append,List.length_cons,List.length_nil];lia
theorem FZ{bg:List (κ×V)}{k:κ}(v:V)(h:gT bg k=none):putK bg k v=bg++[(k,v)]:=by
 unfold putK;rw[kF,h];calc if_neg (by decide)
theorem jZ.oZ{o:Option V}{u:Option Value}(r:jZ o u):o.isSome=u.isSome:=by
 cases o with
 |none=>cases u with
  |none=>rfl
  |some _=>calc(show False from r).elim
 |some _=>cases u with
  |none=>calc(show False from r).elim
  |some _=>rfl
theorem jZ.getD{o:Option V}{u:Option Value}{d:V}{d':Value}(r:jZ o u)(a:RelV d d'):RelV (o.getD d) (u.getD d'):=by
 cases o with
 |none=>cases u with
  |none=>calc a
  |some _=>calc(show False from r).elim
 |some _=>cases u with
  |none=>calc(show False from r).elim
  |some _=>calc r
theorem KV.val{bg:List (κ×V)}{vs:List (κ×Value)}(r:KV bg vs)(k:κ):jZ (gT bg k) (valueAt vs k):=by
 unfold KV at r;induction r with
 |nil=>calc aaF
 | @cons p q b a h t g=>
  obtain⟨d,i⟩:=h;by_cases e:p.1=k
  ·have c:q.1=k:=d.symm.trans e;have b:valueAt (q::a) k=some q.2:=by simp[valueAt,List.find?_cons,c]
   rw[eW e,b];exact i
  ·have c:¬q.1=k:=λz=>e (d.trans z);have b:valueAt (q::a) k=valueAt a k:=by simp[valueAt,List.find?_cons,c]
   rw[eX e,b];calc g
theorem KV.any{bg:List (κ×V)}{vs:List (κ×Value)}(r:KV bg vs)(k:κ):(bg.any λa=>decide (a.1=k))=vs.any λa=>decide (a.1=k):=by
 unfold KV at r;induction r with
 |nil=>rfl
 |cons h t a=>rw[List.any_cons,List.any_cons,a,h.1]
theorem KV.Pk{bg:List (κ×V)}{vs:List (κ×Value)}(r:KV bg vs)(k:κ){y:V}{u:Value}(b:RelV y u):
  KV (bg.map λa=>if a.1=k then(a.1,y) else a) (vs.map λa=>if a.1=k then(a.1,u) else a):=by
 unfold KV at r ⊢;induction r with
 |nil=>calc .nil
 | @cons p q a d h t c=>
  rw[List.map_cons,List.map_cons];calc .cons ?_ c;obtain⟨a,d⟩:=h;by_cases e:p.1=k
  ·rw[if_pos e,if_pos (a.symm.trans e)];exact⟨a,b⟩
  ·rw[if_neg e,if_neg (λz=>e (a.trans z))];calc⟨a,d⟩
theorem KV.put{bg:List (κ×V)}{vs:List (κ×Value)}(r:KV bg vs)(k:κ){y:V}{u:Value}(a:RelV y u):KV (putK bg k y) (stored vs k u):=by
 unfold putK stored;rw[r.any k];by_cases e:(vs.any λb=>decide (b.1=k))=true
 ·rw[if_pos e,if_pos e];exact r.Pk k a
 ·rw[if_neg e,if_neg e];calc Paired.snoc r ⟨rfl,a⟩
theorem KV.length{bg:List (κ×V)}{vs:List (κ×Value)}(r:KV bg vs):bg.length=vs.length:=Paired.length r
end
theorem xy{P:Program}{w:World}{k:Key}{u:Value}(r:RelV (kV k) u):(dJ P w).is k u=true:=by
 cases k with
 |inl i=>obtain⟨t,e⟩:=(show ∃t,u=Value.int i t from r);subst e;calc xc P w i t
 |inr x=>obtain⟨t,e⟩:=(show ∃t,u=Value.str x t from r);subst e;calc xf P w x t
theorem uA{P:Program}{w:World}:∀{a:List Key}{us:List Value},Vals (a.map kV) us->ItemsAre (dJ P w) a us
 | [],_,r=>by rw[List.map_nil]at r;cases r;calc .nil
 |k::a,_,r=>by
  rw[List.map_cons]at r
  cases r with
  |cons h t=>calc .cons (xy h) (uA t)
abbrev KT(H:Hp):List (List Key×V)->List (List Key×Addr×Value)->Prop:=Paired λp q=>p.1=q.1/\H q.2.1=some (.tup (p.1.map kV))/\RelV p.2 q.2.2
theorem KT.val{H:Hp}{bg:List (List Key×V)}{xs:List (List Key×Addr×Value)}(r:KT H bg xs)(k:List Key):jZ (gT bg k) ((atKey xs k).map (·.2)):=by
 induction r with
 |nil=>calc aaF
 | @cons p q b a h t g=>
  obtain⟨d,_,i⟩:=h;by_cases e:p.1=k
  ·have c:q.1=k:=d.symm.trans e;have b:atKey (q::a) k=some q.2:=by simp[atKey,List.find?_cons,c]
   rw[eW e,b];exact i
  ·have c:¬q.1=k:=λz=>e (d.trans z);have b:atKey (q::a) k=atKey a k:=by simp[atKey,List.find?_cons,c]
   rw[eX e,b];calc g
theorem KT.Pk{H:Hp}{bg:List (List Key×V)}{xs:List (List Key×Addr×Value)}(r:KT H bg xs)(k:List Key){y:V}{u:Value}(c:RelV y u):
  KT H (bg.map λa=>if a.1=k then(a.1,y) else a) (xs.map (putAt k u)):=by
 induction r with
 |nil=>calc .nil
 | @cons p q a b h t d=>
  rw[List.map_cons,List.map_cons];calc .cons ?_ d;obtain⟨a,b,g⟩:=h;unfold putAt;by_cases e:p.1=k
  ·rw[if_pos e,if_pos (a.symm.trans e)];exact⟨a,b,c⟩
  ·rw[if_neg e,if_neg (λz=>e (a.trans z))];calc⟨a,b,g⟩
theorem KT.put{bg:List (List Key×V)}(r:KT H bg xs)(k:List Key){b:Addr}{y:V}{u:Value}(c:H b=some (.tup (k.map kV)))(a:RelV y u):
  KT H (putK bg k y) (storedH xs k b u):=by
 have e:(bg.any λb=>decide (b.1=k))=(atKey xs k).isSome:=by
  rw[kF,(r.val k).oZ,Option.isSome_map]
 unfold putK storedH;rw[e];by_cases q:(atKey xs k).isSome=true
 ·rw[if_pos q,if_pos q];exact r.Pk k a
 ·rw[if_neg q,if_neg q];calc Paired.snoc r ⟨rfl,c,a⟩
theorem KT.keeps{bg:List (List Key×V)}(r:KT H bg xs)(c:∀b a,H b=some (.tup a)->H' b=some (.tup a)):KT H' bg xs:=
 Paired.OB r λ_ _ z=>⟨z.1,c _ _ z.2.1,z.2.2⟩
section
variable {P:Program}{w:World}{H:Hp}{h:Heap}{a:Addr}
theorem MO{u:HO}(ok:lY P w H h)(e:Rd H a u):cQ P w H h a u:=e.ok ok
theorem Bw(b:lY P w H h)(e:Rd H a (.dK bg)):bg.length<=sizeLine/\(a==sysModules)=false/\∃vs,KV bg vs/\h.DictOf (dJ P w) a vs:=
 show cQ P w H h a (.dK bg) from MO b e
theorem MP(b:lY P w H h)(e:H a=some (.dK bg)):bg.length<=sizeLine/\(a==sysModules)=false/\∃vs,KV bg vs/\h.DictOf (dJ P w) a vs:=Bw b (.inl e)
theorem vM{b:List Key}(c:lY P w H h)(e:H a=some (.tup (b.map kV))):(tupleKind (dJ P w)).is h b a:=by
 obtain⟨_,d,r,o,f,g,n,i⟩:=(show cQ P w H h a (.tup (b.map kV)) from c a _ e)
 calc⟨o,d.toArray,n,f,g,i,by simpa using uA r⟩
theorem Bx{bg:List (List Key×V)}(d:lY P w H h)(e:Rd H a (.dT bg)):bg.length<=sizeLine/\(a==sysModules)=false/\
  ∃xs,KT H bg xs/\h.DictOfH (tupleKind (dJ P w)) a xs:=by
 obtain⟨z,y,xs,r,o,g,i,j,k,n,p,s⟩:=(show cQ P w H h a (.dT bg) from MO d e)
 calc⟨z,y,xs,r,o,g,i,j,k,n,p,λx b=>?_,s⟩;have c:∀{l:List (List Key×V)} {m:List (List Key×Addr×Value)},KT H l m->∀x∈m,(tupleKind (dJ P w)).is h x.1 x.2.1:=by
  intro l m q;induction q with
  |nil=>intro x b;calc nomatch b
  | @cons p q g i f t u=>
   intro x b;rcases List.mem_cons.mp b with e|b
   ·subst e;exact vM d (by rw[<-f.1];calc f.2.1)
   ·exact u x b
 calc c r x b
theorem T4{bg:List (List Key×V)}(b:lY P w H h)(e:H a=some (.dT bg)):bg.length<=sizeLine/\(a==sysModules)=false/\
  ∃xs,KT H bg xs/\h.DictOfH (tupleKind (dJ P w)) a xs:=Bx b (.inl e)
end
def jN(H:Hp)(a:Addr)(y:V)(r:Option V):Prop:=
 (∃bg k,Rd H a (.dK bg)/\y=kV k/\r=gT bg k)\/∃bg k b,Rd H a (.dT bg)/\y=.ref b/\H b=some (.tup (k.map kV))/\r=gT bg k
def tH(H:Hp)(a:Addr)(y v:V)(H':Hp):Prop:=
 (∃bg k,H a=some (.dK bg)/\y=kV k/\bg.length<sizeLine/\H'=upd H a (.dK (putK bg k v)))\/
 ∃bg k b,H a=some (.dT bg)/\y=.ref b/\H b=some (.tup (k.map kV))/\bg.length<sizeLine/\H'=upd H a (.dT (putK bg k v))
theorem jN.k{k:Key}(e:H a=some (.dK bg)):jN H a (kV k) (gT bg k):=.inl ⟨bg,k,.inl e,rfl,rfl⟩
theorem tH.k{k:Key}{v:V}(e:H a=some (.dK bg))(b:bg.length<sizeLine):tH H a (kV k) v (upd H a (.dK (putK bg k v))):=.inl ⟨bg,k,e,rfl,b,rfl⟩
section
variable {X:Cx}{pins:List (Addr×Obj)}{σ:St}{H:Hp}{s:Shared}{a:Addr}{y v:V}{u r:Value}{o:Option V}{A:Around}{E:Value->Shared->Prop}
theorem Inv.big(I:Inv X pins σ H s):sysModules<s.heap.objs.size:=by
 have h:mainGlobals<s.heap.objs.size:=(I.mod.glob.keeps I.bk).lt;calc Nat.lt_trans (by decide) h
theorem Dn(n:A.units+1<cLine)(I:Inv X pins σ H s)(g:jN H a y (some v))(m:RelV y u)(h:∀w' s',Inv X pins σ H s'->RelV v w'->Q w' s'):
  wpAny (model X.prog X.w) A (getItem (.ref a) u) Q E s:=by
 rcases g with⟨bg,k,e,d,l⟩|⟨bg,k,b,e,d,q,l⟩
 ·subst d;obtain⟨z,p,g,c,f⟩:=Bw I.aZ e;obtain⟨w',i,j⟩:=jZ.some_of (v:=v) (o:=valueAt g k) (by rw[l];calc c.val k);exact wpAny_getItem_of (xy m) f.mapOf i (h w' _ (I.tok _) j)
 ·subst d
  cases(show u=Value.ref b from m);obtain⟨z,p,xs,c,f⟩:=Bx I.aZ e;obtain⟨w',i,j⟩:=jZ.some_of (v:=v) (o:=(atKey xs k).map (·.2)) (by rw[l];calc c.val k);obtain⟨p,b,d⟩:=Option.map_eq_some_iff.mp i;calc wpAny_getItem_heap (tupleKind_room_in1 n) (vM I.aZ q) f b ?_;rw[d];calc h w' _ (I.tok _) j
theorem KP(m:A.units+1<cLine)(I:Inv X pins σ H s)(g:jN H a y o)(j:RelV y u)(h:∀s',Inv X pins σ H s'->Q (.bool (!o.isSome)) s'):
  wpAny (model X.prog X.w) A (compareOp .NotIn u (.ref a)) Q E s:=by
 rcases g with⟨bg,k,e,d,l⟩|⟨bg,k,b,e,d,n,l⟩
 ·subst d;obtain⟨z,f,g,c,i⟩:=Bw I.aZ e;calc wpAny_notIn_of (xy j) f i.mapOf ?_;rw[<-(c.val k).oZ,<-l];exact h _ (I.tok _)
 ·subst d
  cases(show u=Value.ref b from j);obtain⟨z,f,xs,c,i⟩:=Bx I.aZ e;calc wpAny_notIn_heap (tupleKind_room_in1 m) (vM I.aZ n) f i ?_;have q:=(c.val k).oZ;rw[Option.isSome_map]at q;rw[<-q,<-l];calc h _ (I.tok _)
theorem vN{h':Heap}{t':Nat}{b:HO}(I:Inv X pins σ H s)(d:Th (H a))(f:Heap.SameBut a s.heap h')(g:∃q,h'.get? a=some q)(c:cQ X.prog X.w (upd H a b) h' a b):
  Inv X pins σ (upd H a b) {s with heap:=h',toks:=t'}:=
 I.write (x:=a) (e:=a) d (.inl rfl) (λb q h z=>(f.2 b h).trans z) g c
theorem F3{P:Program}{w:World}{h':Heap}{vs:List (Key×Value)}(z:bg.length<=sizeLine)(c:(a==sysModules)=false)(b:KV bg vs)(d:h'.DictOf (dJ P w) a vs):
  cQ P w H' h' a (.dK bg):=⟨z,c,vs,b,d⟩
theorem Dp{Q:Unit->Shared->Prop}(G:A.units+1<cLine)(I:Inv X pins σ H s)(g:tH H a y v H')(B:RelV y u)(C:RelV v r)(h:∀s',Inv X pins σ H' s'->Q () s'):
  wpAny (model X.prog X.w) A (setItem (.ref a) u r) Q E s:=by
 rcases g with⟨bg,k,e,c,l,j⟩|⟨bg,k,b,e,c,D,l,j⟩
 ·subst c j;obtain⟨z,m,g,d,n⟩:=MP I.aZ e;have o:g.length<=sizeLine:=by rw[<-d.length];exact z
  have p:(putK bg k v).length<=sizeLine:=by have:=kG bg k v;lia
  calc wpAny_setItem_pairs (hsz:=o) (xy B) n λF f x=>h _ ?_;have g:∃q,F.get? a=some q:=let ⟨q,_,_,i,_⟩:=f;⟨q,i⟩
  exact vN I (by rw[e];calc aaF) x g (F3 p m (d.put k C) f)
 ·subst c j
  cases(show u=Value.ref b from B);obtain⟨z,m,xs,d,n⟩:=T4 I.aZ e;have o:xs.length<=sizeLine:=by rw[<-Paired.length d];exact z
  have p:(putK bg k v).length<=sizeLine:=by have:=kG bg k v;lia
  calc wpAny_setItem_heap (hsz:=o) (tupleKind_room_in1 G) (vM I.aZ D) n λF f x=>h _ ?_;obtain⟨q,g,j,i,l,n,o,_,t⟩:=f;calc vN I (by rw[e];calc aaF) x ⟨q,i⟩ ⟨p,m,_,(d.put k D C).keeps λc h b=>?_,q,g,j,i,l,n,o,t⟩;rw[az (Tg b e (λz=>nomatch z))];calc b
end
section
variable {X:Cx}{pins:List (Addr×Obj)}{σ:St}{H:Hp}{s:Shared}{a:Addr}{bg:List (Key×V)}{k:Key}{u:Value}{A:Around}{E:Value->Shared->Prop}
end
theorem xA{pins:List (Addr×Obj)}{σ:St}{s:Shared}{y:V}{o:Option V}(I:Inv X pins σ H s)(g:jN H a y o):s.TypeIs (.ref a) "dict":=by
 rcases g with⟨bg,k,e,_,_⟩|⟨bg,k,b,e,_,_,_⟩
 ·obtain⟨_,_,c,_,b⟩:=Bw I.aZ e;exact b.typeIs
 ·obtain⟨_,_,xs,_,b⟩:=Bx I.aZ e;calc b.typeIs
def MQ(b c:TE):TE:=λσ H Q=>b σ H λx d=>c σ d λy b=>∃a v,x=.ref a/\jN b a y (some v)/\Q v b
def T5(b c:TE):TE:=λσ H Q=>b σ H λy d=>c σ d λx b=>∃a o,x=.ref a/\jN b a y o/\Q (.bl o.isSome) b
def vO(b c:TE):TE:=λσ H Q=>b σ H λy d=>c σ d λx b=>∃a o,x=.ref a/\jN b a y o/\Q (.bl (!o.isSome)) b
def F4(b c d:TE):TS:=λD σ H=>d σ H λv e=>b σ e λx d=>c σ d λy e=>∃a b,x=.ref a/\tH e a y v b/\D.nx σ b
section
variable {X:Cx}{o i e value:Expr}{pos pos' O2:Pos}{td ty tv:TE}
theorem Dq(b:X.A.units+1<cLine)(c:PE X i ty)(d:PE X o td):PC X .NotIn i o (vO ty td):=by
 walk_at "xc";refine cX (c pins s σ H _ I h) λw e ⟨y,f,j,k,l⟩=>cX (d pins e σ f _ j l) λu c m=>?_;nofun;obtain⟨x,n,p,q,a,r,t,g,v⟩:=m;ac_rfl;subst t;obtain rfl:u=Value.ref a:=q;exact KP b p g k λd c=>⟨.bl (!r.isSome),n,c,rfl,v⟩
theorem lM(b:X.A.units+1<cLine)(c:PE X o td)(d:PE X i ty)(e:PE X value tv)(f:swapsWith value (some (.Subscript o i pos')) pos.line X.env=pure false):
  PS X (.Assign [.Subscript o i pos'] value pos) (F4 td ty tv):=by
 walk_at "xd";refine wpAny_Assign_Subscript (cX (e pins s σ H _ I h) λr j ⟨v,k,l,m,n⟩=>cX (c pins j σ k _ l n) λu e ⟨x,p,q,t,r⟩=>cX (d pins e σ p _ q r) λc j w=>?_) f;nofun;obtain⟨y,c,z,B,a,C,E,g,F⟩:=w;ac_rfl;subst E;obtain rfl:u=Value.ref a:=t;exact Dp b z g B m λd c=>⟨σ,C,c,F⟩
end
theorem xB{P:Program}{w:World}(h:Heap)(a:sysModules<h.objs.size):cQ P w H (h.push {cls:=.type "dict",data:=.dict #[]}) h.objs.size (.dK []):=
 ⟨aal _,beq_eq_false_iff_ne.mpr (Ne.symm (Y' a)),[],.nil,Heap.DictOf.new h⟩
def zP:TE:=λ_ H Q=>∀p,H p=none->Q (.ref p) (upd H p (.dK []))
section
variable {X:Cx}{pos:Pos}
theorem F5:PE X (.Dict [] [] pos) zP:=.mk λb s σ H Q I h=>
 wpAny_Dict_empty ⟨.ref s.heap.objs.size,_,I.laid (a:=s.heap.objs.size) (o:=.dK []) (t':=s.toks) (λ_ _ q=>J' _ q) (K' _) (xB s.heap I.big),rfl,h _ (I.aZ.fresh (K' _))⟩
end
def o7:List (TE×TE)->St->Hp->(List (V×V)->Hp->Prop)->Prop
 | [],_,H,Q=>Q [] H
 |(a,b)::r,σ,H,Q=>a σ H λx c=>b σ c λy a=>o7 r σ a λb c=>Q ((x,y)::b) c
abbrev VV:List (V×V)->List (Value×Value)->Prop:=Paired λp q=>RelV p.1 q.1/\RelV p.2 q.2
def X2(X:Cx)(pos:Pos)(b:List (Option Expr))(a:List Expr)(zj:List (TE×TE)):Prop:=
 ∀(pins:List (Addr×Obj)) (s:Shared) (σ:St) (H:Hp) (Q:List (V×V)->Hp->Prop),Inv X pins σ H s->o7 zj σ H Q->
  wpAny (model X.prog X.w) X.A (evalPairs (pairTrees b a X.env pos)) (λvs s'=>∃a H',Inv X pins σ H' s'/\VV a vs/\Q a H') X.xe s
theorem KR:X2 X pos [] [] []:=λa s σ H Q I h=>pairTrees_nil_walk ⟨[],H,I,.nil,h⟩
theorem rJ{k v:Expr}{a:List (Option Expr)}{vs:List Expr}{b c:TE}(d:PE X k b)(e:PE X v c)(f:X2 X pos a vs zj):
  X2 X pos (some k::a) (v::vs) ((b,c)::zj):=λa s σ H Q I h=>
 pairTrees_cons_walk (cX (d a s σ H _ I h) λu b ⟨x,c,g,i,j⟩=>cX (e a b σ c _ g j) λn d ⟨y,h,k,l,m⟩=>
  cX (f a d σ h _ k m) λn o ⟨c,e,g,b,j⟩=>⟨(x,y)::c,e,g,.cons ⟨i,l⟩ b,j⟩)
def ml(bg a:List (Key×V)):List (Key×V):=a.foldl (λb c=>putK b c.1 c.2) bg
theorem KV.merge:∀{a:List (Key×V)}{b:List (Key×Value)}{bg:List (Key×V)}{vs:List (Key×Value)},KV a b->KV bg vs->KV (ml bg a) (merged vs b):=by
 intro a b bg vs r;unfold KV at r;induction r generalizing bg vs with
 |nil=>intro q;calc q
 | @cons p q b c h t a=>
  intro b;have e:KV (putK bg p.1 p.2) (stored vs q.1 q.2):=by
   have:=b.put p.1 h.2;rw[<-h.1];exact this
  calc a e
theorem l9:∀(a bg:List (Key×V)),(ml bg a).length<=bg.length+a.length
 | [],bg=>by show bg.length<=bg.length+0;lia
 |p::r,bg=>by
  have a:=l9 r (putK bg p.1 p.2);have a:=kG bg p.1 p.2;show(ml (putK bg p.1 p.2) r).length<=_;rw[List.length_cons];lia
theorem rK{P:Program}{w:World}:∀{bg:List (Key×V)}{b:List (Value×Value)},VV (bg.map λc=>(kV c.1,c.2)) b->∃d,Carries (dJ P w) b d/\KV bg d
 | [],_,r=>by rw[List.map_nil]at r;cases r;calc⟨[],aaF,.nil⟩
 |p::bg,_,r=>by
  rw[List.map_cons]at r
  cases r with
  | @cons a b c e h t=>
   obtain⟨d,c,q⟩:=rK (P:=P) (w:=w) t;obtain⟨f,e⟩:=b;calc⟨(p.1,e)::d,⟨xy h.1,rfl,c⟩,.cons ⟨rfl,h.2⟩ q⟩
def Bz(zj:List (TE×TE)):TE:=λσ H Q=>∀p,H p=none->o7 zj σ (upd H p (.dK [])) λc a=>a p=some (.dK [])/\∃bg:List (Key×V),c=bg.map (λb=>(kV b.1,b.2))/\bg.length<=15/\Q (.ref p) (upd a p (.dK (ml [] bg)))
theorem KS{b:List (Option Expr)}{d:List Expr}(h:X2 X pos b d zj)(k:b.all (·.isSome)=true)(l:b.length=d.length)(m:b≠[])
  (f:b.length<=15):PE X (.Dict b d pos) (Bz zj):=by
 refine⟨?_⟩;intro b s σ H Q I q;have d:=I.aZ.fresh (K' s.heap.objs.size);have n:=I.laid (a:=s.heap.objs.size) (o:=.dK []) (h':=s.heap.push {cls:=.type "dict",data:=.dict #[]}) (t':=s.toks) (λ_ _ q=>J' _ q) (K' _) (xB s.heap I.big);refine wpAny_Dict_walk (knd:=dJ X.prog X.w) k l m f (cX (h b _ σ _ _ n (q _ d)) λz B p=>?_);nofun;obtain⟨b,d,j,g,e,bg,r,f,t⟩:=p;ac_rfl;subst r;obtain⟨u,c,v⟩:=rK (P:=X.prog) (w:=X.w) g;obtain⟨z,x,b,y,A⟩:=MP j.aZ e
 cases y;calc⟨u,c,A,λi b d=>⟨.ref s.heap.objs.size,_,?_,rfl,t⟩⟩;have c:(ml [] bg).length<=sizeLine:=by
  have f:=l9 bg [];rw[List.length_nil]at f;rw[sizeLine_eq];lia
 have f:∃q,i.get? s.heap.objs.size=some q:=let ⟨q,_,_,g,_⟩:=b;⟨q,g⟩
 calc vN j (by rw[e];calc aaF) d f (F3 c x (v.merge .nil) b)
structure M1(X:Cx)(o:Expr)(m:Str)(apos:Pos)(e:Expr)(iu:Pos):Prop where
 base:attributeBase o m X.env (eval o X.env)=eval o X.env
 MR:((backTo iu (starEach [e] X.env)).all (λx=> !x.1) && (backToKw iu (keywordEach [] X.env)).all (λx=>x.1.isSome)
  && decide (([e]:List Expr).length + ([]:List Keyword).length + (if ([]:List Keyword).isEmpty then 0 else 1) < 30))=true
 line:(apos.endLine==iu.line)=true
 trees:backTo iu (starEach [e] X.env)=[(false,eval e X.env)]
structure M2(X:Cx)(o:Expr)(m:Str)(apos:Pos)(e f:Expr)(iu:Pos):Prop where
 base:attributeBase o m X.env (eval o X.env)=eval o X.env
 MR:((backTo iu (starEach [e,f] X.env)).all (λx=> !x.1) && (backToKw iu (keywordEach [] X.env)).all (λx=>x.1.isSome)
  && decide (([e,f]:List Expr).length + ([]:List Keyword).length + (if ([]:List Keyword).isEmpty then 0 else 1) < 30))=true
 line:(apos.endLine==iu.line)=true
 trees:backTo iu (starEach [e,f] X.env)=[(false,eval e X.env),(false,eval f X.env)]
section
variable {X:Cx}{pins:List (Addr×Obj)}{σ:St}{H:Hp}{s:Shared}{a:Addr}{y d:V}{u r:Value}{o:Option V}{A:Around}{E:Value->Shared->Prop}
end
section
variable {X:Cx}{pins:List (Addr×Obj)}{σ:St}{H:Hp}{s:Shared}{a:Addr}{y:V}{u:Value}{A:Around}{E:Value->Shared->Prop}
end
end
end L2
namespace Att
open PySem PySem.W PySem.Calls PyProof.Rows
theorem qD{P:Params}{h:Heap}:∀(c:List Int) (vs:List Value),WellAll P h vs (c.map WData.int)->IntsAre vs c:=by
 intro c;induction c with
 |nil=>
  intro vs w;rw[List.map_nil]at w
  cases w;calc .nil
 |cons n c d=>
  intro vs w;rw[List.map_cons]at w
  cases w with
  |cons a b=>
   cases a;calc .cons _ _ (d _ b)
theorem Dr{l:OpenLaw}{n:Nat}(j:l.most=some n){P:Params}{h:Heap}{args:List WData}{c:List Value}
  (g:l.row.toRowW.claim.pre args=true) (k:WellAll P h c args):
  ∃a vs b,c=[Value.ref a]/\args=[WData.list (b.map WData.int)]/\h.get? a=some {cls:=.type "list",data:=.seq vs.toArray}/\IntsAre vs b/\b.length<=n:=by
 have f:WShape.hasAll [] args [.list .int]=true:=(pre_splitW g).1;have i:l.pre.holds [] {args:=args}=true:=(pre_splitW g).2;obtain⟨d,r,rfl,m,o⟩:=hasAllW_cons f;obtain rfl:=hasAllW_nil o;obtain⟨q,rfl,p⟩:=hasW_list m;obtain⟨b,rfl⟩:=items_int p;have e:b.length<=n:=by
  unfold OpenLaw.pre at i;have a:(WTm.not (.lt (.lit (.int (n:Int))) (.len (.arg 0)))).holds [] {args:=[.list (b.map .int)]}=true:=by
   have a:=(holds_andW i).1;rw[j]at a;exact a
  have c:=condW_of a (w_not (w_lt w_lit (w_len_list (w_arg rfl))));rw[List.length_map]at c;calc Nat.le_of_not_lt λq=>?_;have a:(n:Int)<((b.length:Nat):Int):=by lia
  first
   |(rw[decide_eq_true a]at c;calc absurd c (by decide))
   |(simp at c;lia)
 cases k with
 |cons s t=>
  cases t
  cases s with
  |list a c=>calc⟨_,_,b,rfl,rfl,a,qD b _ c,e⟩
theorem Ds(l:OpenLaw)(args:List WData):l.row.toRowW.claim.post args (.bool true) args=true:=
 postW_of (r:=l.row.toRowW) (X:=(true == true))
  (show WShape.has [] (.bool true) .bool=true by first|rfl|decide|simp[WShape.has,WShape.arms,WShape.armsAll])
  (show(WTm.eq .res (.lit (.bool true))).value [] {args:=args,res:=some (.bool true),after:=args}=some (.bool (true==true)) from w_eq_bool (w_res rfl) w_lit) rfl
theorem xC{l:OpenLaw}{n:Nat}{q:Program}{c:List Str}{p:(Str->Option Value)->Heap->Prop}{s:World->Heap->Prop}{d:DefRec}
  (x:l.most=some n) (y:d.params.defaults=[])
  (call:∀(w:World) (s₀ b:Shared) (h k:Str->Option Value) (g:Addr) (o:Obj) (m i e:Value) (a:Addr) (vs:List Value) (j:List Int),
   Ground q c [] p w s₀ h k b.heap->s w b.heap->
   b.heap.get? g=some o->o.data=.func (docDef d.name d.params d.body d.scope m i e)->b.heap.CodeRec i d.name->h d.name=some (.ref g)->
   b.heap.get? a=some {cls:=.type "list",data:=.seq vs.toArray}->IntsAre vs j->j.length<=n->b.gens=#[]->
   codeAny (model l.prog w) callerA (.call (.ref g) ⟨[.ref a],[]⟩) (λr s'=>r=.ok (.ret (.bool true))/\OldK b.heap s'.heap/\s'.os=b.os/\AllBare s'.gens) b):
  WalkO q c p s l.row.toRowW d [] (λf vs=>PySem.call f vs):=by
 intro w s₀ b h k G Y g o m i e z kV A B C t D E u v L F H I J M;obtain rfl:z=.none:=Dflts.none t y;obtain rfl:kV=.none:=Dflts.noKw t;obtain⟨a,vs,j,rfl,rfl,f,c,d⟩:=Dr x F J;calc enter_call (codeAny_mono (call w s₀ b h k g o m i e a vs j G Y A (fd_plain B) C D f c d E) λr s' K=>?_);obtain⟨rfl,a,b,c⟩:=K;calc⟨.inl ⟨.bool true,.bool true,[],rfl,λ_=>rfl,.bool true,Ds l _,λ_=>⟨List.Pairwise.nil,λ_ d=>(nomatch d)⟩⟩,a,b,c⟩
section
variable {prog:Program}{w:World}{A:Around}{E:Value->Shared->Prop}{s:Shared}{K:Frag}
end
end Att
namespace L2
open PySem PySem.Spec PyProof.Rows
section
theorem uC:∀{vs:List Value}{a:List Int},IntsAre vs a->Vals (a.map V.int) vs
 |_,_,.nil=>.nil
 |_,_,.cons n t h=>.cons ⟨t,rfl⟩ (uC h)
def Pn(H:Hp):Prop:=∀b,H b=none\/∃o xs,H b=some (.zg o (.lst xs))
theorem F6{P:Program}{w:World}{K:W.Frag}{j L:Str->Option Value}{CX:FI}{k:Nat}{m a:Addr}{n:FuncData}{x:Str}{sp:Sp}{c:Shared}{vs:List Value}{l:List Int}
  (R:K.In c.heap) (p:c.heap.Ns mainGlobals j) (g:c.heap.Ns builtinsNs L) (M:∀x:Str,x≠"__name__"->L x=bootBuiltins x) (ZM:c.heap.NoLimit) (hg:c.gens=#[])
  (I:c.heap.get? a=some {cls:=.type "list",data:=.seq vs.toArray}) (S:IntsAre vs l) (T:l.length<=sizeLine) (hr:d9 k callerA)
  (F:∀base:Heap,K.In base->base.Ns mainGlobals j->jJ P w K j base CX k m n [x] sp) (T8:∀(s:Shared) (u:Value),BindsTo s n ⟨[u],[]⟩ [(x,u)])
  (wV:∀H:Hp,Pn H->aU K H a (l.map V.int)->sp [.ref a] H (λv _=>v=.bl true) λ_ _ _=>False)
  (ZN:∀H e s',CX [] H c (λ_ _ _=>False) e s'->False):
  codeAny (model P w) callerA (.call (.ref m) ⟨[.ref a],[]⟩) (λr s'=>r=.ok (.ret (.bool true))/\OldK c.heap s'.heap/\s'.os=c.os/\AllBare s'.gens) c:=by
 have U:=uC S;have ZO:=S.length;have i:∀H:Hp,Pn H->aU K H a (l.map V.int)->lY P w H c.heap->(∀b,H b≠none->b=a)->(H a≠none->K.lookup a=none)->
   codeAny (model P w) callerA (.call (.ref m) ⟨[.ref a],[]⟩) (λr s'=>r=.ok (.ret (.bool true))/\OldK c.heap s'.heap/\s'.os=c.os/\AllBare s'.gens) c:=by
  intro H X hS Y Z hK;have BA:∀{b:Addr} {o:Obj},c.heap.get? b=some o->H b=none->(vt c.heap H).get? b=some o:=λe n=>Fc e n;have TJ:∀{b:Addr} {o:Obj} {t:Array DictEntry} {y:Nat},c.heap.get? b=some o->o.data=.dict t y->H b=none:=λ{b o t y} e d=>by
   cases q:H b with
   |none=>rfl
   |some u=>
    have N:b=a:=Z b (by rw[q];simp);subst N;rw[I]at e;cases e;have d':Data.seq vs.toArray _=Data.dict t y:=d
    cases d'
  have J:∀{b:Addr} {m:Str->Option Value},c.heap.Ns b m->(vt c.heap H).Ns b m:=λ{b m} ⟨o,t,y,e,d,r⟩=>⟨o,t,y,BA e (TJ e d),d,r⟩
  have B:K.In (vt c.heap H):=λb o e=>BA (R b o e) (by
   cases q:H b with
   |none=>rfl
   |some u=>
    have N:b=a:=Z b (by rw[q];simp);subst N;rw[hK (by rw[q];simp)] at e;cases e)
  have d:Mod K j (vt c.heap H):=⟨B,J p,⟨L,J g,M⟩,let ⟨k,m,n⟩:=ZM;⟨k,J m,n⟩⟩
  have k:vE P w K j (vt c.heap H) callerA [] c H:=⟨rfl,d,λb o e=>Kk e,Nat.le_of_eq (CU _ _),trivial,λb g=>absurd (show b∈([]:List Addr) from g) (by simp),Y,.of_eq hg⟩
  refine codeAny_mono ((F _ B (J p)).run callerA [] c H ⟨[.ref a],[]⟩ [.ref a] [.ref a] _ _ hr k (T8 c (.ref a)) (.cons rfl .nil) (wV H X hS)) λr s' h=>?_
  cases r with
  |error e=>calc(ZN H e s' h).elim
  |ok fl=>
   cases fl with
   |next=>calc aak h
   |brk=>calc aak h
   |cont=>calc aak h
   |ret u=>
    obtain⟨v,c,os,C,un,ZP,r',q⟩:=h;have q':v=.bl true:=q;subst q';obtain rfl:u=Value.bool true:=r';refine⟨rfl,OldK.of_keep λb o e=>?_,os,C⟩
    cases q:H b with
    |none=>calc un.keep b o e q (by intro z;calc absurd (show b∈([]:List Addr) from z) (by simp)) (by simp)
    |some u=>
     rcases X b with z|⟨ob,c,z⟩
     ·rw[q]at z;cases z
     ·have z2:=un.oQ b ob _ z;obtain⟨e1,_⟩:=Y b _ z;obtain⟨e2,_⟩:=ZP b _ z2;rw[e]at e1;cases e1;exact e2
 cases O:K.lookup a with
 |some o=>
  have e:=R a o O;rw[I]at e
  cases e;calc i (λ_=>none) (λ_=>.inl rfl) (.inr ⟨_,vs.toArray,_,O,rfl,rfl,rfl,by rw[List.size_toArray,ZO];calc T,by simpa using U⟩) (λb u z=>by have G:(none:Option HO)=some u:=z;cases G) (λb z=>absurd rfl z) λz=>absurd rfl z
 |none=>
  refine i (λb=>if b=a then some (.zg {cls:=.type "list",data:=.seq vs.toArray} (.lst (l.map V.int))) else none) (λb=>?_) (.inl (.inr ⟨{cls:=.type "list",data:=.seq vs.toArray},if_pos rfl⟩)) (λb u z=>?_) (λb z=>?_) λ_=>O
  ·by_cases g:b=a
   ·exact .inr ⟨_,_,if_pos g⟩
   ·exact .inl (if_neg g)
  ·by_cases g:b=a
   ·have G:=(if_pos g).symm.trans z
    cases G;subst g;exact⟨I,by rw[List.length_map];calc T,vs,_,U,I⟩
   ·have G:=(if_neg g).symm.trans z
    cases G
  ·by_cases g:b=a
   ·exact g
   ·calc absurd (if_neg g) z
end
section
theorem KW{l:W.OpenLaw}{n k:Nat}{q:Program}{c:List Str}{p:(Str->Option Value)->Heap->Prop}{o:World->Heap->Prop}{d:DefRec}{K:Params->W.Frag}{CX:World->FI}{sp:World->Sp}{x:Str}
  (r:l.most=some n) (t:n<=sizeLine) (y:d.params.defaults=[]) (z:d9 k callerA)
  (A:∀(w:World) (h:Heap),o w h->(K w.params).In h)
  (F:∀(w:World) (i:Str->Option Value) (j:Addr) (h:Heap),(K w.params).In h->h.Ns mainGlobals i->i d.name=some (.ref j)->
   ∃m:FuncData,(∀(s:Shared) (u:Value),BindsTo s m ⟨[u],[]⟩ [(x,u)])/\
    ∀base:Heap,(K w.params).In base->base.Ns mainGlobals i->jJ l.prog w (K w.params) i base (CX w) k j m [x] (sp w))
  (u:∀(w:World) (H:Hp) (a:Addr) (h:List Int),h.length<=n->Pn H->aU (K w.params) H a (h.map V.int)->sp w [.ref a] H (λv _=>v=.bl true) λ_ _ _=>False)
  (n:∀(w:World) (H:Hp) (s:Shared) (e:Value) (s':Shared),CX w [] H s (λ_ _ _=>False) e s'->False):
  W.WalkO q c p o l.row.toRowW d [] (λf vs=>PySem.call f vs):=by
 calc Att.xC r y λw k f i v j o x B l a vs h G Y C D E p q d c s=>?_;have k:=A w _ Y;obtain⟨m,l,o⟩:=F w i j _ k G.T.g p;calc F6 k G.T.g G.T.b G.T.builtins G.T.nolimit s q d (aap c t) z o l (λH m r=>u w H a h c m r) λH e s'=>n w H f e s'
end
section
variable {f:Addr}{st:Stmt}{qual:Str}
def eR(s:Stmt):Arguments:=match s with
 | .FunctionDef _ a _ _ _ _ _ _ _ _=>a
 |_=>{posonlyargs:=[],args:=[],vararg:=none,kwonlyargs:=[],kw_defaults:=[],kwarg:=none,defaults:=[]}
def cG(s:Stmt):List Stmt:=match s with
 | .FunctionDef _ _ b _ _ _ _ _ _ _=>b
 |_=>[]
def ay(s:Stmt):Scope:=match s with
 | .FunctionDef _ _ _ _ _ _ a _ _ _=>a
 |_=>{kind:=.function,names:=[],isGenerator:=false,isCoroutine:=false}
abbrev wW:FI:=λ_ _ _ _ _ _=>False
abbrev E0:XK:=λ_ _ _=>False
theorem BB{X:Cx}:Passes wW X E0:=λ_ _ _ _ _ _ _ h=>h.elim
structure EJ(K:W.Frag)(x qual:Str)(st:Stmt)(f:Addr)(fd:FuncData):Prop where
 ex:∃(oc:Value) (od:Option Addr) (kV doc pm:Value) (an:Option Addr) (dI ct:Value) (EH:Array (Option Value)),
  fd=W.fnOf x qual (eR st) (cG st) (ay st) .none kV doc pm an dI ct/\K.lookup f=some ⟨oc,od,.func fd,EH⟩/\W.codeIn K dI qual=true
 kp:W.keepIn K (.ref f)=true
section
variable {P:Program}{w:World}{K:W.Frag}{mg:Str->Option Value}{base:Heap}
theorem EJ.ok{x:Str}{d:FuncData}{N b:List Str}{k:Nat}{sp:Sp}(F:EJ K x qual st f d)(S:aE N b (ay st))(c:∀vs H Q E,sp vs H Q E->vs.length=b.length)
  (e:∀(a:Value) (A:Around) (outer:List Env) (s:Shared) (H:Hp) (vs:List V) (Q:VK) (E:XK),d9 k (A.deeper (envOfC qual (ay st) s.heap.objs.size f a))->sp vs H Q E->
   ∃t,qW (jK wW P w K mg base N qual (ay st) f a A outer s H E).vC (cG st) t/\t {nx:=λ_ g=>Q .bM g,rt:=Q} (start N vs) H):jJ P w K mg base wW (k + 1) f d b sp:=by
 obtain⟨i,j,kV,h,l,m,a,n,o,rfl,b,d⟩:=F.ex;calc MM b d S c λA outer s H vs Q E g i=>?_;obtain⟨t,h,q⟩:=e a A outer s H vs Q E g i;calc⟨t,h.vC,q⟩
theorem EJ.binds{x:Str}{g:FuncData}{b:List Str}(F:EJ K x qual st f g)
  (h:∀(kV a c:Value) (d:Option Addr) (e ct:Value) (us:List Value),us.length=b.length->bindArgs (W.fnOf x qual (eR st) (cG st) (ay st) .none kV a c d e ct) ⟨us,[]⟩=pure (b.zip us)):Binds K g b []:=by
 obtain⟨i,j,kV,a,c,d,e,ct,k,rfl,b,g⟩:=F.ex;calc .all (h kV a c d e ct)
theorem mn{x:Str}{g:Value}{od d:Option Addr}{h:Array (Option Value)}{kV a e b ct:Value}(l:K.lookup f=some ⟨g,od,.func (W.fnOf x qual (eR st) (cG st) (ay st) .none kV a e d b ct),h⟩)
  (c:W.codeIn K b qual=true) (k:W.keepIn K (.ref f)=true):EJ K x qual st f (W.fnOf x qual (eR st) (cG st) (ay st) .none kV a e d b ct):=⟨⟨g,od,kV,a,e,d,b,ct,h,rfl,l,c⟩,k⟩
end
theorem aH{n:Nat}(h:n<=1000):n<sizeLine:=Nat.lt_of_le_of_lt h (by decide)
section
variable {X:Cx}
theorem pv(i:Nat){x:Str}{pos:Pos}(a:X.N[i]?=some x:=by rfl)(b:Tj X.env.scope x:=by first|calc Or.inl rfl|calc Or.inr (Or.inl rfl)|calc Or.inr (Or.inr rfl))(c:(x==("__debug__":Str))=false:=by decide)
  (d:(x==("__classdict__":Str))=false:=by decide):PE X (.Name x pos) (Ff i):=Fg a b c d
end
def av(H a:Hp):Prop:=∀b o,H b=some o->a b=some o
theorem av.refl(H:Hp):av H H:=λ_ _ h=>h
theorem av.trans{H c d:Hp}(a:av H c)(b:av c d):av H d:=λc o h=>b c o (a c o h)
theorem av.free{H a:Hp}(e:av H a){l:Addr}(h:a l=Option.none):H l=Option.none:=by
 cases q:H l with
 |none=>rfl
 |some o=>
  rw[e l o q]at h
  cases h
theorem av.seq{K:W.Frag}{H b:Hp}{a:Addr}{xs:List V}(e:av H b)(h:aU K H a xs):aU K b a xs:=by
 rcases h with(h|⟨o,h⟩)|h
 ·exact .inl (.inl (e _ _ h))
 ·exact .inl (.inr ⟨o,e _ _ h⟩)
 ·calc .inr h
end
end L2
set_option maxHeartbeats 4000000
namespace L2
open PySem PySem.Spec PyProof.Rows
section
variable {X:Cx}{H H₂:Hp}{pins:List (Addr×Obj)}{σ:St}
def mq(env:Env):List (Str×NameKind)->List (Str×Addr)->List (Str×Addr)
 | [],cs=>cs
 |(n,k)::r,cs=>mq env r (if k == .free then(n,(env.cells.lookup n).getD 0)::cs else cs)
theorem xD{env:Env}{x:Str}{c:Addr}:∀{l:List (Str×NameKind)}{cs:List (Str×Addr)},(x,c)∈mq env l cs->(x,c)∈cs\/((x,NameKind.free)∈l/\c=(env.cells.lookup x).getD 0)
 | [],cs,h=>.inl h
 |(n,k)::r,cs,h=>by
  unfold mq at h;rcases xD h with a|⟨a,g⟩
  ·by_cases b:(k == NameKind.free)=true
   ·rw[if_pos b] at a;have i:k=.free:=by simpa using b
    rcases List.mem_cons.mp a with e|e
    ·have d:=congrArg Prod.fst e;have f:=congrArg Prod.snd e;simp only at d f;subst d i;exact .inr ⟨aaL,f⟩
    ·exact .inl e
   ·rw[if_neg b]at a;exact .inl a
  ·calc .inr ⟨aaE _ a,g⟩
theorem uD{env:Env}{p:Str×Addr}:∀{l:List (Str×NameKind)}{cs:List (Str×Addr)},p∈cs->p∈mq env l cs
 | [],_,h=>h
 |(n,k)::r,cs,h=>by
  unfold mq;calc uD ?_;split
  ·exact aaE _ h
  ·calc h
theorem rL{env:Env}{x:Str}:∀{l:List (Str×NameKind)}{cs:List (Str×Addr)},(x,NameKind.free)∈l->(x,(env.cells.lookup x).getD 0)∈mq env l cs
 | [],_,h=>by simp at h
 |(n,k)::r,cs,h=>by
  unfold mq;rcases List.mem_cons.mp h with e|e
  ·have a:=congrArg Prod.fst e;have b:=congrArg Prod.snd e;simp only at a b;subst a b;calc uD ?_;rw[if_pos (by simp)];exact aaL
  ·calc rL e
theorem fB{β:Type}:∀{l:List (Str×β)}{x:Str}{c:β},(x,c)∈l->∃d,l.lookup x=some d
 | [],_,_,h=>by simp at h
 |(n,b)::r,x,c,h=>by
  by_cases e:x=n
  ·subst e;exact⟨b,by simp⟩
  ·have a:(x == n)=false:=beq_eq_false_iff_ne.mpr e;rcases List.mem_cons.mp h with q | q
   ·exact absurd (congrArg Prod.fst q) e
   ·obtain⟨d,b⟩:=fB q;calc⟨d,by simp only[List.lookup_cons,a];calc b⟩
theorem ma{scope:Scope}{env:Env}(h:∀x∈scope.names,x.2=.free->∃c,env.cells.lookup x.1=some c):closureFor scope env=pure (mq env scope.names []):=by
 unfold closureFor;have b:∀(l:List (Str×NameKind)) (a:List (Str×Addr)),(∀x ∈ l,x.2=.free->∃c,env.cells.lookup x.1=some c)->
   ((forIn l a λ(x:Str×NameKind) (r:List (Str×Addr))=>if (x.2==NameKind.free)=true then do let y <-cellOf env x.1;pure (ForInStep.yield ((x.1,y)::r)) else pure (ForInStep.yield r)):Sem (List (Str×Addr)))=pure (mq env l a):=by
  intro l;induction l with
  |nil=>intro a _;rfl
  |cons p r f=>
   intro a d;obtain⟨n,k⟩:=p;rw[List.forIn_cons];dsimp only;by_cases a:(k==NameKind.free)=true
   ·obtain⟨c,g⟩:=d (n,k) aaL (by simpa using a);have e:cellOf env n=pure c:=by unfold cellOf;rw[g]
    rw[if_pos a,e,pure_bind,pure_bind];dsimp only;rw[f _ λx c=>d x (List.mem_cons_of_mem _ c)];show _=pure (mq env r _);rw[if_pos a,g];rfl
   ·rw[if_neg a,pure_bind];dsimp only;rw[f _ λx c=>d x (List.mem_cons_of_mem _ c)];show _=pure (mq env r _);rw[if_neg a]
 have:=b scope.names [] h;simp only at this ⊢;rw[this,pure_bind]
def BC(a:List Expr)(env:Env):Sem Bool:=forIn a true λc r=>if r=true then do let ok <-isTrue c env (eval c env);pure (ForInStep.yield ok) else pure (ForInStep.yield r)
def RV(X:Cx)(a:List Expr)(t:TT):Prop:=
 ∀(pins:List (Addr×Obj)) (s:Shared) (σ:St) (H:Hp) (Q:Bool->Hp->Prop),Inv X pins σ H s->t σ H Q->wpAny (model X.prog X.w) X.A (BC a X.env) (TP X pins σ Q) X.xe s
def iZ:TT:=λ_ H Q=>Q true H
theorem KY:RV X [] iZ:=λ_ _ _ H _ I h=>P' ⟨H,I,h⟩
theorem i3{c:Expr}{t:TT}(h:PT X c t):RV X [c] t:=λpins s σ H Q I a=>wpAny_tests_one (h pins s σ H Q I a)
section
variable {prog:Program}{w:World}{A:Around}{R:Result->Shared->Prop}{s:Shared}
theorem vP{o a e:Expr}{p:List Expr}{scope:Scope}{pos:Pos}{u q:Value}{env:Env}(I:Nat->Shared->Prop)
  (t:∀n s,I n s->wpAny (model prog w) A (pyNext u) (λr b=>match r with
   |none=>R (.ok .next) b
   | some v=>wpAny (model prog w) A (letOwnedTupleGo a u v) (λ_ f=>wpAny (model prog w) A (assign a env v) (λ_ g=>
     wpAny (model prog w) A (BC p env) (λok c=>
      if ok=true then wpAny (model prog w) A (eval o env) (λx i=>
       wpAny (model prog w) A (call (.builtin "list.append") [q,x]) (λ_ j=>∃m,m < n/\I m j) (λ_ _=>False) i) (λ_ _=>False) c
      else ∃m,m < n/\I m c) (λ_ _=>False) g) (λ_ _=>False) f) (λ_ _=>False) b) (λ_ _=>False) s)
  (n:Nat) (h:I n s):
  codeAny (model prog w) A (.compLoop (.ListComp o [⟨a,e,p,0⟩] scope pos) 0 u q env) R s:=by
 calc codeAny_loop rfl I (λn s m=>?_) n h;show wpAny _ A ((compTurn (.ListComp o [⟨a,e,p,0⟩] scope pos) 0 u q env).onRaise (λx=>do noteFrame x env;theTreesLotGoes x)) _ _ s;calc wpAny_noted ?_;rw[compTurn_list];refine j' (wpAny_standAt (j' (aas (t n s m) (λr b k=>?_) λ_ _ d=>d.elim)))
 cases r with
 |none=>calc P' k
 |some v=>
  calc j' (aas k (λ_ f a=>?_) λ_ _ d=>d.elim);refine j' (aas a (λ_ g b=>j' (aas b (λok c l=>?_) λ_ _ d=>d.elim)) λ_ _ d=>d.elim)
  cases ok with
  |false=>calc P' ⟨rfl,l⟩
  |true=>
   calc j' (j' (aas l (λx i a=>j' (aas a (λ_ j b=>P' (P' ⟨rfl,b⟩)) λ_ _ d=>d.elim)) λ_ _ d=>d.elim))
end
def Dt(N N':List Str)(ix:List (Option Nat))(scope:Scope):Bool:=
 N'.length==ix.length&&(N'.zip ix).all λp=>match p.2 with|none=>true|some j=>N[j]? == some p.1&&scope.names.lookup p.1==some .free
def vQ(ix:List (Option Nat))(σ:St):St:=ix.map λo=>match o with|none=>none|some j=>(σ[j]?).join
def freeOk(scope:Scope)(outer:Scope):Bool:=
 scope.names.all λx=>(x.2 != .cell)&&(x.2 != .free||(outer.names.lookup x.1==some .cell||outer.names.lookup x.1==some .free))&&(x.2 != .local||scope.names.lookup x.1==some .local)&&(x.2 != .free||scope.names.lookup x.1==some .free)
def T9(X:Cx)(scope:Scope)(C:Addr)(N':List Str)(a:Shared)(H₂:Hp)(b:List Addr):Cx:=
 {X with N:=N',s₀:=a,H₀:=H₂,env:=compEnvC scope (mq X.env scope.names []) C X.env,outer:=X.stack,stack:=X.stack,ex:=b,fn:=λ_=>false,pn:=[],xe:=λ_ _=>False}
theorem freeOk.at{scope outer:Scope}(h:freeOk scope outer=true){x:Str×NameKind}(e:x∈scope.names):x.2≠.cell/\(x.2=.free->outer.names.lookup x.1=some .cell\/outer.names.lookup x.1=some .free)/\(x.2=.local->scope.names.lookup x.1=some .local)/\(x.2=.free->scope.names.lookup x.1=some .free):=by
 have f:=List.all_eq_true.mp h x e;simp only[Bool.and_eq_true,Bool.or_eq_true,bne_iff_ne,ne_eq,beq_iff_eq]at f;obtain⟨⟨⟨a,b⟩,c⟩,d⟩:=f;calc⟨a,λe=>b.resolve_left λz=>z e,λe=>c.resolve_left λz=>z e,λe=>d.resolve_left λz=>z e⟩
theorem eY{scope:Scope}{env:Env}:∀{names:List (Str×NameKind)}{x:Str}{k:NameKind},
  (names.map λ(n,k)=>if (k==NameKind.free&&env.scope.kind == .function&&env.kindOf n==some .cell) then(n,NameKind.cell) else(n,k)).lookup x=some k->∃a,(x,a)∈names/\(k=a\/(k=.cell/\a=.free))
 | [],_,_,h=>by simp at h
 |(n,c)::r,x,k,h=>by
  rw[List.map_cons]at h;by_cases d:(c==NameKind.free&&env.scope.kind == .function&&env.kindOf n==some .cell)=true
  ·simp only[d,if_true] at h
   cases b:x==n with
   |true=>
    simp only[List.lookup_cons,b]at h;have e:x=n:=by simpa using b
    subst e;have g:c=.free:=by
     simp only[Bool.and_eq_true,beq_iff_eq]at d;exact d.1.1
    calc⟨c,aaL,.inr ⟨(Option.some.inj h).symm,g⟩⟩
   |false=>
    simp only[List.lookup_cons,b]at h;obtain⟨a,m,q⟩:=eY (scope:=scope) (env:=env) h;exact⟨a,aaE _ m,q⟩
  ·dsimp only at h;rw[if_neg d] at h
   cases b:x==n with
   |true=>
    simp only[List.lookup_cons,b]at h;have e:x=n:=by simpa using b
    subst e;calc⟨c,aaL,.inl (Option.some.inj h).symm⟩
   |false=>
    simp only[List.lookup_cons,b]at h;obtain⟨a,m,q⟩:=eY (scope:=scope) (env:=env) h;calc⟨a,aaE _ m,q⟩
section
variable {X:Cx}{scope:Scope}{C:Addr}{N':List Str}{s₂:Shared}{H₂:Hp}{fp:List Addr}{pins:List (Addr×Obj)}{σ:St}
theorem lN(I:Inv X pins σ H₂ s₂)(d:freeOk scope X.env.scope=true){x:Str}{c:Addr}(h:(mq X.env scope.names []).lookup x=some c):X.env.cells.lookup x=some c/\(x,NameKind.free)∈scope.names:=by
 rcases xD (PySem.mem_of_lookup h) with z|⟨a,b⟩
 ·simp at z
 ·have q:=(d |> λh=>freeOk.at h a).2.1 rfl;obtain⟨c,e⟩:=I.ok.has x q;rw[e]at b;calc⟨by rw[e,b];rfl,a⟩
theorem Po(I:Inv X pins σ H₂ s₂)(d:freeOk scope X.env.scope=true)(s:scope.kind=.function)(n:s₂.heap.objs.size<=C)(f:∀b∈fp,oU X pins H₂ b)(t:∀b∈fp,∃o,s₂.heap.get? b=some o):(T9 X scope C N' s₂ H₂ fp).Ok where
 mod:=I.ok.mod
 kind:=s
 glob:=I.ok.glob
 blt:=I.ok.blt
 above:=n
 inj:=λx y c s u=>I.ok.inj x y c (lN I d s).1 (lN I d u).1
 has:=λx h=>by
  have h:(relabel scope X.env).names.lookup x=some .cell\/(relabel scope X.env).names.lookup x=some .free:=h;have g:(x,NameKind.free)∈scope.names:=by
   rcases h with h|h
   ·obtain⟨v,m,q⟩:=eY (scope:=scope) h;rcases q with q | ⟨_,q⟩
    ·subst q;exact absurd rfl (freeOk.at d m).1
    ·subst q;exact m
   ·obtain⟨v,m,q⟩:=eY (scope:=scope) h;rcases q with q | ⟨q,_⟩
    ·subst q;exact m
    ·cases q
  exact fB (rL g)
 MA:=λ_ _ h _=>absurd (show false=true from h) U'
 hd:=I.ok.hd
 frames:=I.ok.frames
 OC:=.inl rfl
 RP:=λb a=>by
  obtain⟨o,g⟩:=t b a;obtain⟨p,i,j,k,l,r⟩:=f b a;calc⟨Y' (R' (S' g) n),λx c h=>?_⟩;exact l x c (lN I d h).1
 bs:=I.bs
 zu:=aap I.ok.zu I.sz
 vv:=λb o e a=>by
  obtain⟨p,i,j,k,l,r⟩:=f b a;rcases k with z|z
  ·exact I.ok.vv b o e z
  ·exact absurd (R' (R' (S' e) I.ok.zu) z) (Nat.lt_irrefl _)
 xh:=λb a z=>by
  obtain⟨p,i,j,k,l,r⟩:=f b a;rcases List.mem_cons.mp (I.vz b z) with e|e
  ·exact i e
  ·exact j e
 lT:=I.stack
 Fd:=I.qV
end
theorem Inv.less{a:St}{s:Shared}(I:Inv X pins σ H s)(b:a.length=σ.length)(h:∀(i:Nat) (v:V),a[i]?=some (some v)->σ[i]?=some (some v)):Inv X pins a H s:=
 ⟨I.ok,I.os,I.bare,I.base,(let ⟨m,a,c⟩:=I.loc;⟨m,a,λi x v d e f=>c i x v d (h i v e) f⟩),I.cell,I.free,I.iq,I.pin,I.aZ,b.trans I.len⟩
def Ext(σ a:St):Prop:=a.length=σ.length/\∀(i:Nat) (v:V),σ[i]?=some (some v)->a[i]?=some (some v)
theorem Ext.refl(σ:St):Ext σ σ:=⟨rfl,λ_ _ h=>h⟩
theorem Ext.set{a:St}(h:Ext σ a){j:Nat}{w:Option V}(b:σ[j]?=some none):Ext σ (a.set j w):=by
 calc⟨by rw[List.length_set];calc h.1,λi v e=>?_⟩;have c:j≠i:=by rintro rfl;rw[b]at e;cases e
 rw[List.getElem?_set_ne c];calc h.2 i v e
theorem KZ(ix:List (Option Nat))(σ:St):(vQ ix σ).length=ix.length:=by unfold vQ;rw[List.length_map]
section
variable {X:Cx}{scope:Scope}{N':List Str}{ix:List (Option Nat)}{s₂ s₄:Shared}{H₂:Hp}{fp:List Addr}{pins:List (Addr×Obj)}{σ:St}{C D:Addr}{h₄:Heap}
theorem ZQ(I:Inv X pins σ H₂ s₂)(g:freeOk scope X.env.scope=true)(M:scope.kind=.function)(B:Dt X.N N' ix scope=true)(O:∀b∈fp,oU X pins H₂ b)(P:∀b∈fp,∃o,s₂.heap.get? b=some o)
  (l:s₂.heap.objs.size<=D) (p:s₂.heap.objs.size<=C) (R:D≠C) (S:h₄.Ns C (λ_=>none)) (n:∀b o,s₂.heap.get? b=some o->h₄.get? b=some o)
  (b:h₄.get? D=some {cls:=.type "list",data:=.seq ([]:List Value).toArray 0}) (t':Nat):
  Inv (T9 X scope C N' s₂ H₂ fp) [] (vQ ix σ) (upd H₂ D (.lst [])) {s₂ with heap:=h₄,toks:=t'}:=by
 have T:H₂ D=none:=I.aZ.fresh l;have U:H₂ C=none:=I.aZ.fresh p;have W:lY X.prog X.w (upd H₂ D (.lst [])) h₄:=I.aZ.laid n l ⟨aal _,[],0,.nil,b⟩;refine⟨Po I g M p O P,rfl,I.bare,Un.laid n l T,⟨_,S,λi x v y d Y=>?_⟩,λx c e=>?_,?_,λx c e=>?_,λp b=>absurd (show p∈([]:List (Addr×Obj)) from b) (by simp),W,?_⟩
 ·have a:=B;unfold Dt at a;rw[Bool.and_eq_true] at a;have b:N'.length=ix.length:=by simpa using a.1
  have b:i<N'.length:=(List.getElem?_eq_some_iff.mp y).1;unfold vQ at d;rw[List.getElem?_map]at d
  cases q:ix[i]? with
  |none=>rw[q]at d;cases d
  |some o=>
   rw[q]at d
   cases o with
   |none=>cases d
   |some j=>
    have o:(x,some j)∈N'.zip ix:=by
     calc X' (i:=i) ?_;rw[List.getElem?_zip_eq_some];exact⟨y,q⟩
    have b:=List.all_eq_true.mp a.2 _ o;simp only[Bool.and_eq_true,beq_iff_eq]at b;obtain⟨t,F⟩:=b;have m:(σ[j]?).join=some v:=by simpa using d
    have Z:σ[j]?=some (some v):=by
     cases z:σ[j]? with
     |none=>rw[z]at m;cases m
     |some y=>rw[z]at m;exact congrArg some m
    have G:(x,NameKind.free)∈scope.names:=PySem.mem_of_lookup F;have J:=(freeOk.at g G).2.1 rfl;obtain⟨m,b,hv⟩:=I.loc;obtain⟨u,ru,lk⟩:=hv j x v t Z (by rcases J with z|z;calc .inr (.inl z);calc .inr (.inr z));refine⟨u,ru,.inr ⟨?_,?_⟩⟩
    ·rcases Y with z | z | z
     ·obtain⟨b,m',k⟩:=eY (scope:=scope) (env:=X.env) (show(relabel scope X.env).names.lookup x=some .local from z);rcases k with k | ⟨k,_⟩
      ·subst k;have:=(freeOk.at g m').2.2.1 rfl;rw[F]at this;cases this
      ·cases k
     ·exact .inl z
     ·exact .inr z
    ·rcases lk with⟨r,_⟩ | ⟨_,c,l2,l3⟩
     ·have r:X.env.scope.names.lookup x=some .local:=r;rcases J with z | z
      ·rw[r]at z;cases z
      ·rw[r]at z;cases z
     ·obtain⟨b,K⟩:=fB (rL (env:=X.env) (cs:=[]) G);have L:=(lN I g K).1;rw[l2]at L;have e7:c=b:=Option.some.inj L;subst e7;exact⟨c,K,l3.keeps n⟩
 ·obtain⟨v,z⟩:=I.cell x c (lN I g e).1;exact⟨v,z.keeps n⟩
 ·show upd H₂ D (.lst []) C=none;rw[az (Ne.symm R)];exact U
 ·show upd H₂ D (.lst []) c=none;have b:=(lN I g e).1;obtain⟨v,z⟩:=I.cell x c b;have:c≠D:=Y' (R' z.lt l);rw[az this];exact I.iq x c b
 ·rw[KZ];have a:=B;unfold Dt at a;rw[Bool.and_eq_true] at a;have:N'.length=ix.length:=by simpa using a.1
  calc this.symm
end
def mr(ix:List (Option Nat))(J:It)(g:TG)(d:TT)(e:TE)(σ:St)(a:Hp)(Q:VK)(D:Addr):Prop:=
 ∃W:Nat->Nat->Hp->Prop,(∃m,W 0 m (upd a D (.lst [])))/\∀i m H,W i m H->
  (J.stop i H/\Q (.ref D) H)\/(J.go i H/\∃N:Hp->Prop,(∀b,N b->∃c,c < m/\W (i + 1) c b)/\∀x b,J.Kp i H x b->g x (vQ ix σ) b λa f=>Ext (vQ ix σ) a/\d a f λb c=>
   if b=true then e a c λy d=>∃a,d D=some (.lst a)/\a.length < sizeLine/\N (upd d D (.lst (a++[y]))) else N c)
def Uc(ix:List (Option Nat))(b:TI)(g:TG)(c:TT)(d:TE):TE:=λσ H Q=>b σ H λJ a=>∀D,a D=none->mr ix J g c d σ a Q D
abbrev tI(X:Cx)(scope:Scope)(N':List Str)(F:Cx->Prop):Prop:=∀(C:Addr) (a:Shared) (H₂:Hp) (b:List Addr),F (T9 X scope C N' a H₂ b)
section
variable {X:Cx}{elt target iter:Expr}{ifs:List Expr}{scope:Scope}{pos:Pos}{N':List Str}{ix:List (Option Nat)}{wi:TI}{g:TG}{tt:TT}{te:TE}
theorem xF{a:Shared}{it:Addr}{l:List Addr}{S:Nat->Heap->Prop}{J:It}{QD:Addr->Hp->Prop}{RR:Value->Addr->Result->Shared->Prop}{E:Value->Shared->Prop}
  (K0:X.calm=true) (hf:freeOk scope X.env.scope=true) (hk:scope.kind=.function) (hx:Dt X.N N' ix scope=true)
  (hg:tI X scope N' λY=>PG Y target g) (ht:tI X scope N' λY=>RV Y ifs tt) (he:tI X scope N' λY=>PE Y elt te)
  (I:Inv X pins σ H₂ a) (T:Turn X.prog X.w X.K target J l it S) (st:S 0 a.heap) (JW:∀b∈l,oU X pins H₂ b)
  (hw:∀D,H₂ D=none->∃W:Nat->Nat->Hp->Prop,(∃m,W 0 m (upd H₂ D (.lst [])))/\∀i m H,W i m H->
   (J.stop i H/\QD D H)\/(J.go i H/\∃N:Hp->Prop,(∀d,N d->∃B,B < m/\W (i + 1) B d)/\∀x d,J.Kp i H x d->g x (vQ ix σ) d λp C=>Ext (vQ ix σ) p/\tt p C λb L=>
    if b=true then te p L λy C=>∃U,C D=some (.lst U)/\U.length < sizeLine/\N (upd C D (.lst (U++[y]))) else N L))
  (hRR:∀(D C:Addr) (s':Shared) (d:Hp) (m:Str->Option Value),a.heap.objs.size<=C->d C=none->C∉wR X.stack->s'.heap.Ns C m->(∃o,s'.heap.get? C=some o/\∀v,o.data≠.cell v)->Inv X pins σ d s'->QD D d->RR (.ref D) C (.ok .next) s'):
  wpAny (model X.prog X.w) X.A (newList []) (λp j=>wpAny (model X.prog X.w) X.A (newFunctionEnv scope X.env.globals (mq X.env scope.names []) [] X.env.qual none .none (some X.env)) (λJ C=>
   codeAny (model X.prog X.w) X.A (.compStart (.ListComp elt [⟨target,iter,ifs,0⟩] scope pos) 0 (.ref it) p {J with scope:=relabel scope X.env}) (RR p J.locals) C) E j) E a:=by
 calc wpAny_newObj_type (wpAny_newFunctionEnv (λx hx=>(freeOk.at hf hx).1) (by intro y p;simp at p) (λk Pq K1=>?_) hk);dsimp only at Pq K1 ⊢;generalize C:a.heap.push {cls:=.type "list",dict:=none,data:=.seq ([]:List Value).toArray}=P2 at Pq K1 ⊢;have p:P2.objs.size=a.heap.objs.size+1:=by rw[<-C,Heap.size_push]
 have J:a.heap.objs.size≠P2.objs.size:=by rw[p];exact Y' (Nat.lt_succ_self _)
 have M:a.heap.objs.size<=P2.objs.size:=by rw[p];exact Nat.le_succ _
 have Z:∀b o,a.heap.get? b=some o->k.get? b=some o:=λb o e=>K1.extBut b o (Y' (R' (S' e) M)) (J' _ (C▸J' _ e));have N:k.get? a.heap.objs.size=some {cls:=.type "list",data:=.seq ([]:List Value).toArray 0}:=K1.extBut _ _ J (J' _ (C▸V' _ rfl));have p:∀b∈l,∃o,a.heap.get? b=some o:=λb c=>let ⟨o,e,_⟩:=T.obj _ _ st b c;⟨o,e⟩
 have C:a.heap.get? P2.objs.size=none:=Heap.get?_none_of_le M;have C:H₂ a.heap.objs.size=none:=I.aZ.fresh (K' _);obtain⟨W,⟨m0,w0⟩,turn⟩:=hw a.heap.objs.size C;have fpD:∀b∈l,b≠a.heap.objs.size:=λb c=>let ⟨o,e⟩:=p b c;Y' (S' e)
 have fpC:∀b∈l,b≠P2.objs.size:=λb c=>let ⟨o,e⟩:=p b c;Y' (R' (S' e) M)
 let Y:=T9 X scope P2.objs.size N' a H₂ l
 have hcY:Y.calm=true:=K0;have I0:Inv Y [] (vQ ix σ) (upd H₂ a.heap.objs.size (.lst [])) {a with heap:=k,toks:=a.toks+([]:List (Str×Value)).length}:=
  ZQ I hf hk hx JW p (K' _) M J (by simpa using Pq) Z N _
 have OD:P2.objs.size∉wR X.stack:=λz=>by
  rcases List.mem_cons.mp (I.vz _ z) with e|e
  ·exact absurd I.lt (by rw[<-e];calc Nat.not_lt.mpr M)
  ·exact I.OE M e
 have zA:∀{d:Hp},(∀b∈l,d b=none)->∀b∈l,oU Y [] d b:=λhn b c=>by
  obtain⟨f0,f1,f2,f3,f4,f5⟩:=JW b c;refine⟨hn b c,fpC b c,I0.ok.xh b c,.inl c,(I0.ok.RP b c).2,λp C=>absurd (show p∈([]:List (Addr×Obj)) from C) (by simp)⟩
 have Ue:S 0 k:=T.keep _ _ _ st λb _ o e=>Z b o e;have G:∀j:Shared,j={a with heap:=k,toks:=a.toks + ([]:List (Str×Value)).length}->
   codeAny (model X.prog X.w) X.A (.compLoop (.ListComp elt [⟨target,iter,ifs,0⟩] scope pos) 0 (.ref it) (.ref a.heap.objs.size) (compEnvC scope (mq X.env scope.names []) P2.objs.size X.env))
    (RR (.ref a.heap.objs.size) P2.objs.size) j:=by
  rintro j rfl;calc vP (λn s'=>∃i d,Inv Y [] (vQ ix σ) d s'/\S i s'.heap/\(∀b∈l,d b=none)/\W i n d) ?_ m0 ⟨0,_,I0,Ue,λb c=>by rw[az (fpD b c)];calc(JW b c).1,w0⟩;rintro n s3 ⟨i,L,I3,oO,Tr,w3⟩;rcases turn i n L w3 with⟨stop,qn⟩|⟨go,Nn,hNn,step⟩
  ·calc cX (T.done Y rfl rfl rfl hcY i [] s3 _ L _ I3 (zA Tr) oO stop) λr s4 q=>?_;nofun;obtain⟨hr,O⟩:=q;ac_rfl;subst hr;obtain⟨m,hn,_⟩:=O.loc;refine hRR _ _ s4 L m M O.free OD hn ?_ ?_ qn
   ·obtain⟨o,k,p,j,hd,_⟩:=hn;exact⟨o,j,λv z=>by rw[hd]at z;cases z⟩
   ·refine I.MH (s':=s4) (ch:=l) O.os ?_ O.aZ O.bare λb c=>?_
    ·exact O.base
    ·obtain⟨f0,f1,f2,f3,f4,f5⟩:=JW b c;exact⟨f3,f1,f4,f5⟩
  ·calc cX (T.item Y rfl rfl rfl hcY i [] s3 _ L _ I3 (zA Tr) oO go) λr s4 q=>?_;nofun;obtain⟨u,hr,h4⟩:=q;ac_rfl;subst hr;calc cX h4 λ_ s5 q=>?_;nofun;obtain⟨x,j,p,r,v,k,z⟩:=q;ac_rfl;have C:=p.pinned (zA z) (T.obj _ _ k);calc cX (hg _ _ _ _ _ s5 _ j x u _ C r (step x j v)) λ_ I q=>?_;nofun;obtain⟨F,p,r,j,u⟩:=q;ac_rfl;calc cX (ht _ _ _ _ _ I F p _ r u) λok s7 q=>?_;nofun;obtain⟨H7,I7,q7⟩:=q;ac_rfl;have t:∀{P:Shared} {R:Hp} {B:Nat},Inv Y ([]++oV l s5.heap) F R P->B<n->W (i+1) B R->∃m,m<n/\∃i d,Inv Y [] (vQ ix σ) d P/\S i P.heap/\(∀b∈l,d b=none)/\W i m d:=λ{P R B} I8 hm w8=>by
    calc⟨B,hm,i+1,R,(I8.kD).less j.1.symm j.2,T.keep _ _ _ k λb c o e=>(I8.pin (b,o) (aam _ (aam _ (j1 c e)))).1,λb c=>?_,w8⟩;obtain⟨o,e,d⟩:=T.obj _ _ k b c;exact(I8.pin (b,o) (aam _ (aam _ (j1 c e)))).2.1
   cases ok with
   |false=>
    rw[if_neg Bool.false_ne_true]at q7 ⊢;obtain⟨B,hm,w8⟩:=hNn _ q7;calc t I7 hm w8
   |true=>
    rw[if_pos rfl] at q7 ⊢;calc cX (he _ _ _ _ _ s7 F H7 _ I7 q7) λy P q=>?_;nofun;obtain⟨b,R,I8,d,U,e,i,j⟩:=q;ac_rfl;have k:=(uy (X:=Y)) (pins:=[]++oV l s5.heap) P F R (.ref a.heap.objs.size) [b] (.ref a.heap.objs.size) [y] (λ_ c=>Nn c) I8 rfl (.cons d .nil)
     ⟨_,U,b,rfl,rfl,e,i,j⟩
    exact cX k λ_ a ⟨_,c,b,_,d⟩=>let ⟨B,hm,a⟩:=hNn _ d;t b hm a
 calc codeAny_compStart_list (G _ rfl) (T.self _ 0 _ _ _ Ue (G _ rfl))
theorem Inv.ZV{s b:Shared}{C:Addr}{h':Heap}(a:Inv X pins σ H₂ b)(I:Inv X pins σ H s)(d:b.heap.objs.size<=C)(f:H C=none)(g:Heap.SameBut C s.heap h'):Inv X pins σ H {s with heap:=h'}:=by
 refine I.turned (t':=s.toks) (λb o h e=>(g.2 b h).trans e) f (Nat.ne_of_gt (R' a.lt d)) (.inr (aap a.sz d)) (λx c e z=>?_) λp b z=>?_
 ·obtain⟨v,q⟩:=a.cell x c e;exact absurd (R' q.lt (by rw[z];calc d)) (Nat.lt_irrefl _)
 ·calc absurd (R' (S' (a.pin p b).1) (by rw[z];calc d)) (Nat.lt_irrefl _)
theorem dO
  (l:PI X target iter wi) (n:tI X scope N' λY=>PG Y target g) (o:tI X scope N' λY=>RV Y ifs tt) (a:tI X scope N' λY=>PE Y elt te)
  (p:X.calm=true:=by rfl) (f:freeOk scope X.env.scope=true:=by kernel_rfl) (i:scope.kind=.function:=by rfl) (b:Dt X.N N' ix scope=true:=by kernel_rfl) (j:∀x,foldedSetIterable iter X.env x=pure x:=by intro _;rfl):PE X (.ListComp elt [⟨target,iter,ifs,0⟩] scope pos) (Uc ix wi g tt te):=by
 walk_at "xc";rw[eval_ListComp];have m:∀x∈scope.names,x.2=.free->∃c,X.env.cells.lookup x.1=some c:=λx b a=>I.ok.has x.1 ((freeOk.at f b).2.1 a);refine wpAny_comprehension_free (use:=none) rfl j (ma m) i (λx b a=>(freeOk.at f b).2.2.1 a) (aas (l pins s σ H _ I h) (λm j c=>aas c (λl j d=>?_) λ_ _ e=>e) λ_ _ e=>e);obtain⟨c,j,l,J,m,e,k,T,r,t,u⟩:=d;subst e;refine xF (RR:=λc C=>compPost (model X.prog X.w) X.A X.xe none (EP X pins σ Q) c C) (QD:=λD c=>Q (.ref D) c) p f i b n o a k T r t u ?_;intro D C x c m d e y j z l q;exact⟨m,j,λB v=>⟨.ref D,c,k.ZV l d e v,rfl,q⟩⟩
theorem iy{i:Nat}{y:Str}{d S:Pos}(hN:X.N.Nodup)(F:X.N[i]?=some y)(hy:Loc X.env.scope y)
  (hi:PI X target iter wi) (hg:tI X scope N' λY=>PG Y target g) (ht:tI X scope N' λY=>RV Y ifs tt) (j:tI X scope N' λY=>PE Y elt te)
  (G:swapsWith (.ListComp elt [⟨target,iter,ifs,0⟩] scope pos) (some (.Name y d)) S.line X.env=pure true:=by rfl)
  (K0:X.calm=true:=by rfl) (K:freeOk scope X.env.scope=true:=by kernel_rfl) (U:scope.kind=.function:=by rfl) (k:Dt X.N N' ix scope=true:=by kernel_rfl) (hs:∀x,foldedSetIterable iter X.env x=pure x:=by intro _;rfl) (Tp:X.fn y=true\/X.env.scope.names.lookup y=some .local:=by grind):
  PS X (.Assign [.Name y d] (.ListComp elt [⟨target,iter,ifs,0⟩] scope pos) S) (CY (Uc ix wi g tt te) (hX i)):=by
 walk_at "xd";rw[exec_Assign_Name_used _ _ _ _ G];refine j' (wpAny_standAt (j' ?_));show wpAny _ X.A (do let _ <-comprehension (.ListComp elt [⟨target,iter,ifs,0⟩] scope pos) scope X.env _ (newList []) false (eval iter X.env) (some (assign (.Name y d) X.env))) _ _ s;have RW:∀x ∈ scope.names,x.2=.free->∃c,X.env.cells.lookup x.1=some c:=λx k j=>I.ok.has x.1 ((freeOk.at K k).2.1 j);refine j' (aas (wpAny_comprehension_free (use:=some (assign (.Name y d) X.env)) (Q:=λ_ a=>SP X pins D .next a) rfl hs (ma RW) U (λx k j=>(freeOk.at K k).2.2.1 j)
  (aas (hi pins s σ H _ I h) (λxv W l=>aas l (λXU Z n=>?_) λ_ _ e=>e) λ_ _ e=>e)) (λ_ a hq=>P' (P' hq)) λ_ _ e=>e)
 obtain⟨it,fp,tn,J,H2,e,f,T,Bh,f2,hw⟩:=n;subst e;calc xF (RR:=λL C=>compPost (model X.prog X.w) X.A X.xe (some (assign (.Name y d) X.env)) (λ_ a=>SP X pins D .next a) L C) (QD:=λr t=>D.nx (σ.set i (some (.ref r))) t) K0 K U k hg ht j f T Bh f2 hw ?_;intro r C a t m u Ua EK hn E I' q;obtain⟨o,E,XR⟩:=E;show wpAny _ X.A (assign (.Name y d) X.env (.ref r)) _ _ a;have B:C≠X.env.locals:=Nat.ne_of_gt (R' f.lt u);have M:C∉X.fs:=f.OE u;have O:Inv X (pins++[(C,o)]) σ t a:=I'.vA λp P=>(List.mem_append.mp P).elim (λz=>I'.pin p (aam _ z)) λz=>by
  have z':p=(C,o):=by simpa using z
  subst z';exact⟨E,Ua,B,M,XR⟩
 calc wpAny_assign_Name (jG O hN F hy (v:=.ref r) rfl (λs3 I3=>?_) Tp);obtain⟨e3,n3,_⟩:=I3.pin (C,o) (aam _ (aam _ (by simp)));obtain⟨o',es,ep,lL,r'⟩:=hn;rw[E]at lL;cases lL;have R:Inv X pins (σ.set i (some (.ref r))) t s3:=I3.kD;calc⟨m,⟨o,es,ep,e3,r'⟩,λh' Ug=>⟨_,t,?_,q⟩⟩;refine R.turned (t':=s3.toks) (λb o hb e=>(Ug.2 b hb).trans e) n3 B (.inr (aap f.sz u)) (λx c e z=>?_) λp P z=>?_
 ·obtain⟨v,q⟩:=f.cell x c e;exact absurd (R' q.lt (by rw[z];calc u)) (Nat.lt_irrefl _)
 ·calc absurd (R' (S' (f.pin p P).1) (by rw[z];calc u)) (Nat.lt_irrefl _)
end
def X8(b:Nat->List V->Hp->Prop)(D:Addr)(i:Nat)(H:Hp):Prop:=∃a,H D=some (.lst a)/\a.length<=i+1/\b (i+1) a H
theorem cJ{c:Nat->List V->Hp->Prop}{D:Addr}{i n:Nat}{a:List V}{y:V}(d:H D=some (.lst a))(b:a.length<=i)(e:i<n)(f:n<=sizeLine)(h:c (i+1) (a++[y]) (upd H D (.lst (a++[y])))):
  ∃b,H D=some (.lst b)/\b.length<sizeLine/\X8 c D i (upd H D (.lst (b++[y]))):=
 ⟨a,d,by lia,a++[y],af,by rw[List.length_append,List.length_singleton];lia,h⟩
theorem bz{ix:List (Option Nat)}{J:It}{n:Nat}{g:TG}{c:TT}{k:TE}{l:Hp}{Q:VK}{D:Addr}(f:Nat->List V->Hp->Prop)(a:n<=sizeLine)(t:f 0 [] (upd l D (.lst [])))
  (u:∀i d H,i<n->f i d H->J.go i H) (v:∀d H,f n d H->J.stop n H)
  (w:∀i d H,i < n->H D=some (.lst d)->d.length<=i->f i d H->∀x h,J.Kp i H x h->g x (vQ ix σ) h λa q=>Ext (vQ ix σ) a/\c a q λb o=>
   if b=true then k a o λy q=>∃j,q D=some (.lst j)/\j.length < sizeLine/\X8 f D i (upd q D (.lst (j++[y]))) else X8 f D i o)
  (z:∀d H,H D=some (.lst d)->d.length<=n->f n d H->Q (.ref D) H):
  mr ix J g c k σ l Q D:=by
 calc⟨λi m H=>m=n-i/\i<=n/\∃d,H D=some (.lst d)/\d.length<=i/\f i d H,⟨n,by simp,aal _,[],af,K' _,t⟩,?_⟩;rintro i m H ⟨rfl,a,d,r,s,p⟩;by_cases g:i<n
 ·exact .inr ⟨u i d H g p,X8 f D i,λh ⟨j,a,b,c⟩=>⟨n-(i+1),by lia,rfl,g,j,a,b,c⟩,λx h y=>w i d H g r s p x h y⟩
 ·have e:i=n:=by lia
  subst e;calc .inl ⟨v d H p,z d H r s p⟩
end
section
section
variable {X:Cx}
def F7(i j:Int):Prop:=0<j/\j.natAbs.log2<9000
theorem F8:gS X (binaryOp .FloorDiv) (rI F7 λi j=>.int (i/j)):=XW λi j _ _ _ _ _ a q=>by
 have b:(0:Int)<j:=a.1;calc floordiv_int (by lia) (by rw[Int.fdiv_eq_ediv_of_nonneg i (by lia)];calc q) (.inl (PyProof.noPylong_of_log2 a.2))
def Pr:R2:=λx y H Q=>match x,y with
 | .int i,.int j=>Q (.int (i+j)) H
 | .str i,.str j=>i.length+j.length<=sizeLine/\Q (.str (i++j)) H
 | .ref a,.ref b=>∃xs c,H a=some (.lst xs)/\H b=some (.lst c)/\xs.length+c.length<=sizeLine/\∀p,H p=none->Q (.ref p) (upd H p (.lst (xs++c)))
 |_,_=>False
def uI(C:Int->Int->Prop)(g:Int->Int->V):R2:=λx y H Q=>match x,y with
 | .int i,.int j=>C i j/\Q (g i j) H
 |_,_=>False
def Pt(g:Int->Int->V):R2:=λx y H Q=>match x,y with
 | .int i,.int j=>Q (g i j) H
 |_,_=>False
theorem X9{f:Value->Value->Sem Value}{C:Int->Int->Prop}{g:Int->Int->V}(h:gS X f (rI C g)):gS X f (uI C g):=by
 intro a s σ H x y v u Q I b c q
 cases x<;>cases y<;>first
  |calc(show False from q).elim
  |calc h a s σ H _ _ v u Q I b c ⟨_,_,rfl,rfl,q.1,q.2⟩
theorem F9{f:Value->Value->Sem Value}{g:Int->Int->V}(h:gS X f (Kt g)):gS X f (Pt g):=by
 intro a s σ H x y v u Q I b c q
 cases x<;>cases y<;>first
  |calc(show False from q).elim
  |calc h a s σ H _ _ v u Q I b c ⟨_,_,rfl,rfl,q⟩
theorem ei:gS X (binaryOp .Sub) (Pt λi j=>.int (i-j)):=F9 OW
theorem lO:gS X (binaryOp .Mult) (uI Fz λi j=>.int (i*j)):=X9 OX
theorem cH:gS X (binaryOp .Mod) (uI (λ_ j=>0<j) λi j=>.int (i%j)):=X9 OY
theorem eE:gS X (binaryOp .FloorDiv) (uI F7 λi j=>.int (i/j)):=X9 F8
theorem nQ:gS X (binaryOp .Pow) (uI Fy λi j=>.int (i^j.toNat)):=X9 OZ
theorem gU:gS X (compareOp .Lt) (Pt λi j=>.bl (decide (i<j))):=F9 Tv
theorem zR:gS X (compareOp .LtE) (Pt λi j=>.bl (decide (i<=j))):=F9 Tw
theorem o8:gS X (compareOp .Gt) (Pt λi j=>.bl (decide (j<i))):=F9 Tz
theorem Pu:gS X (compareOp .GtE) (Pt λi j=>.bl (decide (j<=i))):=F9 TB
def kH(K:W.Frag)(H:Hp):Nat->V->V->Prop
 |0,_,_=>False
 |n+1,x,y=>(x=y/\gr x=true)\/∃a b xs c,x=.ref a/\y=.ref b/\((bI K H a xs/\bI K H b c)\/(aU K H a xs/\aU K H b c))/\xs.length=c.length/\∀(i:Nat) u v,xs[i]?=some u->c[i]?=some v->kH K H n u v
theorem in1_units(A:Around):A.in1.units=A.units+1:=rfl
theorem nR{pins:List (Addr×Obj)}{σ:St}{H:Hp}{s:Shared}(I:Inv X pins σ H s):∀(n:Nat) (A:Around) {x y:V}{u v:Value},kH X.K H n x y->A.units+n<cLine->RelV x u->RelV y v->SeqAt.EqAt A s u v true
 |0,_,_,_,_,_,h,_,_,_=>h.elim
 |n+1,A,x,y,u,v,h,o,c,d=>by
  rcases h with⟨e,f⟩|⟨a,b,J,L,j,k,l,o,M⟩
  ·subst e;have q:=zN (A:=A) (s:=s) c d f f;have g:EI x x=true:=by cases x <;> first | rfl | calc absurd (show false=true from f) U' | simp[EI]
   rw[g]at q;exact q
  ·subst j k
   cases c
   cases d;by_cases m:a=b
   ·subst m;exact SeqAt.EqAt.same _
   rcases l with⟨o,p⟩|⟨o,p⟩
   ·obtain⟨c,h,q,H⟩:=I.tuple o;obtain⟨f,k,r,N⟩:=I.tuple p;have O:=h.length;have P:=k.length;have t:c.toArray.size=f.toArray.size:=by simp;lia
    have d:=SeqAt.RcAt.tuples (A:=A) (e:=λ_=>true) (show s.heap.IsTuple a c.toArray from q) (show s.heap.IsTuple b f.toArray from r) (by lia) λj u v=>by
     have w:j<c.length:=by simpa using u
     have y:j<f.length:=by simpa using v
     obtain⟨z,l,B⟩:=h.get (i:=j) (x:=J[j]'(by lia)) (by simp);obtain⟨C,g,D⟩:=k.get (i:=j) (x:=L[j]'(by lia)) (by simp);have E:c.toArray[j]=z:=by
      have:=cP w;rw[this]at l;simpa using Option.some.inj l
     have F:f.toArray[j]=C:=by
      have:=cP y;rw[this]at g;simpa using Option.some.inj g
     rw[E,F];exact nR I n A.in1 (M j _ _ (by simp) (by simp)) (by rw[in1_units];lia) B D
    have G:SeqAt.RcAt A s (.ref a) (.ref b) true:=by
     have:((List.range (min c.toArray.size f.toArray.size)).all (λ_=>true)&&c.toArray.size==f.toArray.size)=true:=by
      rw[t];simp
     rw[this]at d;exact d
    exact SeqAt.EqAt.of_refs m G
   ·obtain⟨c,h,q,H⟩:=I.list o;obtain⟨f,k,r,N⟩:=I.list p;have O:=h.length;have P:=k.length;have t:c.toArray.size=f.toArray.size:=by simp;lia
    have d:=SeqAt.RcAt.lists (A:=A) (e:=λ_=>true) q.isList r.isList t (by lia) λj u v=>by
     have w:j<c.length:=by simpa using u
     have y:j<f.length:=by simpa using v
     obtain⟨z,l,B⟩:=h.get (i:=j) (x:=J[j]'(by lia)) (by simp);obtain⟨C,g,D⟩:=k.get (i:=j) (x:=L[j]'(by lia)) (by simp);have E:c.toArray[j]=z:=by
      have:=cP w;rw[this]at l;simpa using Option.some.inj l
     have F:f.toArray[j]=C:=by
      have:=cP y;rw[this]at g;simpa using Option.some.inj g
     rw[E,F];exact nR I n A.in1 (M j _ _ (by simp) (by simp)) (by rw[in1_units];lia) B D
    have G:SeqAt.RcAt A s (.ref a) (.ref b) true:=by
     have:((List.range c.toArray.size).all (λ_=>true))=true:=by simp
     rw[this]at d;exact d
    calc SeqAt.EqAt.of_refs m G
end
end
section
variable {pins:List (Addr×Obj)}{σ:St}
section
variable {X:Cx}
theorem Gd{H:Hp}{s:Shared}(I:Inv X pins σ H s){A:Around}{n:Nat}{a b:Addr}(h:kH X.K H (n+1) (.ref a) (.ref b))(f:A.units+n+1<cLine):
  SeqAt.RcAt A s (.ref a) (.ref b) true/\SeqAt.RcNeAt A s (.ref a) (.ref b) false:=by
 rcases h with⟨e,f⟩|⟨g,k,J,L,c,d,j,l,M⟩
 ·exact absurd (show false=true from f) U'
 ·cases c
  cases d;rcases j with⟨g,h⟩|⟨g,h⟩
  ·obtain⟨d,k,l,H⟩:=I.tuple g;obtain⟨f,m,o,N⟩:=I.tuple h;have O:=k.length;have P:=m.length;have u:d.toArray.size=f.toArray.size:=by simp;lia
   have c:∀j (g:j<d.toArray.size) (h:j<f.toArray.size),SeqAt.EqAt A.in1 s d.toArray[j] f.toArray[j] ((λ_=>true) j):=λj v w=>by
    have y:j<d.length:=by simpa using v
    have z:j<f.length:=by simpa using w
    obtain⟨B,p,C⟩:=k.get (i:=j) (x:=J[j]'(by lia)) (by simp);obtain⟨D,q,E⟩:=m.get (i:=j) (x:=L[j]'(by lia)) (by simp);have F:d.toArray[j]=B:=by
     have:=cP y;rw[this]at p;simpa using Option.some.inj p
    have G:f.toArray[j]=D:=by
     have:=cP z;rw[this]at q;simpa using Option.some.inj q
    rw[F,G];exact nR I n A.in1 (M j _ _ (by simp) (by simp)) (by rw[in1_units];lia) C E
   have e:((List.range (min d.toArray.size f.toArray.size)).all (λ_=>true)&&d.toArray.size==f.toArray.size)=true:=by
    rw[u];simp
   have r:=SeqAt.RcAt.tuples (A:=A) (show s.heap.IsTuple a d.toArray from l) (show s.heap.IsTuple b f.toArray from o) (by lia) c;have t:=SeqAt.RcNeAt.tuples (A:=A) (show s.heap.IsTuple a d.toArray from l) (show s.heap.IsTuple b f.toArray from o) (by lia) c;rw[e]at r t;exact⟨r,t⟩
  ·obtain⟨d,k,l,H⟩:=I.list g;obtain⟨f,m,o,N⟩:=I.list h;have O:=k.length;have P:=m.length;have u:d.toArray.size=f.toArray.size:=by simp;lia
   have c:∀j (g:j<d.toArray.size) (h:j<f.toArray.size),SeqAt.EqAt A.in1 s d.toArray[j] f.toArray[j] ((λ_=>true) j):=λj v w=>by
    have y:j<d.length:=by simpa using v
    have z:j<f.length:=by simpa using w
    obtain⟨B,p,C⟩:=k.get (i:=j) (x:=J[j]'(by lia)) (by simp);obtain⟨D,q,E⟩:=m.get (i:=j) (x:=L[j]'(by lia)) (by simp);have F:d.toArray[j]=B:=by
     have:=cP y;rw[this]at p;simpa using Option.some.inj p
    have G:f.toArray[j]=D:=by
     have:=cP z;rw[this]at q;simpa using Option.some.inj q
    rw[F,G];exact nR I n A.in1 (M j _ _ (by simp) (by simp)) (by rw[in1_units];lia) C E
   have e:(List.range d.toArray.size).all (λ_=>true)=true:=by simp
   have r:=SeqAt.RcAt.lists (A:=A) l.isList o.isList u (by lia) c;have t:=SeqAt.RcNeAt.lists (A:=A) l.isList o.isList u (by lia) c;rw[e]at r t;calc⟨r,t⟩
def rM(K:W.Frag)(H:Hp)(a b:Addr):Prop:=∃xs c,xs.length≠c.length/\((aU K H a xs/\aU K H b c)\/(bI K H a xs/\bI K H b c/\(xs=[]\/c=[])))
theorem BD{H:Hp}{s:Shared}(I:Inv X pins σ H s){A:Around}{a b:Addr}(h:rM X.K H a b)(k:A.units<cLine):
  SeqAt.RcAt A s (.ref a) (.ref b) false/\SeqAt.RcNeAt A s (.ref a) (.ref b) true:=by
 obtain⟨j,n,r,⟨l,m⟩|⟨l,m,q⟩⟩:=h
 ·obtain⟨d,h,g,r⟩:=I.list l;obtain⟨f,n,i,t⟩:=I.list m;have o:=h.length;have p:=n.length;have j:(d.toArray.size != f.toArray.size)=true:=by simp;lia
  exact⟨SeqAt.RcAt.lists_lengths g.isList i.isList j k,SeqAt.RcNeAt.lists_lengths g.isList i.isList j k⟩
 ·obtain⟨d,h,g,r⟩:=I.tuple l;obtain⟨f,n,i,t⟩:=I.tuple m;have o:=h.length;have p:=n.length;have c:∀j (l:j<d.toArray.size) (m:j<f.toArray.size),SeqAt.EqAt A.in1 s d.toArray[j] f.toArray[j] ((λ_=>true) j):=λj h l=>by
   exfalso;have m:j<d.length:=by simpa using h
   have h:j<f.length:=by simpa using l
   rcases q with e|e
   ·subst e;simp at o;lia
   ·subst e;simp at p;lia
  have e:((List.range (min d.toArray.size f.toArray.size)).all (λ_=>true)&&d.toArray.size==f.toArray.size)=false:=by
   have:d.toArray.size≠f.toArray.size:=by simp;lia
   rw[Bool.and_eq_false_iff];exact .inr (beq_eq_false_iff_ne.mpr this)
  have h:=SeqAt.RcAt.tuples (A:=A) (show s.heap.IsTuple a d.toArray from g) (show s.heap.IsTuple b f.toArray from i) k c;have j:=SeqAt.RcNeAt.tuples (A:=A) (show s.heap.IsTuple a d.toArray from g) (show s.heap.IsTuple b f.toArray from i) k c;rw[e]at h j;calc⟨h,j⟩
def Px(K:W.Frag):R2:=λx y H Q=>match x,y with
 | .ref a,.ref b=>(kH K H 20 (.ref a) (.ref b)/\Q (.bl true) H)\/(rM K H a b/\Q (.bl false) H)
 |x,y=>Kv x y=true/\Q (.bl (decide (x=y))) H
def RX(K:W.Frag):R2:=λx y H Q=>match x,y with
 | .ref a,.ref b=>(kH K H 20 (.ref a) (.ref b)/\Q (.bl false) H)\/(rM K H a b/\Q (.bl true) H)
 |x,y=>Kv x y=true/\Q (.bl (!decide (x=y))) H
theorem Ge(c:X.A.units+64<cLine):gS X (compareOp .Eq) (Px X.K):=by
  intro pins s σ H x y v u Q I a b h
  cases x<;>cases y<;>first
    |calc Tt pins s σ H _ _ v u Q I a b h
    | (cases a;cases b
       rcases h with⟨a,q⟩|⟨a,q⟩
       · exact(Gd I (A:=X.A) a (by lia)).1 X.prog X.w X.xe _ ⟨.bl true,H,I,rfl,q⟩
       · calc(BD I (A:=X.A) a (by lia)).1 X.prog X.w X.xe _ ⟨.bl false,H,I,rfl,q⟩)
theorem Py(c:X.A.units+64<cLine):gS X (compareOp .NotEq) (RX X.K):=by
  intro pins s σ H x y v u Q I a b h
  cases x<;>cases y<;>first
    |calc Tu pins s σ H _ _ v u Q I a b h
    | (cases a;cases b
       rcases h with⟨a,q⟩|⟨a,q⟩
       · exact(Gd I (A:=X.A) a (by lia)).2 X.prog X.w X.xe _ ⟨.bl false,H,I,rfl,q⟩
       · calc(BD I (A:=X.A) a (by lia)).2 X.prog X.w X.xe _ ⟨.bl true,H,I,rfl,q⟩)
def Uj(g:Bool->Bool):R2:=λx y H Q=>match x,y with
 | .bl c,.bl d=>Q (.bl (g (c==d))) H
 |x,.bM=>Q (.bl (g (decide (x=.bM)))) H
 |_,_=>False
theorem Gf:gS X (compareOp .Is) (Uj id):=by
 intro pins s σ H x y v u Q I a b h
 cases x<;>cases y<;>first
  |calc(show False from h).elim
  |calc O0 pins s σ H _ _ v u Q I a b ⟨rfl,h⟩
  |(cases a;cases b;calc is_bool ⟨.bl _,H,I,rfl,h⟩)
theorem uE:gS X (compareOp .IsNot) (Uj not):=by
 intro pins s σ H x y v u Q I a b h
 cases x<;>cases y<;>first
  |calc(show False from h).elim
  |calc Kw pins s σ H _ _ v u Q I a b ⟨rfl,h⟩
  |(cases a;cases b;calc isnot_bool ⟨.bl _,H,I,rfl,h⟩)
def uIn(K:W.Frag)(a:Bool):R2:=λx y H Q=>match y with
 | .ref p=>∃xs,(aU K H p xs\/bI K H p xs)/\gr x=true/\xs.all gr=true/\Q (.bl (if a then !Bv x xs else Bv x xs)) H
 |_=>False
theorem Gg:gS X (compareOp .In) (uIn X.K false):=by
 intro pins s σ H x y v u Q I a b h
 cases y<;>first
  |calc(show False from h).elim
  |(obtain⟨c,d,e,f,g⟩:=h;calc Dj pins s σ H _ _ v u Q I a b ⟨_,c,rfl,d,e,f,g⟩)
def ZX(K:W.Frag):List V->Hp->VK->Prop:=λxs H Q=>match xs with
 | [x,.ty n]=>∃t b,gv K H x t/\W.kitOne K t (.type n)=some b/\Q (.bl b) H
 |_=>False
def Pz(K:W.Frag)(a:TE):TI:=λσ H R=>a σ H λx b=>match x with
 | .ref a=>((∃xs,aU K b a xs)/\R (wU K a) b)\/((∃xs,bI K b a xs)/\R (Kq K a) b)
 |_=>False
theorem cu{n l:Expr}{i:TE}(r:PE X l i):PI X n l (Pz X.K i):=by
  calc⟨?_⟩;intro pins s σ H R I h;calc cX (r pins s σ H _ I h) λv c t=>?_;nofun;obtain⟨x,j,d,u,k⟩:=t;ac_rfl
  cases x<;>first
    |calc(show False from k).elim
    | (rename_i a;cases u
       rcases k with⟨⟨w,f⟩,q⟩|⟨⟨w,f⟩,q⟩
       · obtain⟨m,y,p,z⟩:=d.list f;calc wpAny_pyIter_list p.isList ?_;calc⟨c.heap.objs.size,[c.heap.objs.size],_,_,j,rfl,d.kept (t':=c.toks) λb o e=>J' _ e,CZ a _,⟨_,V' _ rfl,rfl,rfl⟩,λb g=>?_,q⟩;have e:b=c.heap.objs.size:=by simpa using g
         subst e;exact d.Ft (K' _) (d.aZ.fresh (K' _))
       · obtain⟨m,y,p,z⟩:=d.tuple f;calc wpAny_pyIter_tuple (show c.heap.IsTuple a m.toArray from p) ?_;calc⟨c.heap.objs.size,[c.heap.objs.size],_,_,j,rfl,d.kept (t':=c.toks) λb o e=>J' _ e,zy a _,⟨_,V' _ rfl,rfl,rfl⟩,λb g=>?_,q⟩;have e:b=c.heap.objs.size:=by simpa using g
         subst e;calc d.Ft (K' _) (d.aZ.fresh (K' _)))
def Its(a b:Int)(n:Nat):It:=⟨λi _=>i<n,λi H x c=>c=H/\x=.int (a+i*b),λi _=>n<=i⟩
def MT(a:TA):TI:=λσ H R=>a σ H λvs b=>match vs with
 | [.int i,.int j,.int k]=>Builtin.Range.small i j k=true/\0<k/\k<1000/\R (Its i k (Builtin.Range.rangeSize i j k).toNat) b
 |_=>False
end
structure Def(P:Program)(w:World)(K:W.Frag)(mg:Str->Option Value)(base:Heap)(x:Str)(k:Nat)(ps:List Str)(sp:Sp):Prop where
 ex:∃f fd,jJ P w K mg base wW k f fd ps sp/\mg x=some (.ref f)/\W.keepIn K (.ref f)=true/\Binds K fd ps []
structure dq(K:W.Frag)(mg:Str->Option Value)(x qual:Str)(st:Stmt)(ps:List Str):Prop where
 ex:∃f fd,EJ K x qual st f fd/\mg x=some (.ref f)/\Binds K fd ps []
section
variable {P:Program}{w:World}{K:W.Frag}{mg:Str->Option Value}{base:Heap}
theorem dq.ok{x a:Str}{b:Stmt}{N c:List Str}{k:Nat}{sp:Sp}(T:dq K mg x a b c)(S:aE N c (ay b))(d:∀vs H Q E,sp vs H Q E->vs.length=c.length)
  (g:∀(f:Addr) (e:Value) (A:Around) (outer:List Env) (s:Shared) (H:Hp) (vs:List V) (Q:VK) (E:XK),d9 k (A.deeper (envOfC a (ay b) s.heap.objs.size f e))->sp vs H Q E->
   ∃t,qW (jK wW P w K mg base N a (ay b) f e A outer s H E).vC (cG b) t/\t {nx:=λ_ a=>Q .bM a,rt:=Q} (start N vs) H):Def P w K mg base x (k + 1) c sp:=by
 obtain⟨f,a,F,b,c⟩:=T.ex;calc⟨f,a,F.ok S d (g f),b,F.kp,c⟩
end
theorem Uk{X:Cx}{k j:Nat}{b:List Str}{sp:Sp}{x:Str}{p pos:Pos}{e:Expr}{a:List Expr}{t:TA}(D:Def X.prog X.w X.K X.mg X.base x k b sp)(c:d9 j X.A)(d:PA X (e::a) t)(g:Gl X x:=by rfl)(b:k<=j:=by decide)
  (h:(x==("__debug__":Str))=false:=by decide) (i:starEach (e::a) X.env=(false,eval e X.env)::starEach a X.env:=by rfl) (j:(backTo pos (starEach a X.env)).any (·.1)=false:=by rfl):
  PE X (.Call (.Name x p) (e::a) [] pos) (uo sp [] E0 t):=by
 obtain⟨f,l,F,a,e,k⟩:=D.ex;calc KD F (c.mono b) g a e k .nil BB d h i j
end
section
variable {p:Addr}{H H1:Hp}
section
variable {X:Cx}
def RY(K:W.Frag):R2:=λx y H Q=>match x,y with
 | .str z,.int i=>∃c,z.length<=sizeLine/\ia z.cps.toList i=some c/\Q (.str ⟨#[c]⟩) H
 | .ref p,.int i=>∃xs v,(aU K H p xs\/bI K H p xs)/\ia xs i=some v/\Q v H
 | .ref p,.str k=>∃v,jN H p (.str k) (some v)/\Q v H
 |_,_=>False
theorem ZY(c:X.A.units+64<cLine):TQ X (RY X.K):=by
  intro a b d s σ H x y v u Q I i j h k
  cases x<;>cases y<;>first
    |calc(show False from h).elim
    |(obtain⟨c,f,l,e⟩:=h;calc Pb a b d s σ H _ _ v u Q I i j ⟨_,_,c,rfl,rfl,f,l,e⟩ k)
    | (obtain⟨c,m,f | f,l,e⟩:=h
       · exact KJ a b d s σ H _ _ v u Q I i j ⟨_,c,_,m,rfl,rfl,f,l,e⟩ k
       · calc Pa a b d s σ H _ _ v u Q I i j ⟨_,c,_,m,rfl,rfl,f,l,e⟩ k)
    | (obtain⟨m,g,e⟩:=h
       cases i;calc tail_any (xA I g) PySem.F.slot_dict_getitem.lookup (Dn (by lia) I g j λc d a b=>⟨m,H,a,b,e⟩) k)
end
inductive DV where
 |bM|bl (b:Bool)|int (i:Int)|str (x:Str)|tup (ds:List DV)|lst (ds:List DV)|dict
inductive HD(H:Hp):Nat->V->DV->Prop
 |bM {n}:HD H n .bM .bM
 |bl {n} (b:Bool):HD H n (.bl b) (.bl b)
 |int {n} (i:Int):HD H n (.int i) (.int i)
 |str {n} (x:Str):HD H n (.str x) (.str x)
 |tup {n a xs ds}:H a=some (.tup xs)->xs.length=ds.length->(∀(i:Nat) u e,xs[i]?=some u->ds[i]?=some e->HD H n u e)->HD H (n+1) (.ref a) (.tup ds)
 |lst {n a xs ds}:H a=some (.lst xs)->xs.length=ds.length->(∀(i:Nat) u e,xs[i]?=some u->ds[i]?=some e->HD H n u e)->HD H (n+1) (.ref a) (.lst ds)
 |dict {n a bg}:H a=some (.dK bg)->HD H n (.ref a) .dict
theorem HD.same{H a:Hp}(s:av H a){n:Nat}{x:V}{d:DV}(h:HD H n x d):HD a n x d:=by
 induction h with
 |bM=>calc .bM
 |bl b=>calc .bl b
 |int i=>calc .int i
 |str x=>calc .str x
 |tup a b c d=>calc .tup (s _ _ a) b d
 |lst a b c d=>calc .lst (s _ _ a) b d
 |dict a=>calc .dict (s _ _ a)
theorem HD.mono{H:Hp}{n:Nat}{x:V}{d:DV}(h:HD H n x d):∀{m:Nat},n<=m->HD H m x d:=by
 induction h with
 |bM=>intro m _;calc .bM
 |bl b=>intro m _;calc .bl b
 |int i=>intro m _;calc .int i
 |str x=>intro m _;calc .str x
 |tup a b c f=>
  intro m g;obtain⟨k,rfl⟩:∃k,m=k+1:=⟨m-1,by lia⟩
  calc .tup a b λi u e p q=>f i u e p q (by lia)
 |lst a b c f=>
  intro m g;obtain⟨k,rfl⟩:∃k,m=k+1:=⟨m-1,by lia⟩
  calc .lst a b λi u e p q=>f i u e p q (by lia)
 |dict a=>intro m _;calc .dict a
inductive HT(H:Hp):Nat->V->DV->Prop
 |bM {n}:HT H n .bM .bM
 |bl {n} (b:Bool):HT H n (.bl b) (.bl b)
 |int {n} (i:Int):HT H n (.int i) (.int i)
 |str {n} (x:Str):HT H n (.str x) (.str x)
 |tup {n a xs ds}:H a=some (.tup xs)->xs.length=ds.length->(∀(i:Nat) u e,xs[i]?=some u->ds[i]?=some e->HT H n u e)->HT H (n+1) (.ref a) (.tup ds)
theorem HT.hd{H:Hp}{n:Nat}{x:V}{d:DV}(h:HT H n x d):HD H n x d:=by
 induction h with
 |bM=>calc .bM
 |bl b=>calc .bl b
 |int i=>calc .int i
 |str x=>calc .str x
 |tup a b c d=>calc .tup a b d
def bS(H a:Hp):Prop:=∀b xs,H b=some (.tup xs)->a b=some (.tup xs)
theorem av.aV{a:Hp}(h:av H a):bS H a:=λb a e=>h b _ e
theorem bS.refl(H:Hp):bS H H:=λ_ _ h=>h
theorem bS.trans{c:Hp}(a:bS H H1)(b:bS H1 c):bS H c:=λc o h=>b c o (a c o h)
theorem bS.upd{a:Hp}(h:bS H a){p:Addr}{o:HO}(d:∀xs,a p≠some (.tup xs)):bS H (upd a p o):=λb xs e=>by
 have c:=h b xs e;have:b≠p:=λz=>by subst z;exact d xs c
 rw[az this];calc c
theorem HT.aL{H a:Hp}(s:bS H a){n:Nat}{x:V}{d:DV}(h:HT H n x d):HT a n x d:=by
 induction h with
 |bM=>calc .bM
 |bl b=>calc .bl b
 |int i=>calc .int i
 |str x=>calc .str x
 |tup a b c d=>calc .tup (s _ _ a) b d
theorem av.new(o:HO)(a:H p=none):av H (upd H p o):=λb u e=>by rw[az (au e a)];calc e
def eS(H:Hp)(p:Addr):Prop:=∃a b,H p=some (.lst [.int a,.int b])
structure Step(p:Addr)(H H':Hp):Prop where
 gp:eS H' p
 rest:∀b o,H b=some o->b≠p->H' b=some o
theorem Step.refl(h:eS H p):Step p H H:=⟨h,λ_ _ e _=>e⟩
theorem Step.trans{c:Hp}(a:Step p H H1)(b:Step p H1 c):Step p H c:=⟨b.gp,λc o e n=>b.rest c o (a.rest c o e n) n⟩
theorem Step.same{c:Hp}(a:Step p H H1)(b:av H1 c):Step p H c:=
 ⟨let ⟨x,y,e⟩:=a.gp;⟨x,y,b _ _ e⟩,λc o e n=>b c o (a.rest c o e n)⟩
theorem Step.set(a:Step p H H1)(x y:Int):Step p H (upd H1 p (.lst [.int x,.int y])):=
 ⟨⟨x,y,af⟩,λc o e n=>by rw[az n];calc a.rest c o e n⟩
theorem Step.new{q:Addr}(a:Step p H H1){o:HO}(b:H1 q=none):Step p H (upd H1 q o):=a.same (av.new o b)
theorem Step.aV(a:Step p H H1)(c:eS H p):bS H H1:=λb d e=>a.rest b _ e λz=>by
 subst z;obtain⟨_,_,h⟩:=c;rw[h]at e;cases e
theorem Step.ne{q:Addr}(b:eS H p)(a:H q=none):q≠p:=λz=>by
 subst z;obtain⟨_,_,h⟩:=b;rw[h]at a;cases a
end
section
section
variable {X:Cx}
def PB(K:W.Frag):List V->Hp->VK->Prop:=λxs H Q=>match xs with
 | [x]=>∃n,FC K x H n/\Q (.int (n:Nat)) H
 |_=>False
theorem aP:fq X (.builtin "len") (PB X.K):=by
 intro a s σ H b c Q I r h
 match b,r,h with
 | [x],r,h=>
  obtain⟨n,b,d⟩:=h;calc FE a s σ H _ c Q I r ⟨x,n,rfl,b,d⟩
def uII(g:Int->Int->Int):List V->Hp->VK->Prop:=λxs H Q=>match xs with
 | [.int i,.int j]=>Q (.int (g i j)) H
 |_=>False
theorem Dv(b:X.calm=true):fq X (.builtin "max") (uII λi j=>if j > i then j else i):=by
 intro a s σ H c d Q I r h
 match c,r,h with
 | [.int i,.int j],r,h=>calc Dd b a s σ H _ d Q I r ⟨i,j,rfl,h⟩
def vR(K:W.Frag):List V->Hp->VK->Prop:=λxs H Q=>match xs with
 | [.ref p]=>(∃a,aU K H p a/\∀l,H l=none->Q (.ref l) (upd H l (.tup a)))\/(∃a,bI K H p a/\Q (.ref p) H)
 |_=>False
theorem cR:fq X (.type "tuple") (vR X.K):=by
 intro a s σ H b e Q I r h
 match b,r,h with
 | [.ref p],r,h=>
  rcases h with⟨b,c,d⟩|⟨b,c,d⟩
  ·exact l8 a s σ H _ e Q I r ⟨p,b,rfl,.inl ⟨c,d⟩⟩
  ·calc l8 a s σ H _ e Q I r ⟨p,b,rfl,.inr ⟨c,d⟩⟩
def MU(K:W.Frag):List V->Hp->VK->Prop:=λxs H Q=>match xs with
 | [.ref p]=>∃a,(aU K H p a\/bI K H p a)/\∀l,H l=none->Q (.ref l) (upd H l (.lst a))
 |_=>False
theorem cK:fq X (.type "list") (MU X.K):=by
 intro a s σ H b c Q I r h
 match b,r,h with
 | [.ref p],r,h=>
  obtain⟨b,d,e⟩:=h;calc vL a s σ H _ c Q I r ⟨p,b,rfl,d,e⟩
def MV:V->V->V->Hp->(Hp->Prop)->Prop:=λo i v H Q=>match o,i with
 | .ref p,.int k=>∃xs j,H p=some (.lst xs)/\qu xs.length k=some j/\Q (upd H p (.lst (xs.set j v)))
 |_,_=>False
theorem eI:ON X MV:=by
 intro a s σ H o i v b c u Q I d e f h
 cases o<;>cases i<;>first
  |calc(show False from h).elim
  |(obtain⟨g,j,i,k,l⟩:=h;calc set_list a s σ H _ _ v b c u Q I d e f ⟨_,g,_,j,rfl,rfl,i,k,l⟩)
end
theorem Ul{CX P w K mg base N qual scope f cd A outer s H E}:(jK CX P w K mg base N qual scope f cd A outer s H E).vC.K=K:=rfl
theorem MW{X:Cx}:X.vC.K=X.K:=rfl
theorem Gh{CX P w K mg base N qual scope f cd A outer s H E}:(jK CX P w K mg base N qual scope f cd A outer s H E).K=K:=rfl
theorem MX{X:Cx}{scope C N' a b fp}:(T9 X scope C N' a b fp).K=X.K:=rfl
theorem du:2<=sizeLine:=by decide
end
section
variable {g:Int->Int->V}
section
variable {K:W.Frag}{H:Hp}{Q:VK}{i j:Int}{a b:Addr}{x y:V}{s t:Str}
theorem BE:Pr (.int i) (.int j) H Q=Q (.int (i+j)) H:=rfl
theorem BF:Pr (.str s) (.str t) H Q=(s.length+t.length<=sizeLine/\Q (.str (s++t)) H):=rfl
theorem BG:Pr (.ref a) (.ref b) H Q=∃xs c,H a=some (.lst xs)/\H b=some (.lst c)/\xs.length+c.length<=sizeLine/\∀p,H p=none->Q (.ref p) (upd H p (.lst (xs++c))):=rfl
theorem MY{C:Int->Int->Prop}:uI C g (.int i) (.int j) H Q=(C i j/\Q (g i j) H):=rfl
theorem Gi:Pt g (.int i) (.int j) H Q=Q (g i j) H:=rfl
theorem Gj:decide (V.int i=V.int j)=decide (i=j):=by simp
theorem Gk:decide (V.str s=V.str t)=decide (s=t):=by simp
theorem vS:Px K (.int i) (.int j) H Q=Q (.bl (decide (i=j))) H:=by
 show(true=true/\Q (.bl (decide (V.int i=V.int j))) H)=_;rw[Gj];simp
theorem vT:Px K (.str s) (.str t) H Q=Q (.bl (decide (s=t))) H:=by
 show(true=true/\Q (.bl (decide (V.str s=V.str t))) H)=_;rw[Gk];simp
theorem vU:RX K (.int i) (.int j) H Q=Q (.bl (!decide (i=j))) H:=by
 show(true=true/\Q (.bl (!decide (V.int i=V.int j))) H)=_;rw[Gj];simp
theorem vV:RX K (.str s) (.str t) H Q=Q (.bl (!decide (s=t))) H:=by
 show(true=true/\Q (.bl (!decide (V.str s=V.str t))) H)=_;rw[Gk];simp
theorem Gm:Px K (.ref a) (.ref b) H Q=((kH K H 20 (.ref a) (.ref b)/\Q (.bl true) H)\/(rM K H a b/\Q (.bl false) H)):=rfl
theorem Gn:RX K (.ref a) (.ref b) H Q=((kH K H 20 (.ref a) (.ref b)/\Q (.bl false) H)\/(rM K H a b/\Q (.bl true) H)):=rfl
theorem Gq{g:Bool->Bool}{c d:Bool}:Uj g (.bl c) (.bl d) H Q=Q (.bl (g (c==d))) H:=rfl
theorem MZ{b:Bool}:uIn K b x (.ref a) H Q=∃xs,(aU K H a xs\/bI K H a xs)/\gr x=true/\xs.all gr=true/\Q (.bl (if b then !Bv x xs else Bv x xs)) H:=rfl
theorem Gr:RY K (.ref a) (.int i) H Q=∃xs v,(aU K H a xs\/bI K H a xs)/\ia xs i=some v/\Q v H:=rfl
theorem Gs:RY K (.ref a) (.str s) H Q=∃v,jN H a (.str s) (some v)/\Q v H:=rfl
theorem Gu:RY K (.str s) (.int i) H Q=∃c,s.length<=sizeLine/\ia s.cps.toList i=some c/\Q (.str ⟨#[c]⟩) H:=rfl
theorem Gv{n:String}:ZX K [x,.ty n] H Q=∃t b,gv K H x t/\W.kitOne K t (.type n)=some b/\Q (.bl b) H:=rfl
theorem Gw:PB K [x] H Q=∃n,FC K x H n/\Q (.int (n:Nat)) H:=rfl
theorem M0{g:Int->Int->Int}:uII g [.int i,.int j] H Q=Q (.int (g i j)) H:=rfl
theorem nS:vR K [.ref a] H Q=((∃b,aU K H a b/\∀l,H l=none->Q (.ref l) (upd H l (.tup b)))\/(∃b,bI K H a b/\Q (.ref a) H)):=rfl
theorem BH:MU K [.ref a] H Q=∃b,(aU K H a b\/bI K H a b)/\∀l,H l=none->Q (.ref l) (upd H l (.lst b)):=rfl
theorem xG{R:Hp->Prop}:MV (.ref a) (.int i) x H R=∃xs j,H a=some (.lst xs)/\qu xs.length i=some j/\R (upd H a (.lst (xs.set j x))):=rfl
theorem uF{α:Type}{o:Option α}:(some o).join=o:=rfl
end
theorem Step.base{p:Addr}{a b c:Hp}(s:av a b)(d:a p=none)(f:L2.Step p b c):av a c:=λb o e=>f.rest b o (s b o e) (au e d)
end
section
variable {r:List V->Hp->VK->Prop}
def dF:Expr->Bool
 | .Starred ..=>false
 |_=>true
theorem dP{e:Expr}{a:List Expr}{env:Env}(h:dF e=true):starEach (e::a) env=(false,eval e env)::starEach a env:=by
 cases e<;>first|rfl|calc absurd h U'
theorem ft{pos:Pos}{env:Env}:∀{a:List Expr},a.all dF=true->(backTo pos (starEach a env)).any (·.1)=false
 | [],_=>rfl
 |e::a,h=>by
  rw[List.all_cons,Bool.and_eq_true]at h;rw[dP h.1];show(false||(backTo pos (starEach a env)).any (·.1))=false;rw[ft h.2];rfl
def zS:Expr->Bool
 | .ListComp ..=>false
 | .SetComp ..=>false
 | .DictComp ..=>false
 |_=>true
theorem gL{e:Expr}{t:Option Expr}{l:Nat}{env:Env}(h:zS e=true):swapsWith e t l env=pure false:=by
 cases e<;>first|rfl|calc absurd h U'
section
variable {X:Cx}{e:Expr}{es:List Expr}{te:TE}{t:TA}{pos p:Pos}{x:Str}
theorem ag(a:PE X e te)(b:PA X es t)(h:dF e=true:=by rfl):PA X (e::es) (xl te t):=KA a b (dP h)
theorem aM{k j:Nat}{a:List Str}{sp:Sp}(D:Def X.prog X.w X.K X.mg X.base x k a sp)(b:d9 j X.A)(c:PA X (e::es) t)(d:Gl X x:=by rfl)(a:k<=j:=by decide)
  (f:(x==("__debug__":Str))=false:=by decide) (g:dF e=true:=by rfl) (h:es.all dF=true:=by rfl):
  PE X (.Call (.Name x p) (e::es) [] pos) (uo sp [] E0 t):=Uk D b c d a f (dP g) (ft h)
theorem bc{a:String}(b:fq X (.builtin a) r)(c:Gl X x)(d:X.mg x=none)(f:bootBuiltins x=some (.builtin a))(g:PA X (e::es) t)(h:x≠"__name__":=by decide)(a:(x==("__debug__":Str))=false:=by decide)
  (i:dF e=true:=by rfl) (j:es.all dF=true:=by rfl):PE X (.Call (.Name x p) (e::es) [] pos) (RT r t):=FL b c d f g h a (dP i) (ft j)
theorem dQ{T:String}(a:fq X (.type T) r)(b:Gl X x)(c:X.mg x=none)(d:bootBuiltins x=some (.type T))(f:PA X (e::es) t)(g:x≠"__name__":=by decide)(h:(x==("__debug__":Str))=false:=by decide)
  (i:dF e=true:=by rfl) (j:es.all dF=true:=by rfl):PE X (.Call (.Name x p) (e::es) [] pos) (RT r t):=Dh a b c d f g h (dP i) (ft j)
theorem bb{i:Nat}{a:Pos}(b:X.N.Nodup)(c:X.N[i]?=some x)(d:Loc X.env.scope x)(f:PE X e te)(h:zS e=true:=by rfl)(g:X.fn x=true\/X.env.scope.names.lookup x=some .local:=by grind):
  PS X (.Assign [.Name x a] e pos) (CY te (hX i)):=Fq b c d f (gL h) g
theorem bV(a:PE X e te)(h:zS e=true:=by rfl):PS X (.Expr e pos) (xj te):=Km a (gL h)
end
end
section
def vW:Expr->Bool
 | .Slice ..=>false
 |_=>true
theorem Gx{b:Expr}(h:vW b=true):Bt b:=λo i=>by
 cases b<;>first|rfl|calc absurd h U'
theorem ak{X:Cx}{a b:Expr}{c d:TE}{pos:Pos}(e:X.A.units+64<cLine)(f:PE X a c)(g:PE X b d)(h:vW b=true:=by rfl):PE X (.Subscript a b pos) (Ks (RY X.K) c d):=TU (ZY e) f g (Gx h)
end
section
def rN:List Value:=[.type "ValueError",.type "Exception",.type "BaseException",.type "object"]
section
variable {prog:Program}{w:World}{A:Around}{h:Heap}{g:Array GenState}{d:Drawn}{t:Nat}{os:OsState}
variable {nm q:Str}{C B N:Addr}{bs:List Value}{sn:List Str}{sub:List Value}{ab:Bool}{col:Option Bool}{dd:Option Addr}{k0 k1 k2 k3 k5:Option Value}
theorem zT{M:Model}{E:Value->Shared->Prop}{rest:List Value}{Q:Unit->Shared->Prop}(a:h.get? C=some (excClassObj nm q C N bs (.ref B::rN) true sn sub ab col dd k0 k1 k2 k3 k5 "ValueError.__new__"))
  (c:Q () ⟨h,g,d,t,os⟩):wpAny M A (checkBuiltinCall "ValueError.__new__" ⟨.ref C::rest,[]⟩) Q E ⟨h,g,d,t,os⟩:=by
 have b:=XJ;have e:(Value.ref C::.ref B::rN).contains (.type "ValueError")=true:=rfl;have f:=b.noStar;simp only[checkBuiltinCall,b.newKind,b.newSplit,b.newRow]
 repeat (first|calc aaC a ?_|(calc wpAny_isSubtype_exc a ?_;rw[e])|calc wpAny_staticBase_exc a ?_|calc wpAny_madeBy_exc a ?_|simp only[bne_self_eq_false,Bool.false_eq_true,if_false]|wp_step)
 calc c
theorem Dw{R:Result->Shared->Prop}{rest:List Value}(b:h.get? C=some (excClassObj nm q C N bs (.ref B::rN) true sn sub ab col dd k0 k1 k2 k3 k5 "ValueError.__new__"))
  (i:R (.ok (.ret (.ref (h.objs.size + 1)))) ⟨(h.push {cls:=.type "tuple",data:=.seq rest.toArray}).push
   {cls:=.ref C,data:=.fields #[.ref h.objs.size,.none,.none,.none,.bool false,.none]},g,d,t,os⟩) (a:rest.length<=sizeLine):
  codeAny (model prog w) A (.builtin "ValueError.__new__" ⟨.ref C::rest,[]⟩) R ⟨h,g,d,t,os⟩:=by
 have a:=XJ;have c:=a.ends;have j:(Value.ref C::.ref B::rN).contains (.type "ValueError")=true:=rfl;have c:(Value.ref C::.ref B::rN).contains (.type "AttributeError")=false:=rfl;have e:(Value.ref C::.ref B::rN).contains (.type "NameError")=false:=rfl;refine codeAny_builtinAt a.entry ?_;unfold Builtin.«BaseException.__new__»;refine PySem.wpAt_bind ?_;show PySem.wpAt _ _ _ (stack >>= _) _ _ _;refine PySem.wpAt_bind (PySem.wpAt_stack λp f=>PySem.wpAt_of_wpAny ?_);wp_walk;refine PySem.wpAt_of_wpAny ?_;rw[a.owner]
 repeat (first|with_reducible calc wpAny_madeHere_exc a.canon b ?_|with_reducible calc aaC b ?_|(with_reducible calc wpAny_isSubtype_exc b ?_;first|rw[j]|rw[c]|rw[e])|wp_step)
 show R _ _;rw[Heap.size_push];calc i
end
end
end L2
set_option maxHeartbeats 400000
namespace L2
open PySem PySem.Spec PyProof.Rows
section
structure iX(K:W.Frag)(C B:Addr):Prop where
 ob:∃nm q N bs sn sub ab col dd k0 k1 k2 k3 k5,K.lookup C=some (excClassObj nm q C N bs (.ref B::rN) true sn sub ab col dd k0 k1 k2 k3 k5 "ValueError.__new__")
 ga:W.findIn K (.ref C) "__getattribute__"=some (some (.builtin "BaseException.__getattribute__"))
 gt:W.findIn K (.ref C) "__getattr__"=some none
 sa:W.findIn K (.ref C) "__setattr__"=some (some (.builtin "object.__setattr__"))
 cl:W.findIn K (.ref C) "__class__"=some (some (.builtin "object.__class__"))
 cg:W.specialIn K (.builtin "object.__class__") "__get__"=some (some (.builtin "getset_descriptor.__get__"))
 ct:W.takesIn K (.builtin "object.__class__")=some true
 kp:W.keepIn K (.ref C)=true
theorem iX.cd{K:W.Frag}{C B:Addr}(c:iX K C B):∃cd:ClassData,W.clsIn K C=some cd/\cd.mro=.ref C::.ref B::rN/\cd.hasDict=true:=by
 obtain⟨d,q,N,f,g,a,h,b,i,j,k,l,m,n,e⟩:=c.ob;calc⟨_,by unfold W.clsIn;rw[e],rfl,rfl⟩
theorem iX.mro{K:W.Frag}{C B:Addr}(c:iX K C B)(v:Value):W.mroIn K C v=some ((.ref C::.ref B::rN).contains v):=by
 obtain⟨cd,e,a,_⟩:=c.cd;unfold W.mroIn;rw[e,Option.bind_some,a];rfl
section
variable {prog:Program}{w:World}{A:Around}{E:Value->Shared->Prop}{s:Shared}{K:W.Frag}{x C B:Addr}{ox:Obj}{od:Option Obj}{name:Str}
open PySem.W in
theorem RZ{v:Value}{a:Tok}{R:Result->Shared->Prop}(X:K.In s.heap)(I:InstAt s.heap x ox C od)(c:iX K C B)(e:findObj K C od name=some (.value v))(h:R (.ok (.ret v)) s):
  codeAny (model prog w) A (.call (.builtin "BaseException.__getattribute__") ⟨[.ref x,.str name a],[]⟩) R s:=by
 have f:=Za;have i:builtinKind "BaseException.__getattribute__"=some .slot:=by decide +kernel
 have j:splitId "BaseException.__getattribute__"=some ("BaseException","__getattribute__"):=by decide +kernel
 have b:=I.type (M:=model prog w);have k:mroIn K C (.type "BaseException")=some true:=(c.mro _).trans rfl;have L2:Looks (model prog w) s.heap (isInstance (.ref x) (.type "BaseException")) true:=b.andThen (looks_mroIn X k);refine codeAny_call_builtin f.ga.plain PySem.F.entry_bexc_ga (@check_slot (model prog w) _ _ s "BaseException.__getattribute__" "BaseException" "__getattribute__" (.ref x) [.str name a] [] _ i j L2 (PySem.F.args_bexc_ga _ _) ?_);obtain⟨c,g,d,t,l⟩:=s;have a:=looks_find (M:=model prog w) X I e;refine j' (P' (j' (P' (j' (b.here (j' (a.here ?_)))))));exact P' h
open PySem.W in
theorem zV{g a:Value}{b:Tok}{R:Result->Shared->Prop}(X:K.In s.heap)(I:InstAt s.heap x ox C od)(c:iX K C B)(f:findObj K C od name=some (.bind g a))
  (h:∀A,wpAny (model prog w) A (call g [a,.ref x,.ref C]) (λv s'=>R (.ok (.ret v)) s') (λe s'=>R (.error e) s') s):
  codeAny (model prog w) A (.call (.builtin "BaseException.__getattribute__") ⟨[.ref x,.str name b],[]⟩) R s:=by
 have i:=Za;have j:builtinKind "BaseException.__getattribute__"=some .slot:=by decide +kernel
 have k:splitId "BaseException.__getattribute__"=some ("BaseException","__getattribute__"):=by decide +kernel
 have e:=I.type (M:=model prog w);have l:mroIn K C (.type "BaseException")=some true:=(c.mro _).trans rfl;have L2:Looks (model prog w) s.heap (isInstance (.ref x) (.type "BaseException")) true:=e.andThen (looks_mroIn X l);refine codeAny_call_builtin i.ga.plain PySem.F.entry_bexc_ga (@check_slot (model prog w) _ _ s "BaseException.__getattribute__" "BaseException" "__getattribute__" (.ref x) [.str name b] [] _ j k L2 (PySem.F.args_bexc_ga _ _) ?_);obtain⟨c,m,d,t,n⟩:=s;have b:=looks_find (M:=model prog w) X I f;refine j' (P' (j' (P' (j' (e.here (j' (b.here ?_)))))));show wpAny _ _ (Builtin.ObjectAttr.bindTo g a (.ref x) (.ref C)) _ _ _;exact j' (wpAny_holding (aas (h _) (λv s' z=>P' z) λ_ _ z=>z))
end
end
section
section
variable {prog:Program}{w:World}{A:Around}{E:Value->Shared->Prop}{s:Shared}{K:W.Frag}{x C B:Addr}{ox:Obj}{od:Option Obj}{name:Str}
open PySem.W in
open PySem.W in
theorem PF{Q:Option Value->Shared->Prop}(X:K.In s.heap)(I:InstAt s.heap x ox C od)(c:iX K C B)(h:Q (some (.ref C)) {s with toks:=s.toks+1}):
  wpAny (model prog w) A (getAttr? (.ref x) "__class__") Q E s:=by
 obtain⟨a,g,d,t,b⟩:=s;have f:=Za;have i:=I.type (M:=model prog w);have j:=looks_findIn (M:=model prog w) X c.ga;have L2:=looks_findIn (M:=model prog w) X c.gt;have k:mroIn K C (.type "object")=some true:=(c.mro _).trans rfl;have l:findObj K C od "__class__"=some (.bind (.builtin "getset_descriptor.__get__") (.builtin "object.__class__")):=by
  obtain⟨cd,e,_⟩:=c.cd;unfold findObj;rw[e,Option.bind_some,c.cl,Option.bind_some];simp[c.cg,c.ct]
 unfold getAttr? getAttrBy? getAttrBy;calc j' (wpAny_mkText (j' (wpAny_attempt (wpAny_holding (j' (i.at (j' (j.at ?_))))))));show wpAny _ _ (getAttrByItsOwn _ _ _ _ _ _) _ _ _;unfold getAttrByItsOwn callGetattribute boundAndCalled;calc j' (L2.at (j' (wpAny_attempt (wpAny_holding ?_))));simp only[Bool.false_and,Bool.false_eq_true,if_false];rw[f.ga.bind];calc j' (P' (wpAny_call ?_));calc zV (s:=⟨a,g,d,t+1,b⟩) X I c l λe=>?_;calc wpAny_call (class_get (s:=⟨a,g,d,t+1,b⟩) (ox:=ox) (od:=od) X I k ?_);show wpAny _ _ (handedOut (.ref C)) _ _ _;exact P' (P' h)
open PySem.W in
theorem xH(c:iX K C B):KitX K (.ref x) (.ref C) (λh=>∃ox od,InstAt h x ox C od) where
 ty:=λ_ _ _ I=>let ⟨_,_,I⟩:=I;I.type
 it:=λ_ _ X _=>by
  obtain⟨i,q,N,j,l,a,m,b,g,o,p,r,t,u,d⟩:=c.ob;intro n v y z k q;unfold isType loadHead;exact j' (wpAny_loadPart (k _ _ (X _ _ d)) (P' q))
 ne:=λh v g y n z X w=>by
  obtain⟨i,q,N,j,l,a,m,b,g,o,p,r,t,u,d⟩:=c.ob;calc Bool.eq_false_iff.mpr λq=>?_;have e:C=v:=Value.ref.inj (beq_iff_eq.mp q);subst e;have z:=(X _ _ d).symm.trans w;have a:=congrArg (Option.map Obj.cls) z;simp at a
 ca:=λX I k=>let ⟨_,_,I⟩:=I;PF X I c k
end
end
section
def XOb(C:Addr)(d:Option Addr)(c:Bool)(a:Addr)(h:Heap):Prop:=∃b e,h.get? a=some (⟨.ref C,d,.fields b,e⟩:Obj)/\(c=true->b[1]?=some .none)
abbrev XO(a C:Addr)(d:Option Addr)(b:Bool):HO:=.ext (XOb C d b a)
def XDb(c:List (Str×V))(a:Addr)(h:Heap):Prop:=∃b,h.Ns1 a b/\(∀f,jZ (c.lookup f) (b f))/\PySem.Within b (c.map (·.1))
abbrev XD(a:Addr)(b:List (Str×V)):HO:=.ext (XDb b a)
section
variable {P:Program}{w:World}{H:Hp}{h:Heap}{a C:Addr}{d:Option Addr}{fl:Bool}
theorem M3{b:Array Value}{c:Array (Option Value)}(e:h.get? a=some (⟨.ref C,d,.fields b,c⟩:Obj))(f:fl=true->b[1]?=some .none):cQ P w H h a (XO a C d fl):=
 ⟨⟨b,c,e,f⟩,⟨_,e⟩,λ_ _ ⟨b,c,e,f⟩ k=>⟨b,c,k _ e,f⟩⟩
theorem PH(x:cQ P w H h a (XO a C d fl)):XOb C d fl a h:=x.1
theorem Gy{b:List (Str×V)}(x:cQ P w H h a (XD a b)):XDb b a h:=x.1
end
end
section
section
variable {X:Cx}{pins:List (Addr×Obj)}{σ:St}{H:Hp}{s:Shared}{a C B dx:Addr}{fs:List (Str×V)}{f:Str}{v:V}{A:Around}{E:Value->Shared->Prop}
theorem vX{b:Bool}(I:Inv X pins σ H s){d:Option Addr}(e:H a=some (XO a C d b)):∃vs c,s.heap.get? a=some (⟨.ref C,d,.fields vs,c⟩:Obj)/\(b=true->vs[1]?=some .none):=PH (I.aZ a _ e)
theorem Gz{c:Bool}(I:Inv X pins σ H s){d:Option Addr}(e:H a=some (XO a C d c)):∃vs b,s.heap.get? a=some (⟨.ref C,d,.fields vs,b⟩:Obj):=by
 obtain⟨vs,b,h,_⟩:=vX I e;calc⟨vs,b,h⟩
theorem zW{f:Bool}{c:Value}{b:Bool}{d:Option Addr}{Q:Value->Shared->Prop}(I:Inv X pins σ H s)(e:H a=some (XO a C d f))(g:∀dx,d=some dx->∃fs,H dx=some (XD dx fs))(i:iX X.K C B)
  (k:W.kitOne X.K (.ref C) c=some b) (h:∀f,Q (.bool b) {s with toks:=f}):wpAny (model X.prog X.w) A (call (.builtin "isinstance") [.ref a,c]) Q E s:=by
 calc W.kia_one (xH i) I.ic ?_ k (λz=>nomatch z) h;obtain⟨b,c,q⟩:=Gz I e
 cases d with
 |none=>calc⟨_,none,q,rfl,rfl,aaF⟩
 |some dx=>
  obtain⟨fs,z⟩:=g dx rfl;obtain⟨_,⟨o,_,_,b,_⟩,_⟩:=Gy (I.aZ dx _ z);calc⟨_,some o,q,rfl,rfl,b⟩
end
end
section
variable {E:Value->Shared->Prop}
section
variable {prog:Program}{w:World}{A:Around}{h:Heap}{g:Array GenState}{d:Drawn}{t:Nat}{os:OsState}
variable {nm q:Str}{C B N:Addr}{bs:List Value}{sn:List Str}{sub:List Value}{ab:Bool}{col:Option Bool}{dd:Option Addr}{k0 k1 k2 k3 k5:Option Value}
theorem xI{M:Model}{e:Addr}{a:Obj}{rest:List Value}{Q:Unit->Shared->Prop}
  (b:h.get? C=some (excClassObj nm q C N bs (.ref B::rN) true sn sub ab col dd k0 k1 k2 k3 k5 "ValueError.__new__")) (c:h.get? e=some a) (f:a.cls=.ref C) (i:Q () ⟨h,g,d,t,os⟩):
  wpAny M A (checkBuiltinCall "ValueError.__init__" ⟨.ref e::rest,[]⟩) Q E ⟨h,g,d,t,os⟩:=by
 have a:=XJ;have j:(Value.ref C::.ref B::rN).contains (.type "ValueError")=true:=rfl;have k:=a.noStar;simp only[checkBuiltinCall,a.initKind,a.initSplit,a.initRow]
 repeat (first|(with_reducible calc aaC c ?_;rw[f])|with_reducible calc aaC b ?_|(with_reducible calc wpAny_isSubtype_exc b ?_;rw[j])|wp_step)
 calc wpAny_onRaise ?_;rw[show ∀(a b:String) (n:Nat),Bind.check ⟨.positional,"*","ValueError",.self,[⟨"args",.varPos,false⟩]⟩ a b n (List.map (λx=>x.fst) ({pos:=Value.ref e::rest}:Args).kw)=pure () from
  λa b n=>check_star_args _ _ _ _ _ _]
 calc P' i
theorem xJ{K:W.Frag}{rest:List Value}{Q:PySem.Fin->Shared->Prop}(X:K.In h)
    (c:h.get? C=some (excClassObj nm q C N bs (.ref B::rN) true sn sub ab col dd k0 k1 k2 k3 k5 "ValueError.__new__"))
    (j:W.findIn K (.ref C) "__init__"=some (some (.builtin "ValueError.__init__")))
    (k:∀h' a,a[1]?=some .none->(∀b o,h.get? b=some o->h'.get? b=some o)->h'.get? (h.objs.size+1)=some (⟨.ref C,none,.fields a,#[]⟩:Obj)->Q (.done (.ret (.ref (h.objs.size+1)))) ⟨h',g,d,t,os⟩) (e:rest.length<=sizeLine):
    wpAny (model prog w) A (Builtin.«type.__call__» ⟨.ref C::rest,[]⟩) Q E ⟨h,g,d,t,os⟩:=by
  have f:=XJ
  repeat (first|with_reducible calc aaC c ?_|with_reducible calc wpAny_madeBy_exc c ?_|wp_step)
  calc codeAny_call_builtin_code (Code.quiet_builtin _ f.quiet) (zT c ?_);calc Dw c ?_ e;show wpAny _ _ _ _ _ _;have i:∀b o,h.get? b=some o->((h.push {cls:=.type "tuple",data:=.seq rest.toArray}).push {cls:=.ref C,data:=.fields #[.ref h.objs.size,.none,.none,.none,.bool false,.none]}).get? b=some o:=
    λb o e=>J' _ (J' _ e)
  have a:=i _ _ c;have e:=X.keeps i;have c:((h.push {cls:=.type "tuple",data:=.seq rest.toArray}).push
      {cls:=.ref C,data:=.fields #[.ref h.objs.size,.none,.none,.none,.bool false,.none]}).get? (h.objs.size + 1)=some
      {cls:=.ref C,data:=.fields #[.ref h.objs.size,.none,.none,.none,.bool false,.none]}:=by heap_get
  have i:(Value.ref C::.ref B::rN).contains (.ref C)=true:=by simp
  unfold isInstance
  repeat (first|with_reducible calc aaC c ?_|(with_reducible calc wpAny_isSubtype_exc a ?_;rw[i])|wp_step)
  show wpAny _ _ (typeLookup (.ref C) _) _ _ _;calc(W.looks_findIn e j).here ?_;calc wpAny_holding (j' (wpAny_of_eq (f.init.bind _) ?_));calc j' (wpAny_call (codeAny_call_builtin f.init.plain f.initEntry (xI a c rfl ?_)));wp_walk;refine k _ #[.ref (h.objs.size+2),.none,.none,.none,.bool false,.none] rfl (λb o i=>?_) ?_
  · rw[Heap.get?_update_other _ _ (Nat.ne_of_gt (Nat.lt_succ_of_lt (Heap.lt_size i)))];exact J' _ (J' _ (J' _ i))
  · rw[Heap.get?_update_self _ (Heap.get?_push_of_some _ c) rfl];simp only[Heap.size_push];rfl
theorem PK{K:W.Frag}{rest:List Value}{Q:Value->Shared->Prop}(X:K.In h)
  (a:h.get? C=some (excClassObj nm q C N bs (.ref B::rN) true sn sub ab col dd k0 k1 k2 k3 k5 "ValueError.__new__"))
  (e:W.findIn K (.ref C) "__init__"=some (some (.builtin "ValueError.__init__")))
  (f:∀h' c,c[1]?=some .none->(∀b o,h.get? b=some o->h'.get? b=some o)->h'.get? (h.objs.size+1)=some (⟨.ref C,none,.fields c,#[]⟩:Obj)->Q (.ref (h.objs.size+1)) ⟨h',g,d,t,os⟩) (i:rest.length<=sizeLine):
  wpAny (model prog w) A (call (.ref C) rest) Q E ⟨h,g,d,t,os⟩:=by
 have b:=tc_lookup;have b:=tc_bind (.ref C);have b:(⟨h,g,d,t,os⟩:Shared).TypeIs (.ref C) "type":=⟨_,a,rfl⟩
 calc wpAny_call (codeAny_of_tree ?_);show wpAny _ _ (callAny (.ref C) _) _ _ _
 repeat (any_goals (first|assumption|with_reducible calc aaC a ?_|wp_step))
 calc⟨rfl,?_⟩;calc codeAny_call_builtin_at (Code.quiet_builtin _ (by decide +kernel)) entry_typeCall (wpAny_check_type_call_sub a (xJ X a e ?_ i));calc f
end
structure nU(K:W.Frag)(mg:Str->Option Value)(x:Str)(C B:Addr):Prop where
 cl:iX K C B
 init:W.findIn K (.ref C) "__init__"=some (some (.builtin "ValueError.__init__"))
 mg:mg x=some (.ref C)
def tX0(C:Addr)(t:TA):TE:=λσ H Q=>t σ H λvs b=>vs.length<=1/\∀a,b a=none->Q (.ref a) (upd b a (XO a C none true))
section
variable {X:Cx}{pins:List (Addr×Obj)}{σ:St}{H:Hp}{s:Shared}{C B:Addr}{x:Str}{p pos:Pos}{e:Expr}{es:List Expr}{t:TA}
theorem PM{Q:VK}{us:List Value}(M:nU X.K X.mg x C B)(I:Inv X pins σ H s)(b:us.length<=1)(h:∀a,H a=none->Q (.ref a) (upd H a (XO a C none true))):
  wpAny (model X.prog X.w) X.A (call (.ref C) us) (EP X pins σ Q) X.xe s:=by
 obtain⟨d,q,N,f,g,b,i,c,j,k,l,m,n,o,e⟩:=M.cl.ob;obtain⟨b,g,d,t,c⟩:=s;have c:H (b.objs.size+1)=none:=I.aZ.fresh (Nat.le_succ _);calc PK (h:=b) I.ic (I.ic _ _ e) M.init (λi j d f g=>⟨V.ref (b.objs.size+1),_,I.laid (a:=b.objs.size+1) f (Nat.le_succ _) (M3 g λ_=>d),rfl,h _ c⟩) (by rw[sizeLine_eq];lia)
theorem M4(M:nU X.K X.mg x C B)(b:PA X (e::es) t)(a:Gl X x:=by rfl)(c:(x==("__debug__":Str))=false:=by decide)
  (d:dF e=true:=by rfl) (f:es.all dF=true:=by rfl):PE X (.Call (.Name x p) (e::es) [] pos) (tX0 C t):=by
 walk_at "xc";refine wpAny_Call_Name_kw (j0 I a M.mg ?_ c);refine W.callWith_K (h₀:=X.base) I.ok.mod.xg M.cl.kp (cX (b pos pins s σ H _ I h) λc i ⟨j,k,a,r,g,q⟩=>⟨a.ic,?_⟩) (dP d) (ft f);exact PM M a (by show c.length<=1;rw[<-r.length];exact g) q
end
end
end L2
set_option maxHeartbeats 4000000
namespace PySem
variable {a j:Addr}{aO:Array Value}{b:Bool}{h:Heap}{Q:Value->Shared->Prop}
section
variable {prog:Program}{w:World}{A:Around}{E:Value->Shared->Prop}{s:Shared}
theorem qH{n:Nat}{v:Value}(b:s.heap.IsTupleIter j a n)(f:s.heap.IsTuple a aO)(h:aO[n]?=some v)
  (q:∀g,g.IsTupleIter j a (n+1)->Heap.SameBut j s.heap g->Q v {s with heap:=g}):wpAny (model prog w) A (Builtin.SmallTypes.nextOf (.ref j)) Q E s:=by
 obtain⟨g,e,c,d⟩:=id b;obtain⟨k,g,_,l,i⟩:=f;unfold Builtin.SmallTypes.nextOf;refine j' (wpAny_callSpecial?_slot (name:=Str.ofString "__next__") b.typeIs F.slot_tuple_iterator_next (wpAny_call_entry F.slot_tuple_iterator_next b.typeIs F.entry_tuple_iterator_next ?_ (F.args_tuple_iterator_next_1 _)));refine j' (m:=field (.ref j) 0) (aay e d (x:=.ref a) rfl ?_);show wpAny _ _ (if (Value.ref a==Value.none)=true then _ else _) _ _ _;rw[if_neg (by exact Bool.false_ne_true)];refine j' (m:=field (.ref j) 1) (aay e d (x:=.int n 0) rfl ?_);refine j' (m:=seqItems? (.ref a)) (wpAny_seqItems g i ?_);simp only[Int.toNat_natCast,h];refine j' (wpAny_setField e d (by simp) (P' ⟨v,rfl,P' (q _ ⟨_,Heap.get?_update_self _ e (Obj.isFreed_of_fields (Obj.data_mapFields d _)),(Obj.cls_mapFields ..).trans c,?_⟩ (Heap.SameBut.update ..))⟩));rw[Obj.data_mapFields d];simp[rawInt]
theorem rO{n:Nat}(f:A.handled=none)(b:s.heap.IsTupleIter j a n)(h:s.heap.IsTuple a aO)(i:aO[n]?=none)
  (q:∀g e,Heap.ExtBut j s.heap g->(∃o,g.get? e=some o/\o.cls=.type "StopIteration")->E (.ref e) {s with heap:=g}):wpAny (model prog w) A (Builtin.SmallTypes.nextOf (.ref j)) Q E s:=by
 obtain⟨g,e,c,d⟩:=id b;obtain⟨k,c,_,l,g⟩:=h;unfold Builtin.SmallTypes.nextOf;refine j' (wpAny_callSpecial?_slot (name:=Str.ofString "__next__") b.typeIs F.slot_tuple_iterator_next (wpAny_call_entry F.slot_tuple_iterator_next b.typeIs F.entry_tuple_iterator_next ?_ (F.args_tuple_iterator_next_1 _)));refine j' (m:=field (.ref j) 0) (aay e d (x:=.ref a) rfl ?_);show wpAny _ _ (if (Value.ref a==Value.none)=true then _ else _) _ _ _;rw[if_neg (by exact Bool.false_ne_true)];refine j' (m:=field (.ref j) 1) (aay e d (x:=.int n 0) rfl ?_);refine j' (m:=seqItems? (.ref a)) (wpAny_seqItems c g ?_);simp only[Int.toNat_natCast,i];refine j' (wpAny_rule (j' (wpAny_setField e d (by simp) (j' (m:=newExc (.type "StopIteration") []) ?_))));simp only[newExc,newTuple];refine j' (wpAny_newObj_type (j' (m:=firstArgMember _ _) (wpAny_of_eq (a:=Value.none) (by first|rfl|(simp only[firstArgMember];rfl)) (wpAny_newObj_type ?_ (by size_fits)))) (by size_fits));simp only[raiseNew];refine j' (wpAny_handled ?_)
 first|rw[show A.in1.handled=none from f]|rw[f]
 calc j' (P' (wpAny_throw (q _ _ (((Heap.SameBut.update ..).extBut.push _).push _) ⟨_,V' _ rfl,rfl⟩)))
end
theorem Draws.tup{prog:Program}{w:World}{A:Around}(f:A.handled=none)(j a:Addr)(l:a≠j)(aO:Array Value):
  Draws prog w A j [j,a] aO.size (λi v=>aO[i]?=some v) (λi h=>h.IsTupleIter j a i/\h.IsTuple a aO) where
 live:=λ_ _ b=>let ⟨o,c,_⟩:=b.1;⟨o,c⟩
 frame:=λ_ _ _ b k=>⟨b.1.at λo e=>k j (by simp) o e,b.2.at λo e=>k a (by simp) o e⟩
 item:=λi s Q E c b q=>qH b.1 b.2 (v:=aO[i]) (by simp[c]) λg e d=>q _ g s.toks (by simp[c]) ⟨e,b.2.extBut d.extBut l⟩ d
 done:=λs Q E b q=>rO f b.1 b.2 (by simp) q
def tJ(b:Bool)(h:Heap)(a:Addr)(aO:Array Value):Prop:=if b=true then h.IsList a aO else h.IsTuple a aO
def o9(b:Bool)(h:Heap)(j a:Addr)(n:Nat):Prop:=if b=true then h.IsListIter j a n else h.IsTupleIter j a n
theorem tJ.at{h':Heap}(x:tJ b h a aO)(k:∀o,h.get? a=some o->h'.get? a=some o):tJ b h' a aO:=by
 cases b
 ·exact Heap.IsTuple.at x k
 ·calc Heap.IsList.at x k
theorem o9.at{h':Heap}{n:Nat}(x:o9 b h j a n)(k:∀o,h.get? j=some o->h'.get? j=some o):o9 b h' j a n:=by
 cases b
 ·exact Heap.IsTupleIter.at x k
 ·calc Heap.IsListIter.at x k
theorem o9.obj{n:Nat}(x:o9 b h j a n):∃o,h.get? j=some o/\∀v,o.data≠.cell v:=by
 cases b<;>(obtain⟨o,e,c,d⟩:=x;calc⟨o,e,λv z=>by rw[d]at z;cases z⟩)
theorem Draws.sq{prog:Program}{w:World}{A:Around}(c:A.handled=none)(b:Bool)(j a:Addr)(d:a≠j)(aO:Array Value):
  Draws prog w A j [j,a] aO.size (λi v=>aO[i]?=some v) (λi h=>o9 b h j a i/\tJ b h a aO):=by
 cases b
 ·exact Draws.tup c j a d aO
 ·calc Draws.list c j a d aO
end PySem
namespace PySem
variable {Q:Option Value->Shared->Prop}
structure ZA(z ti to i1 i2:Addr)(f1 f2:List Addr):Prop where
 a1:ti≠z
 a2:to≠z
 a3:i1≠z
 a4:i2≠z
 a5:ti≠to
 a6:ti≠i1
 a7:ti≠i2
 a8:to≠i1
 a9:to≠i2
 a10:i1≠i2
 b1:z∉f1
 b2:to∉f1
 b3:i2∉f1
 c1:z∉f2
 c2:to∉f2
 c3:i1∉f2
section
variable {prog:Program}{w:World}{A:Around}{E:Value->Shared->Prop}{s:Shared}{z ti to i1 i2:Addr}{f1 f2:List Addr}{n1 n2 k:Nat}{P1 P2:Nat->Value->Prop}{S1 S2:Nat->Heap->Prop}{a b:Value}
theorem Dx{Q:Value->Shared->Prop}(Z:ZA z ti to i1 i2 f1 f2)(B:Draws prog w A i1 f1 n1 P1 S1)(C:Draws prog w A i2 f2 n2 P2 S2)(d:IsZip s.heap z ti to .none)(i:IsPair s.heap ti (.ref i1) (.ref i2))(u:IsPair s.heap to a b)
  (l:S1 k s.heap) (F:S2 k s.heap) (n:k<n1) (G:k<n2)
  (q:∀x y g e,P1 k x->P2 k y->IsZip g z ti to (rawInt s.heap.objs.size)->IsPair g to x y->S1 (k + 1) g->S2 (k + 1) g->IsPair g s.heap.objs.size x y->g.objs.size=s.heap.objs.size + 1->
   (∀c o,c≠z->c≠to->c≠i1->c≠i2->s.heap.get? c=some o->g.get? c=some o)->Q (.ref s.heap.objs.size) {s with heap:=g,toks:=e}):
  wpAny (model prog w) A (Builtin.«zip.__next__» ⟨[.ref z],[]⟩) (λe s'=>∃v,e=.done (.ret v)/\Q v s') E s:=by
 calc j' (m:=field (.ref z) 2) (aay d rfl (x:=.bool false) rfl (j' (m:=field (.ref z) 3) (aay d rfl (x:=.ref ti) rfl ?_)));calc j' (wpAny_seqItems i rfl (j' (m:=Builtin.SmallTypes.ownedTupleIsFree (.ref z)) ?_));unfold Builtin.SmallTypes.ownedTupleIsFree;calc j' (aay d rfl (x:=.none) rfl (P' ?_));simp only[if_true];refine j' (wpAny_rule (j' (aay d rfl (x:=.ref to) rfl (j' (wpAny_setField_rec d (by simp) λj p r=>?_)))))
 replace p:IsZip j z ti to .ellipsis:=p
 calc j' ?_;simp only[List.zipIdx_cons,List.zipIdx_nil,List.forIn_cons,List.forIn_nil];calc j' (j' (wpAny_onRaise (j' (m:=Builtin.SmallTypes.nextOf (.ref i1)) ?_)));refine B.item k _ _ _ n (B.frame _ _ _ l λc g o e=>r.extBut c o (λh=>Z.b1 (h▸g)) e) λx d l L J i=>P' ?_
 replace i:Heap.SameBut i1 j d:=i
 have l:IsPair d to a b:=i.extBut _ _ Z.a8 (r.extBut _ _ Z.a2 u);refine j' (wpAny_seqItems l rfl (j' (wpAny_updateSeq_pair l λn t j=>j' (wpAny_letGo (P' ?_)))))
 replace t:IsPair n to x b:=t
 replace j:Heap.SameBut to d n:=j
 calc j' (j' (wpAny_onRaise (j' (m:=Builtin.SmallTypes.nextOf (.ref i2)) ?_)));refine C.item k _ _ _ G (C.frame _ _ _ F λc g o e=>j.extBut c o (λh=>Z.c2 (h▸g)) (i.extBut c o (λh=>Z.c3 (h▸g)) (r.extBut c o (λh=>Z.c1 (h▸g)) e))) λy u d M K l=>P' ?_
 replace l:Heap.SameBut i2 n u:=l
 have F:IsPair u to x b:=l.extBut _ _ Z.a9 t;refine j' (wpAny_seqItems F rfl (j' (wpAny_updateSeq_pair F λd v n=>j' (wpAny_letGo (P' (P' ?_))))))
 replace v:IsPair d to x y:=v
 replace n:Heap.SameBut to u d:=n
 calc j' (wpAny_seqItems v rfl (j' (wpAny_newTuple ?_)));have t:d.objs.size=s.heap.objs.size:=by rw[n.1,l.1,j.1,i.1,r.1]
 have u:IsZip d z ti to .ellipsis:=n.extBut _ _ Z.a2.symm (l.extBut _ _ Z.a4.symm (j.extBut _ _ Z.a2.symm (i.extBut _ _ Z.a3.symm p)));have N:∀c o,c≠z->c≠to->c≠i1->c≠i2->s.heap.get? c=some o->d.get? c=some o:=λc o p F G I e=>n.extBut _ _ F (l.extBut _ _ I (j.extBut _ _ F (i.extBut _ _ G (r.extBut _ _ p e))));have O:S1 (k+1) d:=B.frame _ _ _ J λc g o e=>n.extBut c o (λh=>Z.b2 (h▸g)) (l.extBut c o (λh=>Z.b3 (h▸g)) (j.extBut c o (λh=>Z.b2 (h▸g)) e));have P:S2 (k+1) d:=C.frame _ _ _ K λc g o e=>n.extBut c o (λh=>Z.c2 (h▸g)) e;have i:z<d.objs.size:=S' u;refine j' (m:=Builtin.SmallTypes.ownedTupleHandOut (.ref z) (.ref d.objs.size)) ?_;unfold Builtin.SmallTypes.ownedTupleHandOut;have j:IsZip (d.push {cls:=.type "tuple",data:=.seq #[x,y]}) z ti to .ellipsis:=J' _ u;refine j' (wpAny_setField_rec j (by simp) λn l J=>?_)
 replace l:IsZip n z ti to (rawInt d.objs.size):=l
 refine wpAny_setField_rec l (by simp) λj n u=>?_
 replace n:IsZip j z ti to (rawInt d.objs.size):=n
 have r:∀c o,c≠z->d.get? c=some o->j.get? c=some o:=λc o p e=>u.extBut _ _ p (J.extBut _ _ p (J' _ e));have K:IsPair j d.objs.size x y:=u.extBut _ _ (Nat.ne_of_gt i) (J.extBut _ _ (Nat.ne_of_gt i) (V' _ rfl));have l:j.objs.size=d.objs.size+1:=by rw[u.1,J.1,Heap.size_push]
 rw[t]at n K l;calc P' ⟨_,rfl,?_⟩;show Q (.ref d.objs.size) _;rw[t];calc q x y j _ L M n (r _ _ Z.a2 v) (B.frame _ _ _ O λc g o e=>r c o (λh=>Z.b1 (h▸g)) e) (C.frame _ _ _ P λc g o e=>r c o (λh=>Z.c1 (h▸g)) e) K l λc o p F G I e=>r c o p (N c o p F G I e)
theorem GC{Q:Fin->Shared->Prop}(Z:ZA z ti to i1 i2 f1 f2)(J:Draws prog w A i1 f1 n1 P1 S1)(R:Draws prog w A i2 f2 n2 P2 S2)(p:IsZip s.heap z ti to .none)(T:IsPair s.heap ti (.ref i1) (.ref i2))(U:IsPair s.heap to a b)
  (W:S1 k s.heap) (X:S2 k s.heap) (l:k=n1\/(k<n1/\k=n2))
  (q:∀g e Y,(∀c o,c≠z->c≠to->c≠i1->c≠i2->s.heap.get? c=some o->g.get? c=some o)->(∃o,g.get? e=some o/\o.cls=.type "StopIteration")->E (.ref e) {s with heap:=g,toks:=Y}):
  wpAny (model prog w) A (Builtin.«zip.__next__» ⟨[.ref z],[]⟩) Q E s:=by
 calc j' (m:=field (.ref z) 2) (aay p rfl (x:=.bool false) rfl (j' (m:=field (.ref z) 3) (aay p rfl (x:=.ref ti) rfl ?_)));calc j' (wpAny_seqItems T rfl (j' (m:=Builtin.SmallTypes.ownedTupleIsFree (.ref z)) ?_));unfold Builtin.SmallTypes.ownedTupleIsFree;calc j' (aay p rfl (x:=.none) rfl (P' ?_));simp only[if_true];refine j' (wpAny_rule (j' (aay p rfl (x:=.ref to) rfl (j' (wpAny_setField_rec p (by simp) λK F r=>?_)))))
 replace F:IsZip K z ti to .ellipsis:=F
 calc j' ?_;simp only[List.zipIdx_cons,List.zipIdx_nil,List.forIn_cons,List.forIn_nil];calc j' (j' (wpAny_onRaise (j' (m:=Builtin.SmallTypes.nextOf (.ref i1)) ?_)));have t:=J.frame _ _ _ W λc u o e=>r.extBut c o (λh=>Z.b1 (h▸u)) e;rcases l with l|⟨l1,l2⟩
 ·subst l;calc J.done _ _ _ t λn x d L=>?_;nofun;obtain⟨M,j,v⟩:=L;ac_rfl
  replace d:Heap.ExtBut i1 K n:=d
  have S:IsZip n z ti to .ellipsis:=d _ _ Z.a3.symm F;have N:x≠z:=λy=>by subst y;rw[S]at j;cases j;simp at v
  exact wpAny_setField_rec S (by simp) λG _ i=>q G x s.toks (λc o B _ O _ y=>i.extBut _ _ B (d _ _ O (r.extBut _ _ B y))) ⟨M,i.extBut _ _ N j,v⟩
 ·subst l2;refine J.item k _ _ _ l1 t λx n P g l d=>P' ?_
  replace d:Heap.SameBut i1 K n:=d
  have g:IsPair n to a b:=d.extBut _ _ Z.a8 (r.extBut _ _ Z.a2 U);refine j' (wpAny_seqItems g rfl (j' (wpAny_updateSeq_pair g λG l i=>j' (wpAny_letGo (P' ?_)))))
  replace i:Heap.SameBut to n G:=i
  calc j' (j' (wpAny_onRaise (j' (m:=Builtin.SmallTypes.nextOf (.ref i2)) ?_)));calc R.done _ _ _ (R.frame _ _ _ X λc u o e=>i.extBut c o (λh=>Z.c2 (h▸u)) (d.extBut c o (λh=>Z.c3 (h▸u)) (r.extBut c o (λh=>Z.c1 (h▸u)) e))) λg x I L=>?_;nofun;obtain⟨M,j,v⟩:=L;ac_rfl
  replace I:Heap.ExtBut i2 G g:=I
  have C:IsZip g z ti to .ellipsis:=I _ _ Z.a4.symm (i.extBut _ _ Z.a2.symm (d.extBut _ _ Z.a3.symm F));have N:x≠z:=λy=>by subst y;rw[C]at j;cases j;simp at v
  calc wpAny_setField_rec C (by simp) λg _ e=>q g x P (λc o B l O n y=>e.extBut _ _ B (I _ _ n (i.extBut _ _ l (d.extBut _ _ O (r.extBut _ _ B y))))) ⟨M,e.extBut _ _ N j,v⟩
end
section
variable {prog:Program}{w:World}{A:Around}{E:Value->Shared->Prop}{s:Shared}{z ti to i1 i2:Addr}{f1 f2:List Addr}{n1 n2 k:Nat}{P1 P2:Nat->Value->Prop}{S1 S2:Nat->Heap->Prop}{a b:Value}
theorem tK(Z:ZA z ti to i1 i2 f1 f2)(f:Draws prog w A.in1 i1 f1 n1 P1 S1)(h:Draws prog w A.in1 i2 f2 n2 P2 S2)(e:IsZip s.heap z ti to .none)(i:IsPair s.heap ti (.ref i1) (.ref i2))(j:IsPair s.heap to a b)
  (l:S1 k s.heap) (m:S2 k s.heap) (n:k<n1) (p:k<n2)
  (q:∀x y g d,P1 k x->P2 k y->IsZip g z ti to (rawInt s.heap.objs.size)->IsPair g to x y->S1 (k + 1) g->S2 (k + 1) g->IsPair g s.heap.objs.size x y->g.objs.size=s.heap.objs.size + 1->
   (∀c o,c≠z->c≠to->c≠i1->c≠i2->s.heap.get? c=some o->g.get? c=some o)->Q (some (.ref s.heap.objs.size)) {s with heap:=g,toks:=d}):
  wpAny (model prog w) A (pyNext (.ref z)) Q E s:=by
 have c:s.TypeIs (.ref z) "zip":=⟨_,e,rfl⟩
 unfold pyNext;exact j' (wpAny_attempt (wpAny_callSpecial?_slot (name:=Str.ofString "__next__") c F.slot_zip_next (wpAny_call_entry F.slot_zip_next c F.entry_zip_next
  (Dx Z f h e i j l m n p λx y g d c o r t u v B C D=>P' (q x y g d c o r t u v B C D)) (F.args_zip_next_1 _))))
theorem vY(Z:ZA z ti to i1 i2 f1 f2)(h:Draws prog w A.in1 i1 f1 n1 P1 S1)(i:Draws prog w A.in1 i2 f2 n2 P2 S2)(d:IsZip s.heap z ti to .none)(j:IsPair s.heap ti (.ref i1) (.ref i2))(m:IsPair s.heap to a b)
  (n:S1 k s.heap) (p:S2 k s.heap) (l:k=n1\/(k<n1/\k=n2))
  (q:∀g f,(∀c o,c≠z->c≠to->c≠i1->c≠i2->s.heap.get? c=some o->g.get? c=some o)->Q none {s with heap:=g,toks:=f}):wpAny (model prog w) A (pyNext (.ref z)) Q E s:=by
 have c:s.TypeIs (.ref z) "zip":=⟨_,d,rfl⟩
 unfold pyNext;refine j' (wpAny_attempt (wpAny_callSpecial?_slot (name:=Str.ofString "__next__") c F.slot_zip_next (wpAny_call_entry F.slot_zip_next c F.entry_zip_next
  (GC Z h i d j m n p l λg e f c ⟨o,r,t⟩=>?_) (F.args_zip_next_1 _))))
 calc j' (wpAny_isInstance (T:="StopIteration") (b:=true) ⟨o,r,t⟩ isSubtype_stop (P' (q _ _ c)))
end
def JX(b:Bool)(a:Addr):Obj:=if b=true then {cls:=.type "list_iterator",data:=.fields #[.ref a,.int 0 0]} else {cls:=.type "tuple_iterator",data:=.fields #[.ref a,.int 0 0]}
abbrev Yb(h:Heap)(b:Bool)(l:Addr):Heap:=h.push (JX b l)
abbrev Yc(h:Heap)(b c:Bool)(l m:Addr):Heap:=(Yb h b l).push (JX c m)
abbrev Yd(h:Heap)(b c:Bool)(l m:Addr):Heap:=(Yc h b c l m).push {cls:=.type "tuple",data:=.seq #[.ref h.objs.size,.ref (Yb h b l).objs.size]}
abbrev Ye(h:Heap)(b c:Bool)(l m:Addr):Heap:=(Yd h b c l m).push {cls:=.type "tuple",data:=.seq #[.none,.none]}
abbrev PR(h:Heap)(b c:Bool)(l m:Addr):Heap:=(Ye h b c l m).push {cls:=.type "zip",data:=.fields #[.none,.bool false,.bool false,.ref (Yc h b c l m).objs.size,.ref (Yd h b c l m).objs.size]}
theorem Dy(b c:Bool)(l m:Addr)(xs i:Array Value):
  Meets (Builtin.«zip.__new__» ⟨[.type "zip",.ref l,.ref m],[]⟩) (λ_ R s=>tJ b s.heap l xs/\tJ c s.heap m i/\R (.ok (.ret (.ref (Ye s.heap b c l m).objs.size))) {s with heap:=PR s.heap b c l m}):=
 .of_wp λn w A R s h=>by
  obtain⟨a,g,d,e,f⟩:=s;obtain⟨j,k,h⟩:=h;have n:=sub_zip
  cases b<;>cases c
  ·have b:Heap.IsTuple (Shared.heap ⟨a,g,d,e,f⟩) l xs:=j;have L2:Heap.IsTuple (Shared.heap ⟨a.push {cls:=.type "tuple_iterator",data:=.fields #[.ref l,.int 0 0]},g,d,e,f⟩) m i:=Heap.IsTuple.push k _;wp_walk using wpAny_pyIter_tuple b,wpAny_pyIter_tuple L2;exact⟨_,rfl,h⟩
  ·have b:Heap.IsTuple (Shared.heap ⟨a,g,d,e,f⟩) l xs:=j;have L2:Heap.IsList (Shared.heap ⟨a.push {cls:=.type "tuple_iterator",data:=.fields #[.ref l,.int 0 0]},g,d,e,f⟩) m i:=Heap.IsList.push k _;wp_walk using wpAny_pyIter_tuple b,wpAny_pyIter_list L2;exact⟨_,rfl,h⟩
  ·have b:Heap.IsList (Shared.heap ⟨a,g,d,e,f⟩) l xs:=j;have L2:Heap.IsTuple (Shared.heap ⟨a.push {cls:=.type "list_iterator",data:=.fields #[.ref l,.int 0 0]},g,d,e,f⟩) m i:=Heap.IsTuple.push k _;wp_walk using wpAny_pyIter_list b,wpAny_pyIter_tuple L2;exact⟨_,rfl,h⟩
  ·have b:Heap.IsList (Shared.heap ⟨a,g,d,e,f⟩) l xs:=j;have L2:Heap.IsList (Shared.heap ⟨a.push {cls:=.type "list_iterator",data:=.fields #[.ref l,.int 0 0]},g,d,e,f⟩) m i:=Heap.IsList.push k _;wp_walk using wpAny_pyIter_list b,wpAny_pyIter_list L2;exact⟨_,rfl,h⟩
theorem rP(b:Bool)(a:Addr):(JX b a).isFreed=false:=by cases b<;>rfl
theorem zZ{b:Bool}{h:Heap}{j a:Addr}(e:h.get? j=some (JX b a)):o9 b h j a 0:=by
 cases b
 ·exact⟨_,e,rfl,rfl⟩
 ·calc⟨_,e,rfl,rfl⟩
theorem GD{prog:Program}{w:World}{A:Around}{E:Value->Shared->Prop}{s:Shared}{b c:Bool}{l m:Addr}{xs f:Array Value}{Q:Value->Shared->Prop}(h:tJ b s.heap l xs)(i:tJ c s.heap m f)
  (q:∀g,IsZip g (s.heap.objs.size + 4) (s.heap.objs.size + 2) (s.heap.objs.size + 3) .none->IsPair g (s.heap.objs.size + 2) (.ref s.heap.objs.size) (.ref (s.heap.objs.size + 1))->
   IsPair g (s.heap.objs.size+3) .none .none->o9 b g s.heap.objs.size l 0->o9 c g (s.heap.objs.size+1) m 0->g.objs.size=s.heap.objs.size+5->
   (∀d o,s.heap.get? d=some o->g.get? d=some o)->Q (.ref (s.heap.objs.size + 4)) {s with heap:=g}):
  wpAny (model prog w) A (call (.type "zip") [.ref l,.ref m]) Q E s:=by
 calc callType_new F.called_zip (by decide) (F.typeCall_zip_2 _ _) (F.newCall_zip_2 _ _) (λa=>F.args_object_init_3 a _ _) F.entry_zip_new (Dy b c l m xs f) ⟨h,i,?_⟩;have e:(Yb s.heap b l).objs.size=s.heap.objs.size+1:=Heap.size_push ..;have a:(Yc s.heap b c l m).objs.size=s.heap.objs.size+2:=by rw[Heap.size_push,e]
 have f:(Yd s.heap b c l m).objs.size=s.heap.objs.size+3:=by rw[Heap.size_push,a]
 have g:(Ye s.heap b c l m).objs.size=s.heap.objs.size+4:=by rw[Heap.size_push,f]
 have n:(PR s.heap b c l m).objs.size=s.heap.objs.size+5:=by rw[Heap.size_push,g]
 have h:(PR s.heap b c l m).get? (Ye s.heap b c l m).objs.size=some _:=V' _ rfl;have i:(PR s.heap b c l m).get? (Yd s.heap b c l m).objs.size=some _:=J' _ (V' _ rfl);have j:(PR s.heap b c l m).get? (Yc s.heap b c l m).objs.size=some _:=J' _ (J' _ (V' _ rfl));have k:(PR s.heap b c l m).get? (Yb s.heap b l).objs.size=some (JX c m):=J' _ (J' _ (J' _ (V' _ (rP ..))));have p:(PR s.heap b c l m).get? s.heap.objs.size=some (JX b l):=J' _ (J' _ (J' _ (J' _ (V' _ (rP ..)))));show _/\_;rw[a,f,g]at h;rw[e,a]at j;rw[f]at i;rw[e]at k;rw[g];calc⟨⟨_,h,rfl⟩,q _ h j i (zZ p) (zZ k) n λd o x=>J' _ (J' _ (J' _ (J' _ (J' _ x))))⟩
theorem rQ(l:Addr)(e:Array Value):
  Meets (Builtin.«enumerate.__new__» ⟨[.type "enumerate",.ref l],[]⟩) (λ_ R s=>s.heap.IsTuple l e/\
   R (.ok (.ret (.ref (s.heap.push (JX false l)).objs.size))) {s with heap:=(s.heap.push (JX false l)).push {cls:=.type "enumerate",data:=.fields #[.none,.bool false,.ref s.heap.objs.size,rawInt 0,.none,.none]}}):=
 .of_wp λf w A R s h=>by
  obtain⟨i,g,d,k,m⟩:=s;obtain⟨j,h⟩:=h;have p:=sub_enumerate;have b:Heap.IsTuple (Shared.heap ⟨i,g,d,k,m⟩) l e:=j;obtain⟨n,a,q,r,o⟩:=id j
  replace a:i.get? l=some n:=a
  wp_walk using AutoSeq1.wpAny_loadPart' a;calc wpAny_stack_any λt=>P' ?_;split
  ·rename_i c _ _ _ _ _
   cases(c==Value.type "enumerate")
   ·wp_walk using AutoSeq1.wpAny_loadPart' a,wpAny_pyIter_tuple b;exact⟨_,rfl,h⟩
   ·wp_walk using AutoSeq1.wpAny_loadPart' a,wpAny_pyIter_tuple b;exact⟨_,rfl,h⟩
  ·wp_walk using AutoSeq1.wpAny_loadPart' a,wpAny_pyIter_tuple b;calc⟨_,rfl,h⟩
end PySem
namespace L2
open PySem PySem.Spec PyProof.Rows
section
variable {a:Addr}{xs:List V}
section
variable {X:Cx}{pins:List (Addr×Obj)}{σ:St}{H:Hp}{s:Shared}
theorem Inv.BK{t':Nat}{ch:List Addr}{h':Heap}(I:Inv X pins σ H s)(d:∀b∈ch,oU X pins H b)(k:∀b o,b∉ch->s.heap.get? b=some o->h'.get? b=some o):Inv X pins σ H {s with heap:=h',toks:=t'}:=by
 have f:∀b u,H b=some u->b∉ch:=λb u e z=>by rw[(d b z).1]at e;cases e
 refine I.step (g':=s.gens) (d':=s.drawn) (ch:=ch) (λb g=>?_) (λb o _ _ a e _=>k b o a e) (λb o _ _ a e _=>⟨o.slots,k b o a e⟩) (λ_ _ _ _ n=>n) (λb o a e=>⟨o,k b o a e⟩) (λ_ _ e=>e) (λ_ _ _ e=>e) (λb h e=>⟨#[],by rw[e];simp⟩) (λm h=>?_) (λb u e=>?_) I.bare
 ·obtain⟨n,i,p,j,l,m⟩:=d b g;exact⟨j,i,l,m⟩
 ·obtain⟨o,g,i,j,r⟩:=h;exact⟨o,g,i,k _ o (λz=>(d _ z).2.1 rfl) j,r⟩
 ·calc(I.aZ b u e).aL (λc v a q=>k c v ?_ q) (λ_ q=>q) λ_ _ q=>q;rcases a with z | z
  ·rw[z];exact f b u e
  ·calc f c _ z
theorem Inv.BL{t':Nat}{ch:List Addr}{h':Heap}{T:Addr}{g:List Value}(I:Inv X pins σ H s)(h:∀b∈ch,oU X pins H b)(k:∀b o,b∉ch->s.heap.get? b=some o->h'.get? b=some o)
  (i:s.heap.objs.size<=T) (l:Vals xs g) (p:xs.length<=sizeLine) (q:IsTup h' T g.toArray):Inv X pins σ (upd H T (.tup xs)) {s with heap:=h',toks:=t'}:=by
 have j:∀b u,H b=some u->b∉ch:=λb u e z=>by rw[(h b z).1]at e;cases e
 have d:H T=none:=I.aZ.fresh i;have m:∀b o,s.heap.get? b=some o->b≠T:=λb o e=>Y' (R' (S' e) i);refine I.step (g':=s.gens) (d':=s.drawn) (ch:=ch) (λb f=>?_) (λb o _ _ a e _=>k b o a e) (λb o _ _ a e _=>⟨o.slots,k b o a e⟩) (λb o _ e n=>by rw[az (m b o e)];calc n) (λb o a e=>⟨o,k b o a e⟩)
  (λb t e=>by rw[az (au e d)];calc e) (λb o u e=>by rw[az (au e d)];calc e) (λb i e=>⟨#[],by rw[az (au e d),e];simp⟩) (λm i=>?_) (λb u e=>?_) I.bare
 ·obtain⟨w,m,x,n,r,v⟩:=h b f;exact⟨n,m,r,v⟩
 ·obtain⟨o,m,n,v,r⟩:=i;exact⟨o,m,n,k _ o (λz=>(h _ z).2.1 rfl) v,r⟩
 ·by_cases f:b=T
  ·subst f;rw[af] at e
   cases e;exact⟨p,g,l,q⟩
  ·rw[az f] at e;refine(I.aZ b u e).aL (λc v a q=>k c v ?_ q) (λc q=>by rw[az (au q d)];calc q) λc t q=>by rw[az (au q d)];exact q
   rcases a with z|z
   ·rw[z];exact j b u e
   ·calc j c _ z
def Sq(b:Bool)(K:W.Frag)(H:Hp)(a:Addr)(xs:List V):Prop:=if b=true then aU K H a xs else bI K H a xs
theorem Sq.l{K:W.Frag}(h:H a=some (.lst xs)):Sq true K H a xs:=aU.of h
theorem Sq.t{K:W.Frag}(h:H a=some (.tup xs)):Sq false K H a xs:=bI.of h
theorem Inv.sq(I:Inv X pins σ H s){b:Bool}{a:Addr}{xs:List V}(h:Sq b X.K H a xs):∃c:List Value,Vals xs c/\tJ b s.heap a c.toArray/\xs.length<=sizeLine:=by
 cases b
 ·exact I.tuple h
 ·obtain⟨c,r,p,z⟩:=I.list h;calc⟨c,r,p.isList,z⟩
theorem Inv.Aa(I:Inv X pins σ H s){b:Bool}{a:Addr}{xs c:List V}(h:Sq b X.K H a xs)(h':Sq b X.K H a c):xs=c:=by
 cases b
 ·exact I.ui h h'
 ·calc I.xi h h'
theorem M5{u:HO}{b:Addr}(h:Rd H a u)(c:H b=none):a≠b:=λz=>by
 subst z;rcases h with h|⟨o,h⟩<;>(rw[c]at h;cases h)
theorem Inv.rR(I:Inv X pins σ H s){b:Bool}{a c:Addr}{xs:List V}(h:Sq b X.K H a xs)(f:oU X pins H c):a≠c:=by
 have d:∀o,X.K.lookup a=some o->a≠c:=λo e z=>by
  subst z;have i:=I.ok.mod.xg a o e;rcases f.2.2.2.1 with y|y
  ·exact I.ok.vv a o i y
  ·exact absurd (R' (R' (S' i) I.ok.zu) y) (Nat.lt_irrefl _)
 cases b
 ·rcases h with h | ⟨o,j,n,g,_⟩
  ·exact M5 h f.1
  ·exact d o g
 ·rcases h with h | ⟨o,j,n,g,_⟩
  ·exact M5 h f.1
  ·calc d o g
end
end
section
def M6(b:Bool)(K:W.Frag)(a:Addr):It:=
 ⟨λi H=>∃xs x,Sq b K H a xs/\xs[i]?=some x,λi H y c=>∃T,H T=none/\y=.ref T/\∀xs,Sq b K H a xs->∃x,xs[i]?=some x/\c=upd H T (.tup [.int i,x]),λi H=>∃xs,Sq b K H a xs/\xs.length=i⟩
def Yf(b c:Bool)(K:W.Frag)(a d:Addr):It:=
  ⟨λi H=>∃xs e x y,Sq b K H a xs/\Sq c K H d e/\xs[i]?=some x/\e[i]?=some y,λi H v f=>∃T,H T=none/\v=.ref T/\∀xs e,Sq b K H a xs->Sq c K H d e->∃x y,xs[i]?=some x/\e[i]?=some y/\f=upd H T (.tup [x,y]),
   λi H=>∃xs e,Sq b K H a xs/\Sq c K H d e/\(i=xs.length\/(i < xs.length/\i=e.length))⟩
theorem xK{a b:V}:([a,b]:List V).length<=sizeLine:=by show 2<=sizeLine;decide
theorem vZ{a:List Value}{i:Nat}{u:Value}(h:a[i]?=some u):i<a.toArray.size:=by
 have:=(List.getElem?_eq_some_iff.mp h).1;simpa using this
theorem Dz{P:Program}{w:World}{K:W.Frag}{k:List Expr}{u:Nat}{v:Pos}(b:Bool)(e j a:Addr)(G:e≠j):
  Turn P w K (.Tuple k u v) (M6 b K a) [e,j] e (λi h=>(∃d,IsEnum h e j i d)/\o9 b h j a i) where
 mem:=by simp
 obj:=λi h l c t=>by
  obtain⟨⟨d,g⟩,m⟩:=l;simp only[List.mem_cons,List.not_mem_nil,or_false]at t;rcases t with rfl|rfl
  ·exact⟨_,g,λv z=>by
    have z':Data.fields _=Data.cell v:=z
    cases z'⟩
  ·exact m.obj
 keep:=λi h h' l k=>by
  obtain⟨⟨d,g⟩,m⟩:=l;exact⟨⟨d,k e (by simp) _ g⟩,m.at λo q=>k j (by simp) o q⟩
 item:=by
  intro X J L M t i B s σ H E I n l N;subst J L M;obtain⟨⟨d,g⟩,m⟩:=l;obtain⟨xs,x,r,O⟩:=N;obtain⟨C,R,p,hz⟩:=I.sq r;obtain⟨u,k,ru⟩:=R.get O;have v:a≠e:=I.rR r (n e (by simp));have S:a≠j:=I.rR r (n j (by simp));have D:=Draws.sq (prog:=X.prog) (w:=X.w) (A:=X.A.in1) (show X.A.in1.handled=none from I.ok.hd t) b j a S C.toArray;calc wpAny_pyNext_enum_itemD D g ⟨m,p⟩ (vZ k) G (by simp[G,Ne.symm v]) λy P Y K ho s1 hT sz T=>?_;have ey:y=u:=by
   have:C.toArray[i]?=some u:=by simpa using k
   exact Option.some.inj (K.symm.trans this)
  subst ey;calc⟨_,rfl,wpAny_letOwnedTupleGo_enum ho λv k u=>?_⟩;have K:∀c o,c ∉ [e,j]->s.heap.get? c=some o->v.get? c=some o:=λc o F q=>(u.2 c λz=>F (by simp[z])).trans (T c o (λz=>F (by simp[z])) (λz=>F (by simp[z])) q);have Z:s.heap.objs.size≠e:=Nat.ne_of_gt (S' g);have e:IsTup v s.heap.objs.size ([.int i Y,y]:List Value).toArray:=⟨_,(u.2 _ Z).trans hT,rfl,_,rfl⟩
  have v:H s.heap.objs.size=none:=I.aZ.fresh (K' _);refine⟨.ref s.heap.objs.size,upd H s.heap.objs.size (.tup [.int i,x]),I.BL n K (K' _) (.cons ⟨Y,rfl⟩ (.cons ru .nil)) xK e,rfl,⟨_,v,rfl,λys P=>⟨x,by rw[I.Aa P r];calc O,rfl⟩⟩,⟨⟨y,?_⟩,?_⟩,λc U=>?_⟩
  ·simpa using k
  ·exact s1.1.at λo q=>(u.2 j (Ne.symm G)).trans q
  ·have qG:c≠s.heap.objs.size:=by
    simp only[List.mem_cons,List.not_mem_nil,or_false]at U;rcases U with rfl|rfl
    ·exact Ne.symm Z
    ·obtain⟨o,e,_⟩:=m.obj;exact Y' (S' e)
   rw[az qG];exact(n c U).1
 done:=by
  intro X J L M t i B s σ H E I n l N;subst J L M;obtain⟨⟨d,g⟩,m⟩:=l;obtain⟨xs,r,O⟩:=N;obtain⟨C,R,p,hz⟩:=I.sq r;have S:a≠j:=I.rR r (n j (by simp));have D:=Draws.sq (prog:=X.prog) (w:=X.w) (A:=X.A.in1) (show X.A.in1.handled=none from I.ok.hd t) b j a S C.toArray;have e:C.toArray.size=i:=by have:=R.length;simp;lia
  refine wpAny_pyNext_enum_endD D g (by rw[e];calc⟨m,p⟩) λh' T=>⟨rfl,I.BK (t':=s.toks) n λc o F q=>T c o (λz=>F (by simp[z])) q⟩
 self:=λ_ _ _ _ _ l h=>by
  obtain⟨⟨d,g⟩,m⟩:=l;calc wpAny_pyIter_enum g h
theorem DA{prog:Program}{w:World}{A:Around}{E:Value->Shared->Prop}{s:Shared}{b:Bool}{l:Addr}{d:Array Value}{Q:Value->Shared->Prop}(e:tJ b s.heap l d)
  (q:∀g,IsEnum g (s.heap.objs.size+1) s.heap.objs.size 0 .none->o9 b g s.heap.objs.size l 0->g.objs.size=s.heap.objs.size+2->(∀c o,s.heap.get? c=some o->g.get? c=some o)->Q (.ref (s.heap.objs.size+1)) {s with heap:=g}):
  wpAny (model prog w) A (call (.type "enumerate") [.ref l]) Q E s:=by
 cases b
 ·refine callType_new F.called_enumerate (by decide) (F.typeCall_enumerate_1 _) (F.newCall_enumerate_1 _) (λa=>F.args_object_init_2 a _) F.entry_enumerate_new (rQ l d) ⟨e,?_⟩;have b:(s.heap.push (JX false l)).objs.size=s.heap.objs.size+1:=Heap.size_push ..;show _/\_;rw[b];have a:=V' (s.heap.push (JX false l)) (o:={cls:=.type "enumerate",data:=.fields #[.none,.bool false,.ref s.heap.objs.size,rawInt 0,.none,.none]}) rfl;rw[b]at a;refine⟨⟨_,a,rfl⟩,q _ a (zZ (J' _ (V' _ (rP ..)))) (by rw[Heap.size_push,b]) λc o x=>J' _ (J' _ x)⟩
 ·calc call_enumerate_list e q
theorem GG{P:Program}{w:World}{K:W.Frag}{es:List Expr}{kt:Nat}{tp:Pos}(b c:Bool)(z m n j l a d:Addr)(N:[z,m,n,j,l].Nodup):
  Turn P w K (.Tuple es kt tp) (Yf b c K a d) [z,m,n,j,l] z (λi h=>IsZip h z m n .none/\IsPair h m (.ref j) (.ref l)/\(∃u v,IsPair h n u v)/\o9 b h j a i/\o9 c h l d i) where
 mem:=by simp
 obj:=λi h r e g=>by
  obtain⟨F,t,⟨u,v,G⟩,J,L⟩:=r;simp only[List.mem_cons,List.not_mem_nil,or_false]at g;rcases g with rfl|rfl|rfl|rfl|rfl
  ·exact⟨_,F,λv z=>by
    have k:Data.fields _=Data.cell v:=z
    cases k⟩
  ·exact⟨_,t,λv z=>by
    have k:Data.seq _ _=Data.cell v:=z
    cases k⟩
  ·exact⟨_,G,λv z=>by
    have k:Data.seq _ _=Data.cell v:=z
    cases k⟩
  ·exact J.obj
  ·exact L.obj
 keep:=λi h h' r k=>by
  obtain⟨F,t,⟨u,v,G⟩,J,L⟩:=r;exact⟨k z (by simp) _ F,k m (by simp) _ t,⟨u,v,k n (by simp) _ G⟩,J.at λo q=>k j (by simp) o q,L.at λo q=>k l (by simp) o q⟩
 item:=by
  intro X hP hw hK hc i U s σ H E I M r hg;subst hP hw hK;obtain⟨F,t,⟨u0,v0,G⟩,J,L⟩:=r;obtain⟨xs,ys,x,y,R,hr,hx,hy⟩:=hg;obtain⟨aO,rv,p,hz⟩:=I.sq R;obtain⟨Uq,rt,pt,hzt⟩:=I.sq hr;obtain⟨u,k,ru⟩:=rv.get hx;obtain⟨v,K,rv'⟩:=rt.get hy;have B:∀e ∈ [z,m,n,j,l],e≠a:=λe g=>Ne.symm (I.rR R (M e g));have C:∀e ∈ [z,m,n,j,l],e≠d:=λe g=>Ne.symm (I.rR hr (M e g));simp only[List.nodup_cons,List.mem_cons,List.not_mem_nil,or_false,not_or,List.nodup_nil,not_false_eq_true,and_true]at N;obtain⟨⟨Y,n2,S,T⟩,⟨n5,n6,n7⟩,⟨n8,n9⟩,O⟩:=N;have hh:X.A.in1.handled=none:=I.ok.hd hc;have D1:=Draws.sq (prog:=X.prog) (w:=X.w) (A:=X.A.in1) hh b j a (Ne.symm (B j (by simp))) aO.toArray;have D2:=Draws.sq (prog:=X.prog) (w:=X.w) (A:=X.A.in1) hh c l d (Ne.symm (C l (by simp))) Uq.toArray;have Z:ZA z m n j l [j,a] [l,d]:=⟨Ne.symm Y,Ne.symm n2,Ne.symm S,Ne.symm T,n5,n6,n7,n8,n9,O,by simp[S,B],by simp[n8,B],by simp[Ne.symm O,B],by simp[T,C],by simp[n9,C],by simp[O,C]⟩
  calc tK Z D1 D2 F t G ⟨J,p⟩ ⟨L,pt⟩ (vZ k) (vZ K) λx' y' h1 tk P py zX Z5 s1 s2 hT sz kk=>?_;have ex:x'=u:=by
   have:aO.toArray[i]?=some u:=by simpa using k
   exact Option.some.inj (P.symm.trans this)
  have ey:y'=v:=by
   have:Uq.toArray[i]?=some v:=by simpa using K
   exact Option.some.inj (py.symm.trans this)
  subst ex ey;calc⟨_,rfl,wpAny_letOwnedTupleGo_zip zX λu v k=>?_⟩;have K:∀e o,e ∉ [z,m,n,j,l]->s.heap.get? e=some o->u.get? e=some o:=λe o g q=>
   (k.2 e λw=>g (by simp[w])).trans (kk e o (λw=>g (by simp[w])) (λw=>g (by simp[w])) (λw=>g (by simp[w])) (λw=>g (by simp[w])) q)
  have hTz:s.heap.objs.size≠z:=Nat.ne_of_gt (S' F);have P:IsTup u s.heap.objs.size ([x',y']:List Value).toArray:=⟨_,(k.2 _ hTz).trans hT,rfl,_,rfl⟩
  have u:H s.heap.objs.size=none:=I.aZ.fresh (K' _);refine⟨.ref s.heap.objs.size,upd H s.heap.objs.size (.tup [x,y]),I.BL M K (K' _) (.cons ru (.cons rv' .nil)) xK P,rfl,
   ⟨_,u,rfl,λK zl P T1=>⟨x,y,by rw[I.Aa P R];calc hx,by rw[I.Aa T1 hr];calc hy,rfl⟩⟩,⟨v,?_,⟨_,_,(k.2 n (Ne.symm n2)).trans Z5⟩,s1.1.at λo q=>(k.2 j (Ne.symm S)).trans q,s2.1.at λo q=>(k.2 l (Ne.symm T)).trans q⟩,λe g=>?_⟩
  ·exact(k.2 m (Ne.symm Y)).trans (kk m _ (Ne.symm Y) n5 n6 n7 t)
  ·have qG:e≠s.heap.objs.size:=by
    simp only[List.mem_cons,List.not_mem_nil,or_false]at g;rcases g with rfl|rfl|rfl|rfl|rfl
    ·exact Ne.symm hTz
    ·exact Y' (S' t)
    ·exact Y' (S' G)
    ·obtain⟨o,k,_⟩:=J.obj;exact Y' (S' k)
    ·obtain⟨o,k,_⟩:=L.obj;exact Y' (S' k)
   rw[az qG];exact(M e g).1
 done:=by
  intro X hP hw hK hc i U s σ H E I M r hg;subst hP hw hK;obtain⟨F,t,⟨u0,v0,G⟩,J,L⟩:=r;obtain⟨xs,ys,R,hr,hx⟩:=hg;obtain⟨aO,rv,p,hz⟩:=I.sq R;obtain⟨Uq,rt,pt,hzt⟩:=I.sq hr;have B:∀e ∈ [z,m,n,j,l],e≠a:=λe g=>Ne.symm (I.rR R (M e g));have C:∀e ∈ [z,m,n,j,l],e≠d:=λe g=>Ne.symm (I.rR hr (M e g));simp only[List.nodup_cons,List.mem_cons,List.not_mem_nil,or_false,not_or,List.nodup_nil,not_false_eq_true,and_true]at N;obtain⟨⟨Y,n2,S,T⟩,⟨n5,n6,n7⟩,⟨n8,n9⟩,O⟩:=N;have hh:X.A.in1.handled=none:=I.ok.hd hc;have D1:=Draws.sq (prog:=X.prog) (w:=X.w) (A:=X.A.in1) hh b j a (Ne.symm (B j (by simp))) aO.toArray;have D2:=Draws.sq (prog:=X.prog) (w:=X.w) (A:=X.A.in1) hh c l d (Ne.symm (C l (by simp))) Uq.toArray;have Z:ZA z m n j l [j,a] [l,d]:=⟨Ne.symm Y,Ne.symm n2,Ne.symm S,Ne.symm T,n5,n6,n7,n8,n9,O,by simp[S,B],by simp[n8,B],by simp[Ne.symm O,B],by simp[T,C],by simp[n9,C],by simp[O,C]⟩
  have a:=rv.length;have a:=rt.length;exact vY Z D1 D2 F t G ⟨J,p⟩ ⟨L,pt⟩ (by simp only[List.size_toArray];lia) λh' tk kk=>⟨rfl,I.BK M λe o g q=>kk e o (λw=>g (by simp[w])) (λw=>g (by simp[w])) (λw=>g (by simp[w])) (λw=>g (by simp[w])) q⟩
 self:=λ_ _ _ _ _ r h=>wpAny_pyIter_zip r.1 h
section
variable {X:Cx}
def GH(K:W.Frag)(a:TA):TI:=λσ H R=>a σ H λvs c=>match vs with
 | [.ref a]=>∃b xs,Sq b K c a xs/\R (M6 b K a) c
 |_=>False
def PX(K:W.Frag)(a:TA):TI:=λσ H R=>a σ H λvs e=>match vs with
 | [.ref a,.ref d]=>∃b c xs f,Sq b K e a xs/\Sq c K e d f/\R (Yf b c K a d) e
 |_=>False
theorem lP{h:List Expr}{l:Nat}{m:Pos}{a:Expr}{g:TA}{p pos:Pos}(n:Gl X "enumerate")(o:X.mg "enumerate"=none)(t:PA X [a] g)(u:starEach [a] X.env=[(false,eval a X.env)]:=by rfl):
  PI X (.Tuple h l m) (.Call (.Name "enumerate" p) [a] [] pos) (GH X.K g):=by
 calc⟨?_⟩;intro c s σ H R I h;calc Call_ (oS I n o boot_enumerate (PyProof.Rows.callWith_type1 (cX (t pos c s σ H _ I h) λg d l=>?_) (by rw[u];rfl) rfl));nofun;obtain⟨h,i,e,f,g⟩:=l;ac_rfl
 match h,f,g with
 | [.ref a],f,g=>
  obtain⟨b,h,v,q⟩:=g
  cases f with
  |cons r w=>
   cases w
   cases r;obtain⟨f,g,p,h⟩:=e.sq v;calc DA p λg f h m l=>wpAny_pyIter_enum f ?_;have m:Inv X c σ i {d with heap:=g}:=e.kept (t':=d.toks) l;calc⟨_,[d.heap.objs.size+1,d.heap.objs.size],_,_,i,rfl,m,Dz b _ _ a (Nat.succ_ne_self _),⟨⟨_,f⟩,h⟩,λc j=>?_,q⟩;have k:d.heap.objs.size<=c:=by
    simp only[List.mem_cons,List.not_mem_nil,or_false]at j;rcases j with rfl|rfl
    ·exact Nat.le_succ _
    ·exact K' _
   calc e.Ft k (e.aZ.fresh k)
theorem GI{o:List Expr}{s:Nat}{t:Pos}{a b:Expr}{h:TA}{p pos:Pos}(u:Gl X "zip")(v:X.mg "zip"=none)(w:PA X [a,b] h)(x:starEach [a,b] X.env=[(false,eval a X.env),(false,eval b X.env)]:=by rfl)(k:starEach [b] X.env=[(false,eval b X.env)]:=by rfl):
  PI X (.Tuple o s t) (.Call (.Name "zip" p) [a,b] [] pos) (PX X.K h):=by
 calc⟨?_⟩;intro e s σ H R I h;calc Call_ (oS I u v boot_zip (PyProof.Rows.callWith_type1 (cX (w pos e s σ H _ I h) λp f o=>?_) (by rw[x,k]) (by rw[k];rfl)));nofun;obtain⟨p,l,i,g,h⟩:=o;ac_rfl
 match p,g,h with
 | [.ref a,.ref d],g,h=>
  obtain⟨b,c,k,o,y,z,q⟩:=h
  cases g with
  |cons r j=>
   cases j with
   |cons A j=>
    cases j
    cases r
    cases A;obtain⟨g,h,j,k⟩:=i.sq y;obtain⟨h,o,k,g⟩:=i.sq z;calc GD j k λg h o p r s u t=>wpAny_pyIter_zip h ?_;have j:Inv X e σ l {f with heap:=g}:=i.kept (t':=f.toks) t;refine⟨_,[f.heap.objs.size+4,f.heap.objs.size+2,f.heap.objs.size+3,f.heap.objs.size,f.heap.objs.size+1],_,_,l,rfl,j,GG b c _ _ _ _ _ a d ?_,⟨h,o,⟨_,_,p⟩,r,s⟩,λe m=>?_,q⟩
    ·simp
    ·have n:f.heap.objs.size<=e:=by
      simp only[List.mem_cons,List.not_mem_nil,or_false]at m;rcases m with rfl|rfl|rfl|rfl|rfl
      ·exact Nat.le_add_right _ _
      ·exact Nat.le_add_right _ _
      ·exact Nat.le_add_right _ _
      ·exact K' _
      ·exact Nat.le_add_right _ _
     calc i.Ft n (i.aZ.fresh n)
end
end
end L2
namespace HT
open PySem PyProof.Rows
section
variable {prog:Program}{w:World}{A:Around}{E:Value->Shared->Prop}{s:Shared}
theorem nV{t e:Addr}{a:Array Value}{f g:Value}{b d:Option Int}{Q:Value->Shared->Prop}(c:IsTup s.heap t a)(i:s.heap.IsSliceOf e f g .none)(pl:IsPart f b)(j:IsPart g d)
  (f:eG a.size 0 b=0/\eG a.size a.size d=a.size) (h:Q (.ref t) s):wpAny (model prog w) A (getItem (.ref t) (.ref e)) Q E s:=by
 obtain⟨g,k,l,n⟩:=id i;have n:s.TypeIs (.ref e) "slice":=⟨g,k,l⟩
 unfold getItem
 try with_reducible refine wpAny_holding ?_
 first|calc j' (P' ?_)|skip
 refine j' (wpAny_sequenceKey c.typeIs (by decide) (j' (wpAny_callSpecial?_slot (name:=Str.ofString "__getitem__") c.typeIs PyProof.Rows.slot_tuple_getitem
  (wpAny_call_entry PyProof.Rows.slot_tuple_getitem c.typeIs entry_tuple_getitem ?_ (args_tuple_getitem _ _)))))
 calc j' (m:=Builtin.Tuple.tupleItemsOf (.ref t)) (tupleItemsOf_ c (j' (wpAny_typeOf n ?_)));rw[if_pos (by decide)];calc j' (jL i pl j ?_);have e:(((eG a.size 0 b:Nat):Int)==0&&(1:Int)==1&&(eG a.size a.size d-eG a.size 0 b)==a.size)=true:=by
  rw[f.1,f.2];simp
 show wpAny _ _ (if (((eG a.size 0 b:Nat):Int)==0&&(1:Int)==1&&(eG a.size a.size d-eG a.size 0 b)==a.size)=true then _ else _) _ _ s;rw[if_pos e];calc j' (m:=Builtin.Tuple.tupleIsExact (.ref t)) ?_;unfold Builtin.Tuple.tupleIsExact;calc j' (wpAny_typeOf c.typeIs (P' ?_));rw[if_pos (by decide)];calc j' (wpAny_rule (P' ⟨_,rfl,P' h⟩))
end
end HT
namespace L2
open PySem PySem.Spec PyProof.Rows
section
variable {p:Addr}{H:Hp}{Q:VK}{K:W.Frag}
section
variable {X:Cx}
def Z7:V->Option Int->Option Int->Hp->VK->Prop:=λx c d H Q=>match x with
 | .ref a=>(∃xs,H a=some (.lst xs)/\∀p,H p=none->Q (.ref p) (upd H p (.lst (dj xs c d))))\/(∃xs,H a=some (.tup xs)/\∀p b,av H b->b p=some (.tup (dj xs c d))->Q (.ref p) b)
 |_=>False
theorem M7{a:Addr}{b c:Option Int}:Z7 (.ref a) b c H Q=((∃xs,H a=some (.lst xs)/\∀p,H p=none->Q (.ref p) (upd H p (.lst (dj xs b c))))\/(∃xs,H a=some (.tup xs)/\∀p d,av H d->d p=some (.tup (dj xs b c))->Q (.ref p) d)):=rfl
theorem Z8:TL X Z7:=by
 intro c s σ H x v t u i j w Q I l m n o h
 cases x<;>first
  |calc(show False from h).elim
  |skip
 rename_i a;rcases h with⟨b,d,q⟩|⟨b,d,q⟩
 ·exact Bu c s σ H _ v t u i j w Q I l m n o ⟨a,b,rfl,aU.of d,q⟩
 ·by_cases k:HT.eG b.length 0 i=0/\HT.eG b.length b.length j=b.length
  ·cases l;obtain⟨z,r,y,C⟩:=I.tuple (bI.of d);have g:z.toArray.size=b.length:=by rw[List.size_toArray];exact r.length.symm
   refine⟨"tuple",_,PyProof.Rows.slot_tuple_getitem.lookup,y.typeIs,HT.nV y m n o (by rw[g];exact k) ⟨.ref a,H,I,rfl,q a H (av.refl H) ?_⟩⟩;have e:dj b i j=b:=by
    unfold dj;rw[k.1,k.2];simp
   rw[e];exact d
  ·calc O9 c s σ H _ v t u i j w Q I l m n o ⟨a,b,rfl,bI.of d,k,λp B=>q p _ (av.new _ B) af⟩
theorem rS{e:Expr}{a:TE}{b c:Option Expr}{d f:TO}{pos g:Pos}(h:PE X e a)(i:PO X b d)(j:PO X c f):PE X (.Subscript e (.Slice b c none g) pos) (TM Z7 a d f):=xn Z8 h i j
def Yh:R2:=λx y H Q=>match x,y with
 | .int i,.int j=>Q (.int (i+j)) H
 | .str i,.str j=>i.length+j.length<=sizeLine/\Q (.str (i++j)) H
 | .ref a,.ref b=>(∃xs c,H a=some (.lst xs)/\H b=some (.lst c)/\xs.length + c.length<=sizeLine/\∀p,H p=none->Q (.ref p) (upd H p (.lst (xs++c))))\/
   (∃xs c,H a=some (.tup xs)/\H b=some (.tup c)/\xs.length+c.length<=sizeLine/\∀p d,av H d->d p=some (.tup (xs++c))->Q (.ref p) d)
 |_,_=>False
theorem GJ{i j:Int}:Yh (.int i) (.int j) H Q=Q (.int (i+j)) H:=rfl
theorem GK{i j:Str}:Yh (.str i) (.str j) H Q=(i.length+j.length<=sizeLine/\Q (.str (i++j)) H):=rfl
theorem GL {a b:Addr}:Yh (.ref a) (.ref b) H Q=((∃xs c,H a=some (.lst xs)/\H b=some (.lst c)/\xs.length + c.length<=sizeLine/\∀p,H p=none->Q (.ref p) (upd H p (.lst (xs++c))))\/
      (∃xs c,H a=some (.tup xs)/\H b=some (.tup c)/\xs.length + c.length<=sizeLine/\∀p d,av H d->d p=some (.tup (xs++c))->Q (.ref p) d)):=rfl
theorem cC:gS X (binaryOp .Add) Yh:=by
 intro c s σ H x y v u Q I d e h
 cases x<;>cases y<;>first
  |calc(show False from h).elim
  |calc OV c s σ H _ _ v u Q I d e ⟨_,_,rfl,rfl,h⟩
  |calc zD c s σ H _ _ v u Q I d e ⟨_,_,rfl,rfl,h.1,h.2⟩
  |skip
 rename_i a b;rcases h with⟨k,l,f,g,m,i⟩|⟨k,l,f,g,m,i⟩
 ·exact Pj c s σ H _ _ v u Q I d e ⟨_,_,k,l,rfl,rfl,f,g,m,i⟩
 ·by_cases q:k=[]
  ·subst q
   cases d
   cases e;obtain⟨R,D,E,_⟩:=I.tuple (bI.of f);obtain⟨S,T,G,_⟩:=I.tuple (bI.of g)
   cases D;obtain⟨⟨J,K,r,L⟩,t,w,n,A⟩:=id E;obtain⟨⟨U,M,o,N⟩,B,C,O,j⟩:=id G;simp only at w A C j;subst w A C j;exact concat_meets ⟨_,t,rfl⟩ ⟨_,B,rfl⟩ noFill_tuple_add seq_tuple_add PySem.F.slot_tuple_add PySem.F.entry_tuple_add (PySem.F.args_tuple_add_2 _ _)
    (tuple_addW0 a b _ _ n O K M L N (by simp)) ⟨t,B,⟨.ref b,H,I,rfl,i b H (av.refl H) (by simpa using g)⟩⟩
  ·calc KI c s σ H _ _ v u Q I d e ⟨_,_,k,l,rfl,rfl,bI.of f,bI.of g,q,m,λz=>?_,λ_ p P=>i p _ (av.new _ P) af⟩;subst z;calc i a H (av.refl H) (by simpa using f)
def Ur(K:W.Frag):List V->Hp->VK->Prop:=λxs H Q=>match xs with
 | [.ref p]=>∃bs:List Bool,aU K H p (bs.map V.bl)/\Q (.bl (bs.all id)) H
 |_=>False
theorem GN:Ur K [.ref p] H Q=∃bs:List Bool,aU K H p (bs.map V.bl)/\Q (.bl (bs.all id)) H:=rfl
def Z9(K:W.Frag):List V->Hp->VK->Prop:=λxs H Q=>match xs with
 | [.ref p]=>∃bs:List Bool,aU K H p (bs.map V.bl)/\Q (.bl (bs.any id)) H
 |_=>False
theorem GO:Z9 K [.ref p] H Q=∃bs:List Bool,aU K H p (bs.map V.bl)/\Q (.bl (bs.any id)) H:=rfl
theorem BN:∀{bs:List Bool}{us:List Value},Vals (bs.map V.bl) us->us=bs.map Value.bool
 | [],_,.nil=>rfl
 |b::bs,_,.cons r t=>by
  cases r;rw[BN t];rfl
theorem all_range:∀(bs:List Bool),((List.range bs.length).all λi=>bs.getD i false)=bs.all id:=by
 intro bs;induction bs with
 |nil=>rfl
 |cons b r a=>
  rw[List.length_cons,List.range_succ_eq_map,List.all_cons,List.all_map,List.all_cons];have:((λi=>(b::r).getD i false) ∘ Nat.succ)=λi=>r.getD i false:=by funext i;simp
  rw[this,a];rfl
theorem GP{prog:Program}{w:World}{A:Around}{bs:List Bool}:TruthOf prog w A (λi v=>(bs.map Value.bool).toArray[i]?=some v) (λi=>bs.getD i false):=by
 intro i v s Q E e c;have a:(bs.map Value.bool)[i]?=some v:=by simpa using e
 rw[List.getElem?_map]at a
 cases d:bs[i]? with
 |none=>rw[d]at a;cases a
 |some b=>
  rw[d]at a
  cases a;have:bs.getD i false=b:=by rw[List.getD_eq_getElem?_getD,d];rfl
  replace c:Q (bs.getD i false) s:=c
  rw[this]at c;calc wpAny_truthy_bool c
theorem jO(d:X.calm=true):fq X (.builtin "all") (Ur X.K):=by
 intro c s σ H f k Q I r h
 match f,r,h with
 | [.ref p],r,h=>
  obtain⟨a,g,q⟩:=h;obtain⟨u,rfl,i⟩:=Vals.one r
  cases i;obtain⟨c,j,b,f⟩:=I.list g;have e:=BN j;subst e;refine call_all_walk (wpAny_pyIter_list b.isList ⟨s.heap.objs.size,_,_,_,_,_,λi=>a.getD i false,rfl,Walks.list (show X.A.in1.handled=none from I.ok.hd d) _ p ?_ (a.map Value.bool).toArray,⟨⟨_,V' _ rfl,rfl,rfl⟩,b.isList.push _⟩,GP,λf g c=>?_⟩)
  ·obtain⟨o,e,_⟩:=b.isList;exact Y' (S' e)
  ·have:(a.map Value.bool).toArray.size=a.length:=by simp
   rw[this,all_range];calc⟨.bl _,H,I.kept λb o e=>c b o (by simp[Nat.ne_of_lt (Heap.lt_size e)]) (J' _ e),rfl,q⟩
def Us:List V->Hp->VK->Prop:=λxs H Q=>match xs with
 | [.ref p]=>(H p=some (.tup [])/\Q (.int 0) H)\/(∃i:Int,H p=some (.tup [.int i])/\-(2^63)<=i/\i<2^63/\Q (.int i) H)
 |_=>False
theorem BO:Us [.ref p] H Q=((H p=some (.tup [])/\Q (.int 0) H)\/(∃i:Int,H p=some (.tup [.int i])/\-(2^63)<=i/\i<2^63/\Q (.int i) H)):=rfl
def xM:List V->Option (List Value)
 | []=>some []
 | .ty n::r=>(xM r).map (.type n::·)
 |_=>none
theorem xN:∀{xs:List V}{us a:List Value},Vals xs us->xM xs=some a->us=a
  | [],_,_,.nil,h=>by cases h;rfl
  |x::xs,_,a,.cons r t,h=>by
    cases x<;>first
      |cases h
      | (rename_i n
         unfold xM at h;obtain⟨b,c,d⟩:=Option.map_eq_some_iff.mp h
         cases r;rw[<-d,xN t c])
def K6(K:W.Frag):List V->Hp->VK->Prop:=λxs H Q=>match xs with
 | [x,.ty n]=>∃t b,gv K H x t/\W.kitOne K t (.type n)=some b/\Q (.bl b) H
 | [x,.ref p]=>∃t b a c,gv K H x t/\H p=some (.tup a)/\xM a=some c/\W.kitAny K t c=some b/\Q (.bl b) H
 |_=>False
theorem GQ{x:V}{n:String}:K6 K [x,.ty n] H Q=∃t b,gv K H x t/\W.kitOne K t (.type n)=some b/\Q (.bl b) H:=rfl
theorem GR{x:V}:K6 K [x,.ref p] H Q=∃t b a c,gv K H x t/\H p=some (.tup a)/\xM a=some c/\W.kitAny K t c=some b/\Q (.bl b) H:=rfl
theorem Ab{x:V}{u t:Value}{pins:List (Addr×Obj)}{σ:St}{H:Hp}{s:Shared}{A:Around}{E:Value->Shared->Prop}{Q:Value->Shared->Prop}{b:Bool}{m:Addr}{r:List Value}(I:Inv X pins σ H s)(c:RelV x u)(C:gv X.K H x t)
  (D:IsTup s.heap m r.toArray) (e:W.kitAny X.K t r=some b) (h:∀x,Q (.bool b) {s with toks:=x}):wpAny (model X.prog X.w) A (call (.builtin "isinstance") [u,.ref m]) Q E s:=by
 obtain⟨⟨m,r,b,x⟩,d,v,n,hd⟩:=id D;simp only at v hd;subst v hd
 cases C with
 |bM=>cases(show u=Value.none from c);calc W.kia_tup W.kitx_none I.ic aaF d e (λz=>nomatch z) h
 |bl y=>cases(show u=Value.bool y from c);calc W.kia_tup W.kitx_bool I.ic aaF d e (λz=>nomatch z) h
 |int i=>obtain⟨t,q⟩:=(show ∃t,u=Value.int i t from c);cases q;calc W.kia_tup W.kitx_int I.ic aaF d e (λz=>nomatch z) h
 |str y=>obtain⟨t,q⟩:=(show ∃t,u=Value.str y t from c);cases q;calc W.kia_tup W.kitx_str I.ic aaF d e (λz=>nomatch z) h
 |Mz y=>obtain⟨t,q⟩:=(show ∃t,u=Value.float y t from c);cases q;calc W.kia_tup W.kitx_float I.ic aaF d e (λz=>nomatch z) h
 | @lst a j f=>
  cases(show u=Value.ref a from c);obtain⟨_,_,n,_,g⟩:=(show cQ X.prog X.w H s.heap a (.lst j) from I.aZ a _ f)
  calc W.kia_tup W.kitx_list I.ic ⟨_,g,rfl⟩ d e (λz=>nomatch z) h
 | @zg a F j f=>
  cases(show u=Value.ref a from c);obtain⟨_,_,_,n,_,g⟩:=(show cQ X.prog X.w H s.heap a (.zg F (.lst j)) from I.aZ a _ f)
  calc W.kia_tup W.kitx_list I.ic ⟨_,g,rfl⟩ d e (λz=>nomatch z) h
 | @tup a j f=>
  cases(show u=Value.ref a from c);obtain⟨_,_,_,p⟩:=(show cQ X.prog X.w H s.heap a (.tup j) from I.aZ a _ f)
  obtain⟨o,g,k,_⟩:=p;calc W.kia_tup W.kitx_tuple I.ic ⟨o,g,k⟩ d e (λz=>nomatch z) h
 | @dK a l f=>
  cases(show u=Value.ref a from c);obtain⟨_,_,b,_,p⟩:=(show cQ X.prog X.w H s.heap a (.dK l) from I.aZ a _ f)
  obtain⟨o,G,J,g,k,_⟩:=p;calc W.kia_tup W.kitx_dict I.ic ⟨o,g,k.1⟩ d e (λz=>nomatch z) h
 | @dT a l f=>
  cases(show u=Value.ref a from c);obtain⟨_,_,j,_,o,G,J,g,k,_⟩:=(show cQ X.prog X.w H s.heap a (.dT l) from I.aZ a _ f)
  calc W.kia_tup W.kitx_dict I.ic ⟨o,g,k.1⟩ d e (λz=>nomatch z) h
 | @ins a C b g f B L M N P=>
  cases(show u=Value.ref a from c);obtain⟨b,O,_⟩:=nM I.aZ f;obtain⟨a,J,_⟩:=O.look;calc W.kia_tup (W.kitx_own (B.get _) B.hd L M N P) I.ic J d e (λz=>nomatch z) h
theorem cS:fq X (.builtin "isinstance") (K6 X.K):=by
 intro f s σ H g n Q I r h
 match g,r,h with
 | [x,.ty n],r,h=>
  obtain⟨t,b,ty,e,q⟩:=h;obtain⟨u,i,rfl,a,c⟩:=vals2 r
  cases c;calc uk I a ty e λj=>⟨.bl b,H,I.tok _,rfl,q⟩
 | [x,.ref p],r,h=>
  obtain⟨t,b,f,g,ty,k,d,e,q⟩:=h;obtain⟨u,i,rfl,a,c⟩:=vals2 r
  cases c;obtain⟨f,l,m,g⟩:=I.tuple (bI.of k);have o:=xN l d;subst o;calc Ab I a ty m e λj=>⟨.bl b,H,I.tok _,rfl,q⟩
end
end
section
variable {a:Addr}{H:Hp}{D:List (Str×V)}{Q:VK}
section
variable {X:Cx}
def Ut:V->List V->Hp->VK->Prop:=λx vs H Q=>match x,vs with
 | .ref l,[y]=>∃xs,H l=some (.lst xs)/\xs.length<sizeLine/\Q .bM (upd H l (.lst (xs++[y])))
 |_,_=>False
theorem GS{l:Addr}{y:V}:Ut (.ref l) [y] H Q=∃xs,H l=some (.lst xs)/\xs.length<sizeLine/\Q .bM (upd H l (.lst (xs++[y]))):=rfl
theorem bW:TR X "list.append" Ut:=by
 intro a s σ H x c v d Q I e b h
 match x,c,b,h with
 | .ref l,[y],b,⟨c,f,g,h⟩=>calc uy a s σ H _ _ v d Q I e b ⟨l,c,y,rfl,rfl,f,g,h⟩
def Uu:V->List V->Hp->VK->Prop:=λx vs H Q=>match x,vs with
 | .ref l,[.ref b]=>∃xs a,H l=some (.lst xs)/\H b=some (.lst a)/\xs.length+a.length<=sizeLine/\Q .bM (upd H l (.lst (xs++a)))
 |_,_=>False
theorem GU{l b:Addr}:Uu (.ref l) [.ref b] H Q=∃xs a,H l=some (.lst xs)/\H b=some (.lst a)/\xs.length+a.length<=sizeLine/\Q .bM (upd H l (.lst (xs++a))):=rfl
theorem K7:TR X "list.extend" Uu:=by
 intro a s σ H x b v d Q I e c h
 match x,b,c,h with
 | .ref l,[.ref b],c,⟨f,g,h,i,j,k⟩=>calc Dl a s σ H _ _ v d Q I e c ⟨l,b,f,g,rfl,rfl,h,i,j,k⟩
def aaa:V->List V->Hp->VK->Prop:=λx vs H Q=>match x,vs with
 | .ref l,[]=>∃xs,H l=some (.lst xs)/\Q .bM (upd H l (.lst []))
 |_,_=>False
theorem GV{l:Addr}:aaa (.ref l) [] H Q=∃xs,H l=some (.lst xs)/\Q .bM (upd H l (.lst [])):=rfl
def aab:V->List V->Hp->VK->Prop:=λx vs H Q=>match x,vs with
 | .ref l,[.int 0,y]=>∃xs,H l=some (.lst xs)/\xs.length<sizeLine/\Q .bM (upd H l (.lst (y::xs)))
 |_,_=>False
theorem GW{l:Addr}{y:V}:aab (.ref l) [.int 0,y] H Q=∃xs,H l=some (.lst xs)/\xs.length<sizeLine/\Q .bM (upd H l (.lst (y::xs))):=rfl
def Uv:V->List V->Hp->VK->Prop:=λx vs H Q=>match x,vs with
 | .ref l,[.int 0]=>∃y xs,H l=some (.lst (y::xs))/\Q y (upd H l (.lst xs))
 |_,_=>False
theorem BP{l:Addr}:Uv (.ref l) [.int 0] H Q=∃y xs,H l=some (.lst (y::xs))/\Q y (upd H l (.lst xs)):=rfl
def GX(a b:TE):TS:=λD σ H=>a σ H λx c=>b σ c λy a=>∃l i xs k,x=.ref l/\y=.int i/\a l=some (.lst xs)/\-(2^63)<=i/\i<2^63/\seqIndex? i xs.length=some k/\D.nx σ (upd a l (.lst (xs.eraseIdx k)))
theorem K8{o i:Expr}{a b:TE}{c pos:Pos}(d:PE X o a)(e:PE X i b):PS X (.Delete [.Subscript o i c] pos) (GX a b):=by
 walk_at "xd";refine wpAny_Delete (wpAny_deleteEach_cons (wpAny_delete_Subscript (cX (d pins s σ H _ I h) λu a ⟨x,b,c,f,g⟩=>cX (e pins a σ b _ c g) λd k j=>?_)));nofun;obtain⟨y,a,m,n,l,i,b,k,p,q,r,v,w,z,A⟩:=j;ac_rfl;subst p q;obtain rfl:u=Value.ref l:=f;obtain⟨t,rfl⟩:=n;exact FW m r v w z λb a=>wpAny_deleteEach_nil ⟨σ,_,a,A⟩
structure CD(K:W.Frag)(a:Addr)(D:List (Str×V)):Prop where
 ex:∃o es ep,K.lookup a=some o/\o.ExactDict/\o.data=.dict es ep/\KTD.Rows RelV es.toList D
 ne:(a==sysModules)=false
theorem PY{prog:Program}{w:World}{A:Around}{E:Value->Shared->Prop}{s:Shared}{o:Obj}{b:Array DictEntry}{f:Nat}{k:Str}{h:Tok}{Q:Option Value->Shared->Prop}(j:s.heap.get? a=some o)(m:o.data=.dict b f)(g:KTD.Rows RelV b.toList D)
  (i:∀d v,KTD.datumAt k D=some d->RelV d v->Q (some v) {s with toks:=s.toks+1}) (n:KTD.datumAt k D=none->Q none {s with toks:=s.toks+1}):wpAny (model prog w) A (dictGet a (.str k h)) Q E s:=by
 unfold dictGet
 try with_reducible refine wpAny_holding ?_
 calc j' (wpAny_pyHash_str (j' (KTD.kt_dictFind_strs (s:={s with toks:=s.toks+1}) j m (by obtain⟨l⟩:=b;simpa using g.exact) ?_)));have c:Q (findBy (λk v=>v.isStr k) b k) {s with toks:=s.toks+1}:=by
  have f:findBy (λk v=>v.isStr k) b k=(b.toList.find? λe=>e.key.isStr k).map (·.val):=by
   obtain⟨l⟩:=b;simp[findBy]
  rw[f]
  cases f:KTD.datumAt k D with
  |some d=>
   obtain⟨v,l,h⟩:=g.find_some f;rw[l];calc i d v f h
  |none=>rw[g.find_none f];exact n f
 rw[findBy_of_findIdx?]at c
 cases d:b.findIdx? λe=>e.key.isStr k with
 |none=>rw[d]at c;calc P' c
 |some i=>rw[d]at c;calc j' (wpAny_dictEntries (s:={s with toks:=s.toks+1}) j m (P' c))
theorem Ac{prog:Program}{w:World}{o:Obj}{c:Array DictEntry}{d:Nat}{k:Str}{b:Tok}(e:o.data=.dict c d)(f:KTD.Rows RelV c.toList D)(g:(a==sysModules)=false):
  MeetsIn prog w (Builtin.«dict.get» ⟨[.ref a,.str k b],[]⟩) (λ_ R s=>s.heap.get? a=some o/\(∀d v,KTD.datumAt k D=some d->RelV d v->R (.ok (.ret v)) {s with toks:=s.toks+1})/\(KTD.datumAt k D=none->R (.ok (.ret .none)) {s with toks:=s.toks+1})):=
 .of_wp λA R s ⟨T,c,h⟩=>by
  show wpAny _ _ (dictGet a (.str k b) >>= _) _ _ s;calc j' (PY T e f (λd v i j=>P' ⟨v,rfl,c d v i j⟩) λe=>?_);show wpAny _ _ (Builtin.Dict.missed a (.str k b) >>= _) _ _ _;calc j' (wpAny_missed_other g (P' ⟨.none,rfl,h e⟩))
theorem Yi{k:Str}{a:Hp}:(match ([V.str k]:List V) with | [.str k]=>Q ((KTD.datumAt k D).getD .bM) a|_=>False)=Q ((KTD.datumAt k D).getD .bM) a:=rfl
def GY(D:List (Str×V))(t:TA):TE:=λσ H Q=>t σ H λxs a=>match xs with
 | [.str k]=>Q ((KTD.datumAt k D).getD .bM) a
 |_=>False
theorem K9{n:Str}{e:Expr}{t:TA}{p b d:Pos}(C:CD X.K a D)(r:Gl X n)(v:X.mg n=some (.ref a))(w:PA X [e] t)
  (x:(n==("__debug__":Str))=false:=by decide) (y:attributeBase (.Name n p) "get" X.env (eval (.Name n p) X.env)=eval (.Name n p) X.env:=by rfl)
  (z:(b.endLine==d.line)=true:=by rfl) (l:starEach [e] X.env=[(false,eval e X.env)]:=by rfl):PE X (.Call (.Attribute (.Name n p) "get" b) [e] [] d) (GY D t):=by
 walk_at "xc";obtain⟨o,b,n,m,f,A,B⟩:=C.ex;refine wpAny_Call_method_late y (by rw[l];rfl) z rfl (j0 I r v ?_ x);have q:s.heap.get? a=some o:=I.ic a o m;refine⟨"dict","dict.get",PySem.F.plainAttrs_dict,PySem.F.slot_dict_get,PySem.F.type_dict_get,⟨o,q,f.1⟩,λb e=>?_,?_⟩
 ·cases e;exact⟨o,q,f.2.1⟩
 have b:=w d pins s σ H _ I h;rw[l]at b ⊢;calc Calls.callWith_builtin rfl (Calls.evalArgs_plain (cX b λn E e=>?_));nofun;obtain⟨b,g,i,j,c⟩:=e;ac_rfl
 match b,j,c with
 | [.str k],j,c=>
  obtain⟨u,rfl,G⟩:=Vals.one j;obtain⟨J,rfl⟩:=G;have e:E.heap.get? a=some o:=i.ic a o m
  replace c:Q ((KTD.datumAt k D).getD .bM) g:=c
  refine call_meetsIn PySem.F.slot_dict_get ⟨o,e,f.1⟩ PySem.F.entry_dict_get (PySem.F.args_dict_get_2 _ _) (Ac A B C.ne) ⟨e,λd v b j=>?_,λe=>?_⟩
  ·exact⟨d,g,i.tok _,j,by have:=c;rw[b]at this;calc this⟩
  ·calc⟨.bM,g,i.tok _,rfl,by have:=c;rw[e]at this;calc this⟩
end
end
section
variable {x:Str}
section
variable {X:Cx}
theorem fY{n:Int}{pos:Pos}(a:∃t,X.mg x=some (.int n t))(b:Gl X x)(c:(x==("__debug__":Str))=false:=by decide):PE X (.Name x pos) (tC (.int n)):=by
 obtain⟨t,a⟩:=a;calc cF b a ⟨t,rfl⟩ c
end
structure eV(P:Program)(w:World)(K:W.Frag)(mg:Str->Option Value)(base:Heap)(C:Addr)(m:Str)(k:Nat)(ps:List Str)(sp:Sp):Prop where
 ex:∃f fd,Meth K C m f/\jJ P w K mg base wW k f fd ps sp/\Binds K fd ps []
structure gQ(K:W.Frag)(C:Addr)(m qual:Str)(st:Stmt)(ps:List Str):Prop where
 ex:∃f fd,Meth K C m f/\EJ K m qual st f fd/\Binds K fd ps []
structure xO(P:Program)(w:World)(K:W.Frag)(mg:Str->Option Value)(base:Heap)(x:Str)(C:Addr)(k:Nat)(ps:List Str)(sp:Sp):Prop where
 ex:∃f fd,Mk K C f/\jJ P w K mg base wW k f fd ps sp/\Binds K fd ps []
 mg:mg x=some (.ref C)
structure DB(K:W.Frag)(mg:Str->Option Value)(x:Str)(C:Addr)(qual:Str)(st:Stmt)(ps:List Str):Prop where
 ex:∃f fd,Mk K C f/\EJ K "__init__" qual st f fd/\Binds K fd ps []
 mg:mg x=some (.ref C)
section
variable {P:Program}{w:World}{K:W.Frag}{mg:Str->Option Value}{base:Heap}
theorem gQ.ok{C:Addr}{m a:Str}{b:Stmt}{N c:List Str}{k:Nat}{sp:Sp}(T:gQ K C m a b c)(S:aE N c (ay b))(d:∀vs H Q E,sp vs H Q E->vs.length=c.length)
  (g:∀(f:Addr) (e:Value) (A:Around) (outer:List Env) (s:Shared) (H:Hp) (vs:List V) (Q:VK) (E:XK),d9 k (A.deeper (envOfC a (ay b) s.heap.objs.size f e))->sp vs H Q E->
   ∃t,qW (jK wW P w K mg base N a (ay b) f e A outer s H E).vC (cG b) t/\t {nx:=λ_ a=>Q .bM a,rt:=Q} (start N vs) H):eV P w K mg base C m (k + 1) c sp:=by
 obtain⟨f,a,M,F,b⟩:=T.ex;calc⟨f,a,M,F.ok S d (g f),b⟩
theorem DB.ok{C:Addr}{a:Str}{b:Stmt}{N c:List Str}{k:Nat}{sp:Sp}(T:DB K mg x C a b c)(S:aE N c (ay b))(d:∀vs H Q E,sp vs H Q E->vs.length=c.length)
  (g:∀(f:Addr) (e:Value) (A:Around) (outer:List Env) (s:Shared) (H:Hp) (vs:List V) (Q:VK) (E:XK),d9 k (A.deeper (envOfC a (ay b) s.heap.objs.size f e))->sp vs H Q E->
   ∃t,qW (jK wW P w K mg base N a (ay b) f e A outer s H E).vC (cG b) t/\t {nx:=λ_ a=>Q .bM a,rt:=Q} (start N vs) H):xO P w K mg base x C (k + 1) c sp:=by
 obtain⟨f,a,M,F,b⟩:=T.ex;calc⟨⟨f,a,M,F.ok S d (g f),b⟩,T.mg⟩
end
section
variable {X:Cx}{o e:Expr}{es:List Expr}{to:TE}{t:TA}{apos p pos:Pos}{C:Addr}{m x:Str}{k j:Nat}{ps:List Str}{sp:Sp}
theorem kq{pl:Sem Bool}(D:eV X.prog X.w X.K X.mg X.base C m k ps sp)(c:tw X.K C)(b:d9 j X.A)(d:PE X o to)(g:PA X (e::es) t)(h:k<=j:=by decide)(i:dF e=true:=by rfl)(l:es.all dF=true:=by rfl)
  (n:eval (.Call (.Attribute o m apos) (e::es) [] pos) X.env=(do
   let a <-eval o X.env
   standAt apos.atName
   let (f,first) <-holding [a] (getMethod a m pl)
   callWith pos f first (backTo pos (starEach (e::es) X.env)) (backToKw pos (keywordEach [] X.env))):=by rfl):
  PE X (.Call (.Attribute o m apos) (e::es) [] pos) (qr C m sp [] E0 to t):=by
 obtain⟨f,p,M,F,a⟩:=D.ex;calc Bo d c M F (b.mono h) a .nil BB g (dP i) (ft l) n
theorem iA{pl:Sem Bool}(D:eV X.prog X.w X.K X.mg X.base C m k ps sp)(c:tw X.K C)(b:d9 j X.A)(d:PE X o to)(e:k<=j:=by decide)
  (g:eval (.Call (.Attribute o m apos) [] [] pos) X.env=(do
   let a <-eval o X.env
   standAt apos.atName
   let (f,first) <-holding [a] (getMethod a m pl)
   callWith pos f first (backTo pos (starEach [] X.env)) (backToKw pos (keywordEach [] X.env))):=by rfl):
  PE X (.Call (.Attribute o m apos) [] [] pos) (qr C m sp [] E0 to Dg):=by
 obtain⟨f,h,M,F,a⟩:=D.ex;calc FJ d c M F (b.mono e) a .nil BB g
theorem GZ(D:xO X.prog X.w X.K X.mg X.base x C k ps sp)(a:d9 j X.A)(b:PA X (e::es) t)(c:Gl X x:=by rfl)(d:k+1<=j:=by decide)(g:(x==("__debug__":Str))=false:=by decide)
  (h:dF e=true:=by rfl) (i:es.all dF=true:=by rfl):PE X (.Call (.Name x p) (e::es) [] pos) (Bn C sp [] E0 t):=by
 obtain⟨f,m,M,F,l⟩:=D.ex;calc KG M F (a.mono d) c D.mg l .nil BB b g (dP h) (ft i)
end
theorem nW{K:W.Frag}{b:Bool}{a:Addr}{xs:List V}{g:TG}{l:TS}{D:Ends}{σ:St}{H:Hp}(c:Nat->St->Hp->Prop)(o:c 0 σ H)(j:∀i σ H,c i σ H->Sq b K H a xs)
  (q:∀i x σ H T,xs[i]?=some x->c i σ H->H T=none->g (.ref T) σ (upd H T (.tup [.int i,x])) λd k=>l {D with nx:=c (i+1),ct:=c (i+1),bk:=D.nx} d k) (r:∀σ H,c xs.length σ H->D.nx σ H):
  ∃W:Nat->Nat->St->Hp->Prop,(∃m,W 0 m σ H)/\∀i m σ H,W i m σ H->
   ((M6 b K a).stop i H/\D.nx σ H)\/((M6 b K a).go i H/\∃N:St->Hp->Prop,(∀f h,N f h->∃n,n<m/\W (i+1) n f h)/\∀x h,(M6 b K a).Kp i H x h->g x σ h λd k=>l {D with nx:=N,ct:=N,bk:=D.nx} d k):=by
 calc⟨λi m σ H=>m=xs.length-i/\i<=xs.length/\c i σ H,⟨xs.length,by simp,aal _,o⟩,?_⟩;rintro i m σ H ⟨rfl,b,p⟩;by_cases a:i<xs.length
 ·calc .inr ⟨⟨xs,xs[i],j i σ H p,cP a⟩,c (i+1),λf h b=>⟨xs.length-(i+1),by lia,rfl,a,b⟩,λx h y=>?_⟩;obtain⟨T,s,rfl,y⟩:=y;obtain⟨x,t,rfl⟩:=y xs (j i σ H p);exact q i x σ H T t p s
 ·have e:i=xs.length:=by lia
  subst e;calc .inl ⟨⟨xs,j _ σ H p,rfl⟩,r σ H p⟩
theorem iB{X:Cx}{i j:Nat}{y:Str}{b c pos:Pos}{k:Nat}(d:X.calm=true)(a:X.N.Nodup)(e:X.N[i]?=some x)(f:X.N[j]?=some y)(g:Loc X.env.scope x)(h:Loc X.env.scope y)
  (l:X.fn x=true\/X.env.scope.names.lookup x=some .local:=by grind) (m:X.fn y=true\/X.env.scope.names.lookup y=some .local:=by grind):
  PG X (.Tuple [.Name x b,.Name y c] k pos) (Ko X.K 2 (qp (hX i) (qp (hX j) Kn))):=Fp d (kC (ba a e g l) (kC (ba a f h m) Bf))
end
end L2
set_option maxHeartbeats 400000
namespace L2
open PySem PySem.Spec PyProof.Rows
structure Uz(K:W.Frag)(mg:Str->Option Value)(x:Str)(C B:Addr)(qual:Str)(st:Stmt)(ps:List Str):Prop where
 cl:iX K C B
 ex:∃f fd,W.findIn K (.ref C) "__init__"=some (some (.ref f))/\W.isFn K (.ref f)=true/\EJ K "__init__" qual st f fd/\Binds K fd ps []
 mg:mg x=some (.ref C)
structure aac(P:Program)(w:World)(K:W.Frag)(mg:Str->Option Value)(base:Heap)(x:Str)(C B:Addr)(k:Nat)(ps:List Str)(sp:Sp):Prop where
 cl:iX K C B
 ex:∃f fd,W.findIn K (.ref C) "__init__"=some (some (.ref f))/\W.isFn K (.ref f)=true/\jJ P w K mg base wW k f fd ps sp/\Binds K fd ps []
 mg:mg x=some (.ref C)
section
variable {P:Program}{w:World}{K:W.Frag}{mg:Str->Option Value}{base:Heap}
theorem Uz.ok{x:Str}{C B:Addr}{a:Str}{b:Stmt}{N c:List Str}{k:Nat}{sp:Sp}(T:Uz K mg x C B a b c)(S:aE N c (ay b))(d:∀vs H Q E,sp vs H Q E->vs.length=c.length)
  (g:∀(f:Addr) (e:Value) (A:Around) (outer:List Env) (s:Shared) (H:Hp) (vs:List V) (Q:VK) (E:XK),d9 k (A.deeper (envOfC a (ay b) s.heap.objs.size f e))->sp vs H Q E->
   ∃t,qW (jK wW P w K mg base N a (ay b) f e A outer s H E).vC (cG b) t/\t {nx:=λ_ a=>Q .bM a,rt:=Q} (start N vs) H):aac P w K mg base x C B (k + 1) c sp:=by
 obtain⟨f,a,M1,M2,F,b⟩:=T.ex;calc⟨T.cl,⟨f,a,M1,M2,F.ok S d (g f),b⟩,T.mg⟩
end
def vc:V->Value
 | .ref a=>.ref a
 | .ty n=>.type n
 |_=>.none
def aad(K:W.Frag):List V->Hp->VK->Prop:=λxs H Q=>∃a C B d c b f,xs=[.ref a,c]/\H a=some (XO a C d f)/\(∀e,d=some e->∃g,H e=some (XD e g))/\iX K C B/\(c=.ref (match c with | .ref z=>z|_=>0)\/∃n,c=.ty n)/\W.kitOne K (.ref C) (vc c)=some b/\Q (.bl b) H
theorem nX{X:Cx}:fq X (.builtin "isinstance") (aad X.K):=by
 intro i s σ H w j Q I r h;obtain⟨a,C,B,d,c,b,x,rfl,l,m,o,e,k,q⟩:=h;obtain⟨u,g,rfl,n,p⟩:∃u g,j=u::g/\RelV (.ref a) u/\Vals [c] g:=by cases r with|cons a b=>exact⟨_,_,rfl,a,b⟩
 obtain⟨t,rfl,f⟩:=p.one
 cases(show u=Value.ref a from n);have v:t=vc c:=by
  rcases e with e|⟨n,e⟩
  ·rw[e]at f ⊢;exact f
  ·rw[e]at f ⊢;exact f
 subst v;calc zW I l m o k λa=>⟨.bl b,H,I.tok _,rfl,q⟩
end L2
set_option maxHeartbeats 4000000
namespace L2
open PySem PySem.Spec PyProof.Rows
variable {a:Addr}{g:Bool->Bool}{H:Hp}{ix:List (Option Nat)}{zj:List (TE×TE)}{σ:St}{te:TE}{wi:TI}{tt:TT}{Q:VK}{K:W.Frag}
section
variable {X:Cx}{K:W.Frag}
theorem uG(a:X.K=K):fq X (.builtin "isinstance") (K6 K):=a▸cS
theorem rT(a:X.K=K):fq X (.builtin "len") (PB K):=a▸aP
theorem nY(a:X.K=K):fq X (.type "tuple") (vR K):=a▸cR
theorem La(a:X.K=K)(b:X.A.units+64<cLine):gS X (compareOp .Eq) (Px K):=a▸Ge b
theorem fZ{a b:Expr}{c d:TE}{pos:Pos}(e:X.K=K)(f:X.A.units+64<cLine)(g:PE X a c)(i:PE X b d)(h:vW b=true:=by rfl):PE X (.Subscript a b pos) (Ks (RY K) c d):=e▸ak f g i h
theorem Lb{e:Expr}{a:TE}{f:Str}{pos:Pos}(b:X.K=K)(c:PE X e a)(d:attributeBase e f X.env (eval e X.env)=eval e X.env):PE X (.Attribute e f pos) (Kz K a f):=b▸bJ c d
theorem nZ{i j:Nat}{x y:Str}{a b pos:Pos}{k:Nat}(c:X.K=K)(d:X.calm=true)(e:X.N.Nodup)(f:X.N[i]?=some x)(g:X.N[j]?=some y)(h:Loc X.env.scope x)(l:Loc X.env.scope y)
  (m:X.fn x=true\/X.env.scope.names.lookup x=some .local:=by grind) (n:X.fn y=true\/X.env.scope.names.lookup y=some .local:=by grind):
  PG X (.Tuple [.Name x a,.Name y b] k pos) (Ko K 2 (qp (hX i) (qp (hX j) Kn))):=c▸iB d e f g h l m n
end
inductive UA{α:Sort _}(x:α):Type
 |mk
def aae(ix:List (Option Nat))(wi:TI)(g:TG)(tt:TT)(te:TE)(_:UA (ix,wi,g,tt,te)):TE:=Uc ix wi g tt te
theorem BQ{g:TG}:Uc ix wi g tt te=aae ix wi g tt te .mk:=rfl
def UB(wi:TI)(g:TG)(a:TS)(_:UA (wi,g,a)):TS:=OT wi g a
theorem xP{g:TG}{a:TS}:OT wi g a=UB wi g a .mk:=rfl
def Lc(a:TT)(b:TS)(_:UA (a,b)):TS:=vD a b
theorem rV{a:TT}{b:TS}:vD a b=Lc a b .mk:=rfl
theorem bT{g:TG}(h:wi σ H λJ a=>∀D,a D=none->mr ix J g tt te σ a Q D):Uc ix wi g tt te σ H Q:=h
def Ld(ix:List (Option Nat))(J:It)(g:TG)(tt:TT)(te:TE)(σ:St)(H:Hp)(Q:VK)(D:Addr)(_:UA (ix,J,g,tt,te,σ,H,Q,D)):Prop:=mr ix J g tt te σ H Q D
theorem rW{J:It}{g:TG}{D:Addr}:mr ix J g tt te σ H Q D=Ld ix J g tt te σ H Q D .mk:=rfl
theorem Ad:Uj g (.ref a) .bM H Q=Q (.bl (g false)) H:=by
 show Q (.bl (g (decide (V.ref a=.bM)))) H=_;simp
theorem Ae:Uj g .bM .bM H Q=Q (.bl (g true)) H:=by
 show Q (.bl (g (decide (V.bM=.bM)))) H=_;simp
theorem av.R1{b:Hp}(s:av H b){a:Addr}{xs:List V}(h:bI K H a xs):bI K b a xs:=by
 rcases h with(h|⟨o,h⟩)|h
 ·exact .inl (.inl (s _ _ h))
 ·exact .inl (.inr ⟨o,s _ _ h⟩)
 ·calc .inr h
theorem jP{α:Type}(x:α)(n:Nat):List.replicate n x++[x]=List.replicate (n+1) x:=by
 rw[List.replicate_succ',]
theorem pb(n:Nat):List.replicate n (V.bl true)=(List.replicate n true).map V.bl:=by simp
theorem eL{xs:List V}{i:Int}{v:V}{P:V->Prop}(h:H a=some (.tup xs))(e:ia xs i=some v)(k:P v):∃xs v,(aU K H a xs\/bI K H a xs)/\ia xs i=some v/\P v:=⟨xs,v,.inr (bI.of h),e,k⟩
theorem bu{xs:List V}{i:Int}{v:V}{P:V->Prop}(h:H a=some (.lst xs))(e:ia xs i=some v)(k:P v):∃xs v,(aU K H a xs\/bI K H a xs)/\ia xs i=some v/\P v:=⟨xs,v,.inl (aU.of h),e,k⟩
def Qa(zj:List (TE×TE))(_:UA zj):TE:=Bz zj
theorem uH:Bz zj=Qa zj .mk:=rfl
theorem Le(h:∀p,H p=none->o7 zj σ (upd H p (.dK [])) λd b=>b p=some (.dK [])/\∃a:List (Key×V),d=a.map (λc=>(kV c.1,c.2))/\a.length<=15/\Q (.ref p) (upd b p (.dK (ml [] a)))):Bz zj σ H Q:=h
end L2
set_option maxHeartbeats 400000
namespace L2
open PySem PySem.Spec PyProof.Rows
section
section
variable {X:Cx}{K:W.Frag}
end
end
section
variable {L:Addr}{outer:List Env}
def qI(h:Heap)(e:Addr)(T:Option Addr)(d:Value):Prop:=
 ∃a vs,h.get? e=some a/\a.data=.fields vs/\((T=none/\vs[1]?=some .none)\/∃t b c,T=some t/\t≠e/\vs[1]?=some (.ref t)/\h.get? t=some b/\b.data=.fields c/\c[3]?=some d)
structure Chg(S:List Addr)(e:Addr)(T:Option Addr)(h h':Heap):Prop where
 keep:∀b o,b≠e->T≠some b->b∉S->h.get? b=some o->h'.get? b=some o
 slot:∀b o,b≠e->T≠some b->h.get? b=some o->∃sl,h'.get? b=some {o with slots:=sl}
 UC:∀o vs,h.get? e=some o->o.data=.fields vs->∃UD,h'.get? e=some {o with data:=.fields UD}
 aag:∀t o,T=some t->h.get? t=some o->∃o',h'.get? t=some o'
 size:h.objs.size<=h'.objs.size
theorem rX{o:Obj}{vs:Array Value}{f:Array Value->Array Value}(a:o.data=.fields vs):o.mapFields f={o with data:=.fields (f vs)}:=by
 obtain⟨c,d,b,e⟩:=o
 cases a;rfl
section
variable {M:Model}{A:Around}{E:Value->Shared->Prop}{s:Shared}
theorem entry_at{base:Heap}{env:Env}{e:Addr}{i:Obj}{vs:Array Value}{d:Value}{y:Bool}{Q:Unit->Shared->Prop}
  (z:A.frames=some (env::outer)) (u:s.heap.FunFrames base (env::outer)) (B:env.frame=some L)
  (q:s.heap.get? e=some i) (n:i.data=.fields vs) (hsz:1<vs.size)
  (h:∀h' t,s.heap.objs.size<=t->Chg (wR (env::outer)) e none s.heap h'->qI h' e (some t) (rawInt L)->Q () {s with heap:=h'}):
  wpAny M A (do let a <-frameOf env;let pl <-entryPlaceOf L y;let b <-EntryCells.newEntry d a .none (rawInt L) .none pl;setField (.ref e) 1 b) Q E s:=by
 have r:e∉(env::outer).filterMap (·.frame):=λC=>by
  obtain⟨_,o,g,F⟩:=u.mem C;rw[q]at g;injection g with g;subst g;exact F vs n
 calc j' (wpAny_frameOf_fun z u B λc p=>?_);calc j' (wpAny_entryPlaceOf λpl v=>?_);unfold EntryCells.newEntry newFields;calc j' (wpAny_newObj_type ?_ (v.sizeOk5 _ _ _ _ _));have g:c.get? e=some i:=(p.2.1 e r).trans q;have i:=J' (h:=c) {cls:=.type "traceback",dict:=none,data:=.fields ([d,.ref L,.none,rawInt L,.none]++(if pl.isEmpty then List.replicate 6 Value.none else pl)).toArray} g;have w:c.objs.size≠e:=Nat.ne_of_gt (S' g);have j:=Obj.data_mapFields n (·.setIfInBounds 1 (Value.ref c.objs.size));have k:=Heap.get?_update_self (Obj.mapFields (·.setIfInBounds 1 (Value.ref c.objs.size))) i (Obj.isFreed_of_fields j);have l:=(Heap.get?_update_other (c.push {cls:=.type "traceback",dict:=none,data:=.fields ([d,.ref L,.none,rawInt L,.none]++(if pl.isEmpty then List.replicate 6 Value.none else pl)).toArray})
  (Obj.mapFields (·.setIfInBounds 1 (Value.ref c.objs.size))) (Ne.symm w)).trans (V' c rfl)
 have g:∀b o,b≠e->c.get? b=some o->
   ((c.push {cls:=.type "traceback",dict:=none,data:=.fields ([d,.ref L,.none,rawInt L,.none]++(if pl.isEmpty then List.replicate 6 Value.none else pl)).toArray}).update e (Obj.mapFields (·.setIfInBounds 1 (Value.ref c.objs.size)))).get? b=some o:=
  λb o e d=>by
   rw[Heap.get?_update_other _ _ (Ne.symm e)];exact J' _ d
 refine wpAny_setField i n hsz (h _ c.objs.size (by rw[p.1];calc K' _) ⟨λb o d _ e m=>g b o d ((p.2.1 b e).trans m),λb o d _ m=>?_,λo e m x=>?_,λt o z _=>(nomatch z),?_⟩ ?_)
 ·obtain⟨e,i⟩:=p.2.2 b o m;exact⟨e,g b _ d i⟩
 ·rw[q] at m
  cases m;rw[n]at x
  cases x;exact⟨_,by rw[k,rX n]⟩
 ·rw[Heap.size_update,Heap.size_push,p.1];exact Nat.le_succ _
 ·calc⟨_,_,k,j,.inr ⟨c.objs.size,_,_,rfl,w,by simp[hsz],l,rfl,by first|(simp;done)|(rcases v with rfl|⟨_,_,_,_,_,_,_,rfl⟩<;>simp)⟩⟩
theorem Lg{base:Heap}{env:Env}{e:Addr}{T:Option Addr}{Q:Unit->Shared->Prop}
  (u:A.frames=some (env::outer)) (v:s.heap.FunFrames base (env::outer)) (m:env.frame=some L) (n:qI s.heap e T .none)
  (h:∀h' t,s.heap.objs.size<=t->Chg (wR (env::outer)) e T s.heap h'->qI h' e (some t) (rawInt L)->Q () {s with heap:=h'}):wpAny M A (noteFrame (.ref e) env) Q E s:=by
 obtain⟨w,vs,j,g,n⟩:=n;unfold noteFrame;simp only[m];rcases n with⟨rfl,i⟩|⟨t,C,x,rfl,p,i,k,l,w⟩
 ·calc j' (aay j g i ?_);rw[if_neg (by decide)];exact entry_at u v m j g (Array.getElem?_eq_some_iff.mp i).1 h
 ·calc j' (aay j g i ?_);rw[if_pos (show(Value.ref t !=Value.none)=true from by simp)];calc j' (aay k l w ?_);rw[if_neg (show ¬((Value.none==rawInt L)=true) from by simp[rawInt])];calc j' (wpAny_setField k l (Array.getElem?_eq_some_iff.mp w).1 ?_);have a:∀b,b≠t->(s.heap.update t (Obj.mapFields (·.setIfInBounds 3 Value.none))).get? b=s.heap.get? b:=λb d=>Heap.get?_update_other _ _ (Ne.symm d);have y:∀b o,s.heap.get? b=some o->(∀vs,o.data≠.fields vs)->b≠t:=λb o d r q=>by
   rw[q,k]at d;injection d with d;subst d;exact r x l
  have B:=Heap.get?_update_self (Obj.mapFields (·.setIfInBounds 3 Value.none)) k (Obj.isFreed_of_fields (Obj.data_mapFields l _));refine entry_at u (v.of_keeps λb o d r=>⟨o,(a b (y b o d r)).trans d,rfl⟩) m ((a e (Ne.symm p)).trans j) g (Array.getElem?_eq_some_iff.mp i).1 λh' k l c n=>h h' k ?_ ?_ n
  ·have:=l;rw[Heap.size_update]at this;exact this
  ·refine⟨λb o d j k i=>c.keep b o d (λz=>nomatch z) k ((a b (λz=>j (by rw[z]))).trans i),λb o d j i=>c.slot b o d (λz=>nomatch z) ((a b (λz=>j (by rw[z]))).trans i),λo vs i g=>c.UC o vs ((a e (Ne.symm p)).trans i) g,λb o z i=>?_,?_⟩
   ·cases z;obtain⟨a,q⟩:=c.slot t _ p (λz=>nomatch z) B;exact⟨_,q⟩
   ·have:=c.size;rw[Heap.size_update]at this;calc this
theorem DC{e t:Addr}{d:Value}{Q:Unit->Shared->Prop}(a:qI s.heap e (some t) d)
  (h:∀h',(∀b o,b≠t->s.heap.get? b=some o->h'.get? b=some o)->h'.objs.size=s.heap.objs.size->qI h' e (some t) .none->Q () {s with heap:=h'}):wpAny M A (setFlight (.ref e) none) Q E s:=by
 obtain⟨n,vs,g,i,a⟩:=a;rcases a with⟨z,_⟩|⟨d,m,p,z,j,k,l,c,q⟩
 ·cases z
 cases z;have m:3<p.size:=(Array.getElem?_eq_some_iff.mp q).1;unfold setFlight;calc j' (aay g i k ?_);rw[if_pos (show(Value.ref t !=Value.none)=true from by simp)];have a:∀b,b≠t->(s.heap.update t (Obj.mapFields (·.setIfInBounds 3 ((none:Option Addr).elim Value.none λf=>rawInt f)))).get? b=s.heap.get? b:=
  λb d=>Heap.get?_update_other _ _ (Ne.symm d)
 calc wpAny_setField l c m (h _ (λb o d p=>(a b d).trans p) (Heap.size_update ..) ?_);calc⟨n,vs,(a e (Ne.symm j)).trans g,i,.inr ⟨t,_,_,rfl,j,k,Heap.get?_update_self _ l (Obj.isFreed_of_fields (Obj.data_mapFields c _)),Obj.data_mapFields c _,by simp[m]⟩⟩
end
section
variable {X:Cx}{pins:List (Addr×Obj)}{σ:St}{H:Hp}{s:Shared}{e C:Addr}{d:Option Addr}{fl:Bool}{T:Option Addr}{h':Heap}
def xQ(X:Cx)(pins:List (Addr×Obj))(H:Hp)(t:Addr):Prop:=H t=none/\X.s₀.heap.objs.size<=t/\t≠X.env.locals/\(∀x c,X.env.cells.lookup x=some c->c≠t)/\∀p∈X.pn++pins,p.1≠t
theorem Inv.UJ(I:Inv X pins σ H s){t:Addr}(h:s.heap.objs.size<=t):xQ X pins H t:=by
 refine⟨I.aZ.fresh h,aap I.sz h,Nat.ne_of_gt (R' I.lt h),λx c a=>?_,λp b=>?_⟩
 ·obtain⟨v,o,d⟩:=I.cell x c a;exact Y' (R' (S' d.1) h)
 ·calc Y' (R' (S' (I.pin p b).1) h)
theorem Inv.chg(I:Inv X pins σ H s)(a:H e=some (XO e C d fl))(c:Chg (wR X.stack) e T s.heap h')(r:∀t,T=some t->xQ X pins H t):Inv X pins σ (upd H e (XO e C d false)) {s with heap:=h'}:=by
 obtain⟨y,n,k,_⟩:=vX I a;obtain⟨y,v⟩:=c.UC _ _ k rfl;have w:∀b u,H b=some u->T≠some b:=λb u q z=>by rw[(r b z).1]at q;cases q
 have x:∀b o,s.heap.get? b=some o->∃k,h'.get? b=some k:=λb o g=>by
  by_cases z:b=e
  ·subst z;exact⟨_,v⟩
  ·by_cases k:T=some b
   ·exact c.aag b o k g
   ·obtain⟨n,q⟩:=c.slot b o z k g;exact⟨_,q⟩
 have j:∀b,H b=none->b≠e:=λb q z=>by rw[z,a]at q;cases q
 refine I.call (g':=s.gens) (t':=s.toks) (d':=s.drawn) (ch:=T.toList) ⟨λb o g n y k=>c.keep b o (j b n) (λz=>k (by simp[z])) y g,λb o g n _ k=>c.slot b o (j b n) (λz=>k (by simp[z])) g,λb o _ n _=>by rw[az (j b n)];calc n,λb o g _=>x b o g,λb A q=>?_,λb o u q=>?_,λb j q=>?_⟩ (λb u q=>?_) I.bare (λb l=>?_)
 ·rw[az (λz=>by rw[z,a]at q;cases q)];exact q
 ·rw[az (λz=>by rw[z,a]at q;cases q)];exact q
 ·rw[az (λz=>by rw[z,a]at q;cases q)];exact⟨#[],by simp[q]⟩
 ·by_cases z:b=e
  ·subst z;rw[af] at q
   cases q;exact M3 v (λz=>nomatch z)
  ·rw[az z] at q;refine(I.aZ b u q).aL (λi B f g=>?_) (λi h=>?_) (λi A h=>?_)
   ·have m:i≠e/\T≠some i/\i∉wR X.stack:=by
     rcases f with rfl|f
     ·exact⟨z,w _ _ q,λp=>by rw[I.qV _ p]at q;cases q⟩
     ·exact⟨(λz=>by rw[z,a]at f;cases f),w _ _ f,(λp=>by rw[I.qV _ p]at f;cases f)⟩
    exact c.keep i B m.1 m.2.1 m.2.2 g
   ·rw[az (λz=>by rw[z,a]at h;cases h)];exact h
   ·rw[az (λz=>by rw[z,a]at h;cases h)];exact h
 ·have e:T=some b:=by
   cases T with
   |none=>simp at l
   |some t=>simp at l;rw[l]
  obtain⟨h,a,c,f,g⟩:=r b e;calc⟨.inr a,c,f,g⟩
theorem Inv.aai(I:Inv X pins σ H s){t:Addr}(o:xQ X pins H t)(k:∀b o,b≠t->s.heap.get? b=some o->h'.get? b=some o):Inv X pins σ H {s with heap:=h'}:=
 I.turned (t':=s.toks) k o.1 o.2.2.1 (.inr o.2.1) o.2.2.2.1 o.2.2.2.2
end
def wX(P:Program)(w:World):FI:=λouter H s E e s'=>∃a C d b t,e=.ref a/\s'.os=s.os/\AllBare s'.gens/\Un (wR outer) [] H b s.heap s'.heap/\lY P w b s'.heap/\b a=some (XO a C d false)/\
 qI s'.heap a (some t) .none/\b t=none/\s.heap.objs.size<=t/\E e none b
section
variable {X:Cx}{pins:List (Addr×Obj)}{σ:St}{H:Hp}{s:Shared}{a C:Addr}{d:Option Addr}{fl:Bool}{T:Option Addr}{h':Heap}{E:XK}{E1:Value->Shared->Prop}
theorem xR{Q:Unit->Shared->Prop}(b:X.stack=X.env::outer)(i:X.env.frame=some L)(I:Inv X pins σ H s)(f:H a=some (XO a C d fl))(j:qI s.heap a T .none)(k:∀t,T=some t->xQ X pins H t)
  (h:∀h' t,Inv X pins σ (upd H a (XO a C d false)) {s with heap:=h'}->qI h' a (some t) (rawInt L)->xQ X pins (upd H a (XO a C d false)) t->s.heap.objs.size<=t->Q () {s with heap:=h'}):wpAny (model X.prog X.w) X.A (noteFrame (.ref a) X.env) Q E1 s:=by
 have e:X.A.frames=some (X.env::outer):=by rw[<-b];exact I.ok.frames
 have l:s.heap.FunFrames X.base (X.env::outer):=by rw[<-b];exact I.stack
 calc Lg e l i j λh' t g c m=>?_;rw[<-b]at c;have e:=I.chg f c k;have o:=I.UJ g;calc h h' t e m ⟨?_,o.2⟩ g;rw[az (λz=>by have:=o.1;rw[z,f]at this;cases this)];calc o.1
theorem rY{t:Addr}{b:Value}{Q:Unit->Shared->Prop}{A:Around}(I:Inv X pins σ H s)(c:qI s.heap a (some t) b)(o:xQ X pins H t)
  (h:∀h',Inv X pins σ H {s with heap:=h'}->qI h' a (some t) .none->Q () {s with heap:=h'}):wpAny (model X.prog X.w) A (setFlight (.ref a) none) Q E1 s:=
 DC c λh' k _ b=>h h' (I.aai o k) b
theorem xS(b:X.stack=X.env::outer)(g:X.outer=outer)(e:X.ex=[])(c:X.env.frame=some L)(I:Inv X pins σ H s)(f:H a=some (XO a C d fl))(h:qI s.heap a T .none)(i:∀t,T=some t->xQ X pins H t)
  (j:E (.ref a) none (upd H a (XO a C d false))):wpAny (model X.prog X.w) X.A (leaving X.env (.ref a)) (λ_ k=>wX X.prog X.w outer X.H₀ X.s₀ E (.ref a) k) E1 s:=by
 unfold leaving;calc j' (xR b c I f h i λk t l m o n=>?_);calc rY (s:={s with heap:=k}) l m o λb c f=>?_;have b:=c.base;rw[e,Cx.fs,g]at b;calc⟨a,C,d,_,t,rfl,c.os,c.bare,b,c.aZ,af,f,o.1,aap I.sz n,j⟩
end
def Throws(X:Cx)(E:XK):Prop:=∀(pins:List (Addr×Obj)) (σ:St) (H:Hp) (s:Shared) (a C:Addr) (d:Option Addr),Inv X pins σ H s->H a=some (XO a C d true)->E (.ref a) none (upd H a (XO a C d false))->X.xe (.ref a) s
theorem Hc{H:Hp}{a:Addr}{o:HO}(h:H a=some o):upd H a o=H:=by
 funext b;by_cases z:b=a
 ·subst z;rw[af];exact h.symm
 ·calc az z
section
variable {P:Program}{w:World}{K:W.Frag}{mg:Str->Option Value}{base:Heap}{N:List Str}{qual:Str}{scope:Scope}{f:Addr}{cd:Value}{A:Around}{outer:List Env}{s:Shared}{H:Hp}{E:XK}
theorem BR:Throws (jK (wX P w) P w K mg base N qual scope f cd A outer s H E) E:=by
 intro b σ j k a C d I c e;obtain⟨g,l,h,i⟩:=vX I c;calc xS (X:=jK (wX P w) P w K mg base N qual scope f cd A outer s H E) (T:=none) rfl rfl rfl rfl I c ⟨_,g,h,rfl,.inl ⟨rfl,i rfl⟩⟩ (λt z=>nomatch z) e
theorem Inv.thrown{X:Cx}{pins:List (Addr×Obj)}{σ:St}{H:Hp}{s s':Shared}{e:Value}(I:Inv X pins σ H s)(h:wX X.prog X.w X.stack H s E e s'):
  ∃a C d c t,e=.ref a/\Inv X pins σ c s'/\c a=some (XO a C d false)/\qI s'.heap a (some t) .none/\xQ X pins c t/\E e none c:=by
 obtain⟨a,C,d,c,t,rfl,f,e,g,i,j,k,l,m,q⟩:=h;have n:Inv X pins σ c s':=I.MH (ch:=[]) f g i e λb z=>absurd z (by simp);calc⟨a,C,d,c,t,rfl,n,j,k,⟨l,(I.UJ m).2⟩,q⟩
theorem lQ:Passes (wX P w) (jK (wX P w) P w K mg base N qual scope f cd A outer s H E) E:=by
 intro b σ j k e l I h;obtain⟨a,C,d,m,t,rfl,g,c,i,o,q⟩:=I.thrown h;calc xS (X:=jK (wX P w) P w K mg base N qual scope f cd A outer s H E) (T:=some t) rfl rfl rfl rfl g c i (λa z=>by cases z;calc o) (by rw[Hc c];calc q)
end
end
section
section
variable {M:Model}{A:Around}{E:Value->Shared->Prop}{env:Env}{K:W.Frag}
theorem DE{s:Shared}{x:Sem Value}{Q:Flow->Shared->Prop}(f:A.handled=none)
  (h:wpAny M A x (λv a=>∃e C B d vs c,v=.ref e/\K.In a.heap/\iX K C B/\a.heap.get? e=some (⟨.ref C,d,.fields vs,c⟩:Obj)/\vs[1]?=some .none/\E (.ref e) a) E s):
  wpAny M A (raiseStmt env (some x) none) Q E s:=by
 unfold raiseStmt;calc j' (aas h (λv a b=>?_) λ_ _ x=>x);obtain⟨e,C,B,d,vs,c,rfl,g,h,i,j,k⟩:=b;obtain⟨l,q,N,m,n,c,o,d,p,r,s,t,u,v,e⟩:=h.ob;have b:=g _ _ e;have c:(Value.ref C::.ref B::rN).contains (.type "BaseException")=true:=rfl;obtain⟨d,g,e,h,l⟩:=a
 repeat (first|with_reducible calc aaC i ?_|with_reducible calc aaC b ?_|(with_reducible calc wpAny_isSubtype_exc b ?_;rw[c])|wp_step)
 rw[j];calc P' ?_;rw[if_neg (by decide)];calc P' ?_;calc wpAny_raiseNew_none f k
end
def Hd(K:W.Frag)(E:XK)(a:TE):TS:=λ_ σ H=>a σ H λx b=>∃a C B d,x=.ref a/\b a=some (XO a C d true)/\iX K C B/\E (.ref a) none (upd b a (XO a C d false))
section
variable {X:Cx}{E:XK}{e:Expr}{te:TE}{pos:Pos}
theorem xT(f:X.calm=true)(g:Throws X E)(i:PE X e te):PS X (.Raise (some e) none pos) (Hd X.K E te):=by
 walk_at "xd";rw[arm_exec_Raise];refine j' (wpAny_standAt ?_);show wpAny _ _ (raiseStmt X.env (some (do let v <-eval e X.env;standAt pos;pure v)) none) _ _ _;refine DE (K:=X.K) (I.ok.hd f) (j' (cX (i pins s σ H _ I h) λv j ⟨x,k,b,l,a,C,B,d,m,c,n,q⟩=>j' (wpAny_standAt (P' ?_))));subst m;obtain rfl:v=Value.ref a:=l;obtain⟨f,i,m,o⟩:=vX b c;exact⟨a,C,B,d,f,i,rfl,b.ic,n,m,o rfl,g pins σ k j a C d b c q⟩
end
section
variable {P:Program}{w:World}{K:W.Frag}{mg:Str->Option Value}{base:Heap}
theorem EJ.Li{x a:Str}{b:Stmt}{f:Addr}{g:FuncData}{N d:List Str}{k:Nat}{sp:Sp}(F:EJ K x a b f g)(S:aE N d (ay b))(e:∀vs H Q E,sp vs H Q E->vs.length=d.length)
  (h:∀(c:Value) (A:Around) (outer:List Env) (s:Shared) (H:Hp) (vs:List V) (Q:VK) (E:XK),d9 k (A.deeper (envOfC a (ay b) s.heap.objs.size f c))->sp vs H Q E->
   ∃t,qW (jK (wX P w) P w K mg base N a (ay b) f c A outer s H E) (cG b) t/\t {nx:=λ_ a=>Q .bM a,rt:=Q} (start N vs) H):jJ P w K mg base (wX P w) (k + 1) f g d sp:=by
 obtain⟨j,l,kV,i,m,n,c,o,p,rfl,a,b⟩:=F.ex;calc MM a b S e λA outer s H vs Q E d f=>h c A outer s H vs Q E d f
structure dR(P:Program)(w:World)(K:W.Frag)(mg:Str->Option Value)(base:Heap)(C:Addr)(m:Str)(k:Nat)(ps:List Str)(sp:Sp):Prop where
 ex:∃f fd,Meth K C m f/\jJ P w K mg base (wX P w) k f fd ps sp/\Binds K fd ps []
end
section
variable {X:Cx}{o e:Expr}{es:List Expr}{to:TE}{t:TA}{apos p pos:Pos}{C:Addr}{m x:Str}{k j:Nat}{ps:List Str}{sp:Sp}{E:XK}
end
structure PEX(X:Cx)(e:Expr)(t:XK->TE):Prop where
 out:∀(pins:List (Addr×Obj)) (s:Shared) (σ:St) (H:Hp) (Q:VK) (E:XK) (xe:Value->Shared->Prop),(∀H1 s1 x s',Inv X pins σ H1 s1->wX X.prog X.w X.stack H1 s1 E x s'->xe x s')->Inv X pins σ H s->t E σ H Q->
  wpAny (model X.prog X.w) X.A (eval e X.env) (EP X pins σ Q) xe s
section
variable {X:Cx}{k j:Nat}{f C:Addr}{fd:FuncData}{ps:List Str}{sp:Sp}{E:XK}{x m:Str}{p pos apos:Pos}{e o:Expr}{es:List Expr}{ta:TE}{t:TA}
theorem PA.any{xe:Value->Shared->Prop}(a:PA X.vC es t){pins:List (Addr×Obj)}{s:Shared}{σ:St}{H:Hp}{Q:List V->Hp->Prop}(I:Inv X pins σ H s)(h:t σ H Q)(pos:Pos):
  wpAny (model X.prog X.w) X.A (spliced (backTo pos (starEach es X.env))) (AP X pins σ Q) xe s:=
 aas (a.out pos pins s σ H Q (I.mj _) h) (λ_ _ ⟨b,c,d,r,q⟩=>⟨b,c,d.fV,r,q⟩) λ_ _ z=>aak z
theorem Lj{pins:List (Addr×Obj)}{σ:St}{H:Hp}{s:Shared}{Q:VK}{us:List Value}{vs:List V}{xe:Value->Shared->Prop}(F:jJ X.prog X.w X.K X.mg X.base (wX X.prog X.w) k f fd ps sp)(d:d9 k X.A)(g:Binds X.K fd ps [])
  (i:∀b c x s',Inv X pins σ b c->wX X.prog X.w X.stack b c E x s'->xe x s') (I:Inv X pins σ H s) (r:Vals vs us) (h:sp vs H Q E):wpAny (model X.prog X.w) X.A (call (.ref f) us) (EP X pins σ Q) xe s:=by
 have b:(us++[]).length=ps.length:=by rw[List.append_nil,<-r.length];exact F.len _ _ _ _ h
 have c:Vals vs (us++[]):=by rw[List.append_nil];exact r
 refine wpAny_call (codeAny_mono (F.run X.A X.stack s H ⟨us,[]⟩ (us++[]) vs Q E d I.KC (g s us I.ic b) c h) λr s' a=>?_)
 cases r with
 |error e=>calc i H s e s' I a
 |ok j=>
  cases j with
  |ret u=>calc I.after a
  |next=>calc aak a
  |brk=>calc aak a
  |cont=>calc aak a
end
structure Yj(X:Cx)(st:Stmt)(t:XK->TS):Prop where
 out:∀(pins:List (Addr×Obj)) (s:Shared) (σ:St) (H:Hp) (D:Ends) (E:XK) (xe:Value->Shared->Prop),(∀H1 s1 x s',Inv X pins σ H1 s1->wX X.prog X.w X.stack H1 s1 E x s'->xe x s')->Inv X pins σ H s->t E D σ H->
  wpAny (model X.prog X.w) X.A (exec st X.env) (SP X pins D) xe s
section
variable {X:Cx}{e:Expr}{t:XK->TE}{pos pos':Pos}{x:Str}{i:Nat}
theorem kI(b:PEX X e t)(c:swapsWith e none pos.line X.env=pure false:=by rfl):Yj X (.Expr e pos) (λE=>xj (t E)):=
 ⟨λa s σ H D E d f I h=>wpAny_Expr_any (cX (b.out a s σ H _ E d f I h) λv k ⟨x,g,i,l,j⟩=>⟨σ,g,i,j⟩) I.quiet c⟩
end
end
section
structure XBase(K:W.Frag)(B:Addr):Prop where
 ob:∃nm q N bs sn sub ab col dd k0 k1 k2 k3 k5,K.lookup B=some (excClassObj nm q B N bs rN true sn sub ab col dd k0 k1 k2 k3 k5 "ValueError.__new__")
section
variable {M:Model}{A:Around}{E:Value->Shared->Prop}{K:W.Frag}
theorem aaj{s:Shared}{e C B:Addr}{d:Option Addr}{vs:Array Value}{b:Array (Option Value)}{Q:Bool->Shared->Prop}(a:K.In s.heap)(c:iX K C B)(f:XBase K B)(i:s.heap.get? e=some (⟨.ref C,d,.fields vs,b⟩:Obj))
  (d:Q true s):wpAny M A (excMatches (.ref e) (.ref B)) Q E s:=by
 obtain⟨h,q,N,j,k,b,l,e,m,n,o,p,r,t,g⟩:=c.ob;have b:=a _ _ g;obtain⟨c,t,u,e,h,j,k,l,v,m,n,o,p,q,r⟩:=f.ob;have c:=a _ _ r;obtain⟨h,g,e,t,f⟩:=s;have a:(Value.ref B::rN).contains (.type "BaseException")=true:=rfl;have e:(Value.ref C::.ref B::rN).contains (.ref B)=true:=by simp
 have f:=tc_notTuple;unfold excMatches
 repeat (first|with_reducible calc aaC i ?_|with_reducible calc aaC b ?_|with_reducible calc aaC c ?_|(with_reducible calc wpAny_isSubtype_exc b ?_;rw[e])|(with_reducible calc wpAny_isSubtype_exc c ?_;rw[a])|wp_step)
 calc d
end
abbrev Cx.mw(X:Cx)(a:Addr):Cx:={X with A:=X.A.mark (some (.ref a)),calm:=false,xe:=λ_ _=>False}
section
variable {X:Cx}{pins:List (Addr×Obj)}{σ:St}{H:Hp}{s:Shared}{a:Addr}
theorem Cx.Ok.mw(b:X.Ok)(a:Addr):(X.mw a).Ok:=
 ⟨b.mod,b.kind,b.glob,b.blt,b.above,b.inj,b.has,b.MA,(λz=>nomatch z),b.frames,b.OC,b.RP,b.bs,b.zu,b.vv,b.xh,b.lT,b.Fd⟩
theorem Inv.mw(I:Inv X pins σ H s)(a:Addr):Inv (X.mw a) pins σ H s:=⟨I.ok.mw a,I.os,I.bare,I.base,I.loc,I.cell,I.free,I.iq,I.pin,I.aZ,I.len⟩
theorem Inv.v7(b:X.Ok)(I:Inv (X.mw a) pins σ H s):Inv X pins σ H s:=⟨b,I.os,I.bare,I.base,I.loc,I.cell,I.free,I.iq,I.pin,I.aZ,I.len⟩
theorem qY{M:Model}{A:Around}{E:Value->Shared->Prop}{i:Nat}{n:Str}{pos:Pos}{Q:Unit->Shared->Prop}(I:Inv X pins σ H s)(C:X.N.Nodup)(r:X.N[i]?=some n)(o:X.env.scope.names.lookup n=some .local)
  (h:∀s',Inv X pins (σ.set i none) H s'->Q () s'):wpAny M A (do bindName X.env n .none;unbindBehindTheSuite X.env n pos) Q E s:=by
 calc j' (wpAny_bindName (jG I C r (.inl o) (v:=.bM) (u:=.none) rfl (λm a=>?_) (.inr o)));have z:i<σ.length:=by rw[I.len];exact(List.getElem?_eq_some_iff.mp r).1
 obtain⟨m,F,G⟩:=id a.loc;have J:X.env.kindOf n=some .local:=o;have B:(X.env.scope.kind == .class||(X.env.scope.kind == .module&&X.env.locals !=X.env.globals))=false:=by rw[I.ok.kind];rfl
 have d:∃u,m n=some u:=by
  obtain⟨u,_,q⟩:=G i n .bM r (List.getElem?_set_self z) (.inl o);rcases q with⟨_,e⟩|⟨k,_⟩
  ·exact⟨u,e⟩
  ·rcases k with k|k<;>(rw[J]at k;cases k)
 obtain⟨m,d⟩:=d;have K:=a.Fe;obtain⟨o,_,_,m,_⟩:=id F;unfold unbindBehindTheSuite;calc wpAny_onRaise ?_;unfold unbindName;calc j' (wpAny_point (j' ?_));unfold deleteName;simp only[J,B];rw[if_neg (by decide)];calc j' (wpAny_nsDel_keeps F λm v L g=>?_);rw[d];simp only[if_true,Option.isSome_some,Bool.not_true,Bool.false_eq_true,if_false];refine P' (wpAny_point (h _ ⟨a.ok,a.os,a.bare,⟨λb o e n u m=>?_,λb o e n u m=>?_,a.base.free,λb o e m=>?_,a.base.aV,a.base.oQ,a.base.qB⟩,⟨_,L,λj y O l t P=>?_⟩,λy c e=>?_,a.free,a.iq,λp B=>?_,λb R e=>?_,by simpa using I.len⟩))
 ·exact(g.2 b (Y' (R' (S' e) I.ok.above))).trans (a.base.keep b o e n u m)
 ·obtain⟨d,l⟩:=a.base.slot b o e n u m;exact⟨d,(g.2 b (Y' (R' (S' e) I.ok.above))).trans l⟩
 ·obtain⟨d,l⟩:=a.base.there b o e m;exact⟨d,(g.2 b (Y' (R' (S' e) I.ok.above))).trans l⟩
 ·by_cases w:j=i
  ·subst w;rw[List.getElem?_set_self z] at t
   cases t
  ·rw[List.getElem?_set_ne (Ne.symm w)] at t;obtain⟨S,T,q⟩:=G j y O l (by rw[List.getElem?_set_ne (Ne.symm w)];calc t) P;calc⟨S,T,?_⟩;rcases q with⟨k,e⟩ | ⟨k,c,e,z⟩
   ·calc .inl ⟨k,?_⟩;have:y≠n:=λe=>w (rE C l (e▸r));simp[this,e]
   ·exact .inr ⟨k,c,e,z.sameBut g (K y c e)⟩
 ·obtain⟨i,z⟩:=a.cell y c e;exact⟨i,z.sameBut g (K y c e)⟩
 ·obtain⟨e,n,j,k,d⟩:=a.pin p B;exact⟨(g.2 p.1 j).trans e,n,j,k,d⟩
 ·calc(a.aZ b R e).aL (λc i x q=>(g.2 c ?_).trans q) (λ_ q=>q) λ_ _ q=>q;rintro rfl;rcases x with rfl | x
  ·rw[a.free]at e;cases e
  ·rw[a.free]at x;cases x
end
end
section
variable {A:Around}{qual:Str}{mg:Str->Option Value}
structure jQ(k:Nat)(A:Around):Prop where
 dp:A.depth+3*k+5<recursionLimit
 un:A.units+16*k+200<cLine
theorem jQ.mono{j k:Nat}(r:jQ k A)(h:j<=k):jQ j A:=⟨by have:=r.dp;lia,by have:=r.un;lia⟩
theorem jQ.deeper{k:Nat}(r:jQ (k+1) A)(env:Env):jQ k (A.deeper env):=
 ⟨by have:=r.dp;show A.depth+1+3*k+5<_;lia,by have:=r.un;show A.units+3+16*k+200<_;lia⟩
theorem jQ.units{k:Nat}(r:jQ k A):A.units+64<cLine:=by have:=r.un;lia
theorem d9.mw{k:Nat}(r:d9 k A)(a:Addr):jQ k (A.mark (some (.ref a))):=⟨r.dp,r.un⟩
structure M9(P:Program)(w:World)(K:W.Frag)(mg:Str->Option Value)(base:Heap)(k:Nat)(f:Addr)(fd:FuncData)(ps:List Str)(sp:Sp):Prop where
 len:∀vs H Q E,sp vs H Q E->vs.length=ps.length
 run:∀(A:Around) (outer:List Env) (s:Shared) (H:Hp) (args:Args) (us:List Value) (vs:List V) (Q:VK) (E:XK),jQ k A->vE P w K mg base A outer s H->BindsTo s fd args (ps.zip us)->Vals vs us->sp vs H Q E->
  codeAny (model P w) A (.call (.ref f) args) (CR wW outer P w H s Q E) s
abbrev xU(P:Program)(w:World)(K:W.Frag)(mg:Str->Option Value)(base:Heap)(N:List Str)(qual:Str)(scope:Scope)(f:Addr)(a:Value)(A:Around)(outer:List Env)(s:Shared)(H:Hp):Cx:=
 {jK wW P w K mg base N qual scope f a A outer s H E0 with calm:=false,xe:=λ_ _=>False}
theorem Af{P:Program}{w:World}{K:W.Frag}{base:Heap}{N b:List Str}{scope:Scope}{f:Addr}{c:Value}{outer:List Env}{s d:Shared}{H:Hp}{us:List Value}{vs:List V}
  (S:aE N b scope) (a:vE P w K mg base A outer s H) (e:vs.length=b.length) (r:Vals vs us)
  (x:InCallC s s.heap.objs.size (bindL (envOfC qual scope s.heap.objs.size f c).kindOf (b.zip us) λ_=>none) (cellsFrom (s.heap.objs.size+1) scope.names []) (bindC (envOfC qual scope s.heap.objs.size f c).kindOf (b.zip us) λ_=>none) d):
  Inv (xU P w K mg base N qual scope f c A outer s H) [] (start N vs) H d:=by
 have I:Inv (jK wW P w K mg base N qual scope f c {A with handled:=none} outer s H E0) [] (start N vs) H d:=uw S rfl ⟨a.frames,a.mod,a.bs,a.zu,a.lT,a.Fd,a.aZ,a.bare⟩ e r x;have ok:=I.ok;calc⟨⟨ok.mod,ok.kind,ok.glob,ok.blt,ok.above,ok.inj,ok.has,ok.MA,(λz=>nomatch z),Around.frames_deeper a.frames,ok.OC,ok.RP,ok.bs,ok.zu,ok.vv,ok.xh,ok.lT,ok.Fd⟩,I.os,I.bare,I.base,I.loc,I.cell,I.free,I.iq,I.pin,I.aZ,I.len⟩
theorem Qb{P:Program}{w:World}{K:W.Frag}{base:Heap}{k:Nat}{f:Addr}{name:Str}{a:Arguments}{b:List Stmt}{scope:Scope}{o kV i y g ct j:Value}{C od:Option Addr}
  {I:Array (Option Value)} {N p:List Str} {sp:Sp} (M:K.lookup f=some ⟨j,od,.func (W.fnOf name qual a b scope o kV i y C g ct),I⟩) (O:W.codeIn K g qual=true) (S:aE N p scope)
  (j:∀vs H Q E,sp vs H Q E->vs.length=p.length)
  (R:∀(A:Around) (outer:List Env) (s:Shared) (H:Hp) (vs:List V) (Q:VK) (E:XK),jQ k (A.deeper (envOfC qual scope s.heap.objs.size f g))->sp vs H Q E->
   ∃t,qW (xU P w K mg base N qual scope f g A outer s H) b t/\t {nx:=λ_ d=>Q .bM d,rt:=Q} (start N vs) H):
  M9 P w K mg base (k+1) f (W.fnOf name qual a b scope o kV i y C g ct) p sp:=by
 calc⟨j,λA outer s H a i vs Q E D l T r F=>?_⟩;have U:=j _ _ _ _ F;have G:K.In s.heap:=l.mod.xg.keeps λb o e=>(l.bs b o e).1;have z:s.heap.NoLimit:=l.mod.nolimit.keeps λb o e=>(l.bs b o e).1;have X:∀y∈p.zip i,scope.names.lookup y.1=some .local\/(scope.names.lookup y.1=some .cell/\((cellsFrom (s.heap.objs.size+1) scope.names []).lookup y.1).isSome=true):=λ⟨n,v⟩ Y=>by
  rcases S.par n (List.of_mem_zip Y).1 with q|q
  ·exact .inl q
  ·exact .inr ⟨q,W.cellsFrom_some _ _ _ (.inl q)⟩
 calc codeAny_call_function (by have:=D.dp;lia) (G _ _ M) rfl S.co S.gen rfl (W.codeRec_of G O) (T _ _ _ _ ?_);calc wpAny_newFunctionEnv_cells S.kind X λa Z L x=>?_;subst Z;calc⟨z.keeps x.toInCall.keep,codeAny_func ?_⟩;obtain⟨t,b,i⟩:=R A outer s H vs Q E (D.deeper _) F;have I:Inv (xU P w K mg base N qual scope f g A outer s H) [] (start N vs) H L:=Af S l U r x;calc aas (b [] L (start N vs) H _ I i) (λfl a h=>?_) λe a h=>aak h;have m:∀{c:St} {d:Hp} {v:V} {u:Value},Inv (xU P w K mg base N qual scope f g A outer s H) [] c d a->RelV v u->Q v d->CE outer P w H s Q u a:=
  λ{c d v u} J B q=>⟨v,d,J.os,J.bare,J.base,J.aZ,B,q⟩
 cases fl with
 |ret u=>
  obtain⟨v,c,d,J,B,q⟩:=h;calc m J B q
 |next=>
  obtain⟨c,d,J,q⟩:=h;calc m (v:=V.bM) (u:=Value.none) J rfl q
 |brk=>
  obtain⟨_,_,_,q⟩:=h;calc aak q
 |cont=>
  obtain⟨_,_,_,q⟩:=h;calc aak q
section
variable {P:Program}{w:World}{K:W.Frag}{mg:Str->Option Value}{base:Heap}
structure Lk(P:Program)(w:World)(K:W.Frag)(mg:Str->Option Value)(base:Heap)(x:Str)(k:Nat)(ps:List Str)(sp:Sp):Prop where
 ex:∃f fd,M9 P w K mg base k f fd ps sp/\mg x=some (.ref f)/\W.keepIn K (.ref f)=true/\Binds K fd ps []
theorem dq.okN{x:Str}{a:Stmt}{N b:List Str}{k:Nat}{sp:Sp}(T:dq K mg x qual a b)(S:aE N b (ay a))(d:∀vs H Q E,sp vs H Q E->vs.length=b.length)
  (e:∀(f:Addr) (c:Value) (A:Around) (outer:List Env) (s:Shared) (H:Hp) (vs:List V) (Q:VK) (E:XK),jQ k (A.deeper (envOfC qual (ay a) s.heap.objs.size f c))->sp vs H Q E->
   ∃t,qW (xU P w K mg base N qual (ay a) f c A outer s H) (cG a) t/\t {nx:=λ_ a=>Q .bM a,rt:=Q} (start N vs) H):Lk P w K mg base x (k + 1) b sp:=by
 obtain⟨f,a,F,g,h⟩:=T.ex;have i:=F.kp;obtain⟨l,m,kV,j,n,o,c,p,q,rfl,a,b⟩:=F.ex;calc⟨f,_,Qb a b S d λA outer s H vs Q E j k=>e f c A outer s H vs Q E j k,g,i,h⟩
end
section
variable {X:Cx}{e:Expr}{es:List Expr}{t:TA}{p pos:Pos}{x:Str}{k j:Nat}{ps:List Str}{sp:Sp}
theorem Qc(D:Lk X.prog X.w X.K X.mg X.base x k ps sp)(g:jQ j X.A)(i:PA X (e::es) t)(a:Gl X x:=by rfl)(l:k<=j:=by decide)
  (d:(x==("__debug__":Str))=false:=by decide) (m:dF e=true:=by rfl) (n:es.all dF=true:=by rfl):PE X (.Call (.Name x p) (e::es) [] pos) (uo sp [] E0 t):=by
 obtain⟨f,q,F,o,u,v⟩:=D.ex;walk_at "xc";refine wpAny_Call_Name_kw (j0 I a o ?_ d);refine W.callWith_K (h₀:=X.base) I.ok.mod.xg u (cX (i pos pins s σ H _ I h) λa d ⟨f,o,c,r,q⟩=>⟨c.ic,?_⟩) (dP m) (ft n);simp only[List.append_nil]at q;have i:(a++[]).length=ps.length:=by rw[List.append_nil,<-r.length];exact F.len _ _ _ _ q
 have m:Vals f (a++[]):=by rw[List.append_nil];exact r
 refine wpAny_call (codeAny_mono (F.run X.A X.stack d o ⟨a,[]⟩ (a++[]) f Q E0 (g.mono l) c.KC (v d a c.ic i) m q) λr n b=>?_)
 cases r with
 |error e=>calc aak b
 |ok y=>
  cases y with
  |ret u=>calc c.after b
  |next=>calc aak b
  |brk=>calc aak b
  |cont=>calc aak b
end
end
end L2
set_option maxHeartbeats 4000000
namespace DD
open PySem L2
variable {H:Hp}{x:V}
inductive Kd(H:Hp):V->Value->Prop
 |bM:Kd H .bM (.type "NoneType")
 |bl (b:Bool):Kd H (.bl b) (.type "bool")
 |int (i:Int):Kd H (.int i) (.type "int")
 |str (x:Str):Kd H (.str x) (.type "str")
 |lst {a xs}:H a=some (.lst xs)->Kd H (.ref a) (.type "list")
 |tup {a xs}:H a=some (.tup xs)->Kd H (.ref a) (.type "tuple")
 |dK {a bg}:H a=some (.dK bg)->Kd H (.ref a) (.type "dict")
theorem Kd.ty{K:W.Frag}{H:Hp}{x:V}{t:Value}(h:Kd H x t):gv K H x t:=by
 cases h with
 |bM=>calc .bM
 |bl b=>calc .bl b
 |int i=>calc .int i
 |str x=>calc .str x
 |lst e=>calc .lst e
 |tup e=>calc .tup e
 |dK e=>calc .dK e
def isI:V->Bool
 | .int _=>true
 |_=>false
theorem Qd{K:W.Frag}{H:Hp}{x:V}{t:Value}(h:Kd H x t):∃b c,W.kitOne K t (.type "int")=some b/\W.kitOne K t (.type "bool")=some c/\isI x=(b && !c):=by
 cases h with
 |bM=>calc⟨false,false,rfl,rfl,rfl⟩
 |bl b=>calc⟨true,true,rfl,rfl,rfl⟩
 |int i=>calc⟨true,false,rfl,rfl,rfl⟩
 |str x=>calc⟨false,false,rfl,rfl,rfl⟩
 |lst e=>calc⟨false,false,rfl,rfl,rfl⟩
 |tup e=>calc⟨false,false,rfl,rfl,rfl⟩
 |dK e=>calc⟨false,false,rfl,rfl,rfl⟩
def inR(a b:Int):V->Bool
 | .int i=>decide (a<=i)&&decide (i<b)
 |_=>false
theorem UK{H:Hp}{n:Nat}{x:V}{d:DV}(h:HD H n x d):∃t,Kd H x t:=by
 cases h with
 |bM=>calc⟨_,.bM⟩
 |bl b=>calc⟨_,.bl b⟩
 |int i=>calc⟨_,.int i⟩
 |str x=>calc⟨_,.str x⟩
 |tup e=>calc⟨_,.tup e⟩
 |lst e=>calc⟨_,.lst e⟩
 |dict e=>calc⟨_,.dK e⟩
def Qe:DV->Bool
 | .int _=>true
 |_=>false
def UL(a b:Int):DV->Bool
 | .int i=>decide (a<=i)&&decide (i<b)
 |_=>false
theorem Qf{n:Nat}{d:DV}(h:HD H n x d):isI x=Qe d:=by cases h<;>rfl
theorem Qg{n:Nat}{d:DV}(h:HD H n x d)(a b:Int):inR a b x=UL a b d:=by cases h<;>rfl
def rZ:List V:=[.str "letter",.str "way",.str "first"]
def Ll(w:Str)(m:Int):List DV->Bool
 | [z]=>if w="is" then Qe z else(decide (w="number")&&UL 0 m z)
 |_=>false
def DG(m:Int):DV->Bool
 | .tup (.str w::r)=>if Bv (.str w) rZ=true then decide (r.length=0) else Ll w m r
 |_=>false
inductive Val where
 |is (c:Int)|number (i:Int)|mx|way|first
def Val.dv:Val->DV
 | .is c=>.tup [.str "is",.int c]
 | .number i=>.tup [.str "number",.int i]
 | .mx=>.tup [.str "letter"]
 | .way=>.tup [.str "way"]
 | .first=>.tup [.str "first"]
def Val.ok(m:Int):Val->Prop
 | .number i=>0<=i/\i<m
 |_=>True
theorem Qh{m:Int}{v:Val}(h:v.ok m):DG m v.dv=true:=by
 cases v with
 |is c=>calc rfl
 |number i=>
  obtain⟨a,b⟩:=h;show(if Bv (.str "number") rZ=true then decide (([DV.int i]:List DV).length=0) else if ("number":Str)="is" then Qe (.int i) else(decide (("number":Str)="number")&&(decide (0<=i)&&decide (i<m))))=true;rw[if_neg (by decide +kernel),if_neg (by decide +kernel)];simp[a,b]
 |mx=>calc rfl
 |way=>calc rfl
 |first=>calc rfl
def r6(b a:List Int)(way said:Int):Val->Int
 | .is c=>c
 | .number i=>b.getD i.toNat 0
 | .mx=>said
 | .way=>way
 | .first=>a.headD 0
abbrev wY(b a:List Int):DV:=.tup [.tup (b.map .int),.tup (a.map .int)]
theorem ln1{l:List V}(h:l.length=1):∃a,l=[a]:=List.length_eq_one_iff.mp h
theorem ln2{l:List V}(h:l.length=2):∃a b,l=[a,b]:=by
 cases l with
 |nil=>cases h
 |cons a r=>
  obtain⟨b,rfl⟩:=ln1 (Nat.succ.inj h);calc⟨a,b,rfl⟩
theorem ln3{l:List V}(h:l.length=3):∃a b c,l=[a,b,c]:=by
 cases l with
 |nil=>cases h
 |cons a r=>
  obtain⟨b,c,rfl⟩:=ln2 (Nat.succ.inj h);calc⟨a,b,c,rfl⟩
theorem ln4{l:List V}(h:l.length=4):∃a b c d,l=[a,b,c,d]:=by
 cases l with
 |nil=>cases h
 |cons a r=>
  obtain⟨b,c,d,rfl⟩:=ln3 (Nat.succ.inj h);calc⟨a,b,c,d,rfl⟩
theorem gw{H:Hp}{n:Nat}{x:V}{d:DV}(h:HT H n x (.tup [d])):∃a u k,x=.ref a/\H a=some (.tup [u])/\HT H k u d:=by
 cases h with
 | @tup k a b _ e l i=>
  obtain⟨u,rfl⟩:=ln1 l;calc⟨a,u,k,rfl,e,i 0 u d rfl rfl⟩
theorem cD{H:Hp}{n:Nat}{x:V}{d d':DV}(h:HT H n x (.tup [d,d'])):∃a u v k,x=.ref a/\H a=some (.tup [u,v])/\HT H k u d/\HT H k v d':=by
 cases h with
 | @tup k a b _ e l i=>
  obtain⟨u,v,rfl⟩:=ln2 l;calc⟨a,u,v,k,rfl,e,i 0 u d rfl rfl,i 1 v d' rfl rfl⟩
theorem qZ{H:Hp}{n:Nat}{x:V}{b:List Int}(h:HT H n x (.tup (b.map .int))):∃a,x=.ref a/\H a=some (.tup (b.map V.int)):=by
 cases h with
 | @tup k a c _ e l i=>
  calc⟨a,rfl,?_⟩;have:c=b.map V.int:=by
   apply List.ext_getElem?;intro j;rw[List.getElem?_map]
   cases d:b[j]? with
   |none=>
    have a:b.length<=j:=List.getElem?_eq_none_iff.mp d;rw[List.getElem?_eq_none_iff.mpr (by rw[l,List.length_map];calc a)];rfl
   |some z=>
    have a:j<b.length:=(List.getElem?_eq_some_iff.mp d).1;have f:j<c.length:=by rw[l,List.length_map];exact a
    have g:=i j c[j] (.int z) (cP f) (by rw[List.getElem?_map,d];rfl);rw[cP f];generalize c[j]=y at g
    cases g;rfl
  rw[<-this];calc e
theorem n0{H:Hp}{n:Nat}{a:Addr}{c:List Int}(e:H a=some (.tup (c.map V.int))):HT H (n+1) (.ref a) (.tup (c.map .int)):=by
 calc .tup e (by simp) λi u d b f=>?_;rw[List.getElem?_map]at b f
 cases g:c[i]? with
 |none=>rw[g]at b;cases b
 |some z=>rw[g]at b f;cases b;cases f;calc .int z
theorem r8{H:Hp}{n:Nat}{a:Addr}{u:V}{d:DV}(e:H a=some (.tup [u]))(h:HT H n u d):HT H (n+1) (.ref a) (.tup [d]):=by
 refine .tup e rfl λi x y b c=>?_
 cases i with
 |zero=>simp at b c;subst b c;calc h
 |succ i=>simp at b
theorem eu{H:Hp}{n:Nat}{a:Addr}{u v:V}{d d':DV}(e:H a=some (.tup [u,v]))(h:HT H n u d)(h':HT H n v d'):HT H (n+1) (.ref a) (.tup [d,d']):=by
 refine .tup e rfl λi x y b c=>?_
 match i,b,c with
 |0,b,c=>simp at b c;subst b c;calc h
 |1,b,c=>simp at b c;subst b c;calc h'
theorem _root_.L2.HT.mono{H:Hp}{n:Nat}{x:V}{d:DV}(h:HT H n x d):∀{m:Nat},n<=m->HT H m x d:=by
 induction h with
 |bM=>intro m _;calc .bM
 |bl b=>intro m _;calc .bl b
 |int i=>intro m _;calc .int i
 |str x=>intro m _;calc .str x
 |tup a b c f=>
  intro m e;obtain⟨k,rfl⟩:∃k,m=k+1:=⟨m-1,by lia⟩
  calc .tup a b λi u e p q=>f i u e p q (by lia)
theorem Lm{K:W.Frag}{H:Hp}{n:Nat}{x:V}{d:DV}(h:HT H n x d):∀{m:Nat}{y:V}{k:Nat},HT H m y d->n<k->kH K H k x y:=by
 induction h with
 |bM=>intro m y k h c;cases h;obtain⟨j,rfl⟩:∃j,k=j+1:=⟨k-1,by lia⟩;calc .inl ⟨rfl,rfl⟩
 |bl b=>intro m y k h c;cases h;obtain⟨j,rfl⟩:∃j,k=j+1:=⟨k-1,by lia⟩;calc .inl ⟨rfl,rfl⟩
 |int i=>intro m y k h c;cases h;obtain⟨j,rfl⟩:∃j,k=j+1:=⟨k-1,by lia⟩;calc .inl ⟨rfl,rfl⟩
 |str i=>intro m y k h c;cases h;obtain⟨j,rfl⟩:∃j,k=j+1:=⟨k-1,by lia⟩;calc .inl ⟨rfl,rfl⟩
 | @tup n a o g e l i q=>
  intro m y k h c;obtain⟨j,rfl⟩:∃j,k=j+1:=⟨k-1,by lia⟩
  cases h with
  | @tup m b d _ i j k=>
   calc .inr ⟨a,b,o,d,rfl,rfl,.inl ⟨bI.of e,bI.of i⟩,l.trans j.symm,λp u v c m=>?_⟩;have a:p<g.length:=by rw[<-l];exact(List.getElem?_eq_some_iff.mp c).1
   calc q p u g[p] c (cP a) (k p v g[p] m (cP a)) (by lia)
inductive bD where
 |set (i:Int) (v:Val)|add (i:Int) (v:Val)|times (i:Int) (v:Val)|put (v:Val)|drop|send (j:Int) (v:Val)|say (v:Val)|skip (v w:Val) (k:Int)
def bD.dv:bD->DV
 | .set i v=>.tup [.str "set",.int i,v.dv]
 | .add i v=>.tup [.str "add",.int i,v.dv]
 | .times i v=>.tup [.str "times",.int i,v.dv]
 | .put v=>.tup [.str "put",v.dv]
 | .drop=>.tup [.str "drop"]
 | .send j v=>.tup [.str "send",.int j,v.dv]
 | .say v=>.tup [.str "say",v.dv]
 | .skip v w k=>.tup [.str "skip",v.dv,w.dv,.int k]
def bD.ok(m:Int):bD->Prop
 | .set i v=>0<=i/\i<m/\v.ok m
 | .add i v=>0<=i/\i<m/\v.ok m
 | .times i v=>0<=i/\i<m/\v.ok m
 | .put v=>v.ok m
 | .drop=>True
 | .send j v=>0<=j/\v.ok m
 | .say v=>v.ok m
 | .skip v w k=>v.ok m/\w.ok m/\1<=k/\k<25
def bD.vals:bD->List Val
 | .set _ v=>[v]
 | .add _ v=>[v]
 | .times _ v=>[v]
 | .put v=>[v]
 | .drop=>[]
 | .send _ v=>[v]
 | .say v=>[v]
 | .skip v w _=>[v,w]
def bD.word:bD->Str
 | .set _ _=>"set"
 | .add _ _=>"add"
 | .times _ _=>"times"
 | .put _=>"put"
 | .drop=>"drop"
 | .send _ _=>"send"
 | .say _=>"say"
 | .skip _ _ _=>"skip"
def bD.tL:bD->List Str
 | .set _ _=>["number","value"]
 | .add _ _=>["number","value"]
 | .times _ _=>["number","value"]
 | .put _=>["value"]
 | .drop=>[]
 | .send _ _=>["way","value"]
 | .say _=>["value"]
 | .skip _ _ _=>["value","value","many"]
structure WS where
 ns:List Int
 row:List Int
 cj:List (Int×Int)
 words:List Int
def f6(M way said:Int)(b a:List Int)(v:Val):Int:=r6 b a way said v%M
def c9(M:Int)(a:List Int)(x:Int):bD->List Int
 | .set i _=>a.set i.toNat x
 | .add i _=>a.set i.toNat ((a.getD i.toNat 0+x)%M)
 | .times i _=>a.set i.toNat ((a.getD i.toNat 0*x)%M)
 |_=>a
def f7(a:List Int)(x:Int):bD->List Int
 | .put _=>if a.length<12 then a++[x] else a
 | .drop=>a.tail
 |_=>a
def bC(x:Int):bD->List (Int×Int)
 | .send j _=>[(j,x)]
 |_=>[]
def aY(x:Int):bD->List Int
 | .say _=>[x]
 |_=>[]
def gb(x y:Int):bD->Int
 | .skip _ _ k=>if x<y then k else 0
 |_=>0
def gc(M way said:Int)(d:bD)(s:WS):WS:=
 let a:=d.vals.map (f6 M way said s.ns s.row)
 ⟨c9 M s.ns (a.getD 0 0) d,f7 s.row (a.getD 0 0) d,s.cj++bC (a.getD 0 0) d,s.words++aY (a.getD 0 0) d⟩
def me(M way said:Int)(d:bD)(s:WS):Int:=
 let a:=d.vals.map (f6 M way said s.ns s.row)
 gb (a.getD 0 0) (a.getD 1 0) d
def xV(M way said:Int):Nat->List bD->WS->WS
 |0,_,s=>s
 |_,[],s=>s
 |f+1,d::r,s=>xV M way said f (r.drop (me M way said d s).toNat) (gc M way said d s)
theorem BU{M way said:Int}{f:Nat}{s:WS}:xV M way said f [] s=s:=by cases f<;>rfl
def oa(M way said:Int)(b:List bD)(c a:List Int):WS:=xV M way said b.length b ⟨c,a,[],[]⟩
theorem bX{M x:Int}{a:List Int}{d:bD}:(c9 M a x d).length=a.length:=by cases d<;>simp[c9]
def xW(K:W.Frag)(H:Hp)(f:V)(e d:List Int):Prop:=∃a b c,f=.ref a/\H a=some (.tup [.ref b,.ref c])/\(aU K H b (e.map V.int)\/bI K H b (e.map V.int))/\(aU K H c (d.map V.int)\/bI K H c (d.map V.int))
theorem xW.of{K:W.Frag}{n:Nat}{f:V}{g d:List Int}(h:HT H n f (wY g d)):xW K H f g d:=by
 obtain⟨a,u,v,k,rfl,e,i,j⟩:=cD h;obtain⟨b,rfl,l⟩:=qZ i;obtain⟨c,rfl,d⟩:=qZ j;calc⟨a,b,c,rfl,e,.inr (bI.of l),.inr (bI.of d)⟩
def ck:Stmt->List Stmt
 | .ClassDef _ _ _ a _ _ _ _ _ _ _=>a
 |_=>[]
theorem bY{H:Hp}{n:Nat}{x:V}{d d' b:DV}(h:HT H n x (.tup [d,d',b])):∃a u v w k,x=.ref a/\H a=some (.tup [u,v,w])/\HT H k u d/\HT H k v d'/\HT H k w b:=by
 cases h with
 | @tup k a c _ e l i=>
  obtain⟨u,v,w,rfl⟩:=ln3 l;calc⟨a,u,v,w,k,rfl,e,i 0 u d rfl rfl,i 1 v d' rfl rfl,i 2 w b rfl rfl⟩
theorem j3{H:Hp}{n:Nat}{x:V}{d d' b c:DV}(h:HT H n x (.tup [d,d',b,c])):∃a u v w z k,x=.ref a/\H a=some (.tup [u,v,w,z])/\HT H k u d/\HT H k v d'/\HT H k w b/\HT H k z c:=by
 cases h with
 | @tup k a f _ e l i=>
  obtain⟨u,v,w,z,rfl⟩:=ln4 l;calc⟨a,u,v,w,z,k,rfl,e,i 0 u d rfl rfl,i 1 v d' rfl rfl,i 2 w b rfl rfl,i 3 z c rfl rfl⟩
theorem my{H:Hp}{n:Nat}{a:Addr}{u v w:V}{d d' g:DV}(e:H a=some (.tup [u,v,w]))(h:HT H n u d)(h':HT H n v d')(f:HT H n w g):HT H (n+1) (.ref a) (.tup [d,d',g]):=by
 refine .tup e rfl λi x y b c=>?_
 match i,b,c with
 |0,b,c=>simp at b c;subst b c;calc h
 |1,b,c=>simp at b c;subst b c;calc h'
 |2,b,c=>simp at b c;subst b c;calc f
theorem BV{n:Nat}{v:Val}(h:HT H n x v.dv):∃a xs,x=.ref a/\H a=some (.tup xs):=by
 cases v<;>(cases h;rename_i a xs e l i;calc⟨_,_,rfl,by assumption⟩)
end DD
set_option maxHeartbeats 400000
namespace L2
open PySem PySem.Spec PyProof.Rows
def UM:R2:=λx y H Q=>match x,y with
 | .ref a,.int n=>∃v,H a=some (.lst [v])/\-1000<=n/\n<=1000/\∀p,H p=none->Q (.ref p) (upd H p (.lst (List.replicate n.toNat v)))
 |_,_=>False
theorem He{α:Type}(n:Nat)(v:α):(List.replicate n [v]).flatten=List.replicate n v:=by
 induction n with
 |zero=>rfl
 |succ n a=>rw[List.replicate_succ,List.flatten_cons,a];rfl
theorem xX{v:V}{u:Value}(r:RelV v u):∀n:Nat,Vals (List.replicate n v) (List.replicate n u)
 |0=>.nil
 |n+1=>.cons r (xX r n)
section
variable {X:Cx}
theorem Hf:gS X (binaryOp .Mult) UM:=by
 intro g s σ H x y v u Q I i j h
 cases x<;>cases y<;>first
  |calc(show False from h).elim
  |skip
 rename_i a n;obtain⟨w,l,A,B,q⟩:=h;obtain rfl:v=Value.ref a:=i;obtain⟨c,rfl⟩:∃c,u=Value.int n c:=j;obtain⟨_,C,k,m,d⟩:=I.aZ a _ l;obtain⟨f,rfl,p⟩:=m.one;have r:([f]:List Value).toArray.size*n.toNat<=1000:=by simp;lia
 refine wpAny_binaryOp_repeat_ref (T:="list") (U:="int") (by decide) ⟨_,d,rfl⟩ (λt=>typeIs_int t n c) noFill_list_mul F.fills_int_mul F.slot_int_rmul repeat_list F.slot_int_index.lookup
  (call_meets F.slot_int_rmul (typeIs_int s n c) F.entry_int_rmul (F.args_int_rmul_2 _ _) (lm_int_rmul_list_any n c a ([f]:List Value).toArray k none #[])
   ⟨d,rfl,⟨_,d,rfl⟩,call_meets F.slot_list_mul ⟨_,d,rfl⟩ F.entry_list_mul (F.args_list_mul_2 _ _)
    (lm_list_mul_any a ([f]:List Value).toArray k none #[] n c (by simp[Builtin.List.listFitsIndex];lia) (by lia) (by simp[Builtin.List.listTooLong,sizeLine];lia))
    ⟨d,?_⟩⟩)
 rw[listMul_foldl_if,He];have z:H s.heap.objs.size=none:=I.aZ.fresh (K' _);calc⟨V.ref s.heap.objs.size,_,I.laid (o:=.lst (List.replicate n.toNat w)) (a:=s.heap.objs.size) (λb o e=>J' _ e) (K' _) (show _/\_ from⟨?_,_,0,xX p _,V' _ rfl⟩),rfl,q _ z⟩;rw[List.length_replicate,sizeLine_eq];lia
end
def UN(K:W.Frag):List V->Hp->VK->Prop:=λxs H Q=>∃(a C B:Addr) (d:Option Addr) (p:Addr) (cs:List Addr) (b e:Bool),xs=[.ref a,.ref p]/\H a=some (XO a C d e)/\(∀c,d=some c->∃f,H c=some (XD c f))/\iX K C B/\H p=some (.tup (cs.map V.ref))/\W.kitAny K (.ref C) (cs.map Value.ref)=some b/\Q (.bl b) H
theorem uJ:∀{cs:List Addr}{us:List Value},Vals (cs.map V.ref) us->us=cs.map Value.ref
 | [],_,h=>by cases h;rfl
 |c::cs,_,h=>by
  cases h with
  |cons a b=>
   rw[uJ b]
   cases(show _=Value.ref c from a);rfl
theorem uK{X:Cx}:fq X (.builtin "isinstance") (UN X.K):=by
 intro e s σ H l m Q I r h;obtain⟨a,C,B,d,p,F,b,G,rfl,o,t,v,w,k,q⟩:=h;obtain⟨u,c,rfl,n,x⟩:∃u c,m=u::c/\RelV (.ref a) u/\Vals [.ref p] c:=by cases r with|cons a b=>exact⟨_,_,rfl,a,b⟩
 obtain⟨y,rfl,A⟩:=x.one
 cases(show u=Value.ref a from n)
 cases(show y=Value.ref p from A);obtain⟨_,a,c,f⟩:=I.aZ p _ w;rw[uJ c]at f;obtain⟨⟨e,h,a,D⟩,E,g,n,i⟩:=id f;simp only at g i;subst g i;refine W.kia_tup (xH v) I.ic ?_ E k (λz=>nomatch z) λa=>⟨.bl b,H,I.tok _,rfl,q⟩
 obtain⟨l,D,j⟩:=Gz I o
 cases d with
 |none=>calc⟨_,none,j,rfl,rfl,aaF⟩
 |some a=>
  obtain⟨b,z⟩:=t a rfl;obtain⟨_,⟨o,_,_,b,_⟩,_⟩:=Gy (I.aZ a _ z);calc⟨_,some o,j,rfl,rfl,b⟩
end L2
namespace L2
open PySem
theorem Ln:bootBuiltins "ValueError"=some (.type "ValueError"):=by kernel_rfl
structure DI(K:W.Frag)(mg:Str->Option Value)(B:Addr)(c:Nat->Addr):Prop where
 og:mg "BadMachine"=some (.ref (c 0))
 uL:mg "BadDeed"=some (.ref (c 1))
 xY:mg "NoText"=some (.ref (c 2))
 xZ:mg "BadNet"=some (.ref (c 3))
 r9:mg "NoLetter"=some (.ref (c 4))
 se:mg "NotFirst"=some (.ref (c 5))
 pd:mg "NoCount"=some (.ref (c 6))
 uM:mg "NoEvent"=some (.ref (c 7))
 sf:mg "Orphaned"=some (.ref (c 8))
 uN:mg "TooMany"=some (.ref (c 9))
 x6:mg "NoLine"=some (.ref (c 10))
 qv:mg "NoMachine"=some (.ref (c 11))
 x8:mg "NotRow"=some (.ref (c 12))
 Hg:mg "Busy"=some (.ref (c 13))
 oh:mg "NotReached"=some (.ref (c 14))
 x9:mg "NoMark"=some (.ref (c 15))
 BW:mg "NoRow"=some (.ref (c 16))
 ya:mg "NoName"=some (.ref (c 17))
 yb:mg "NoDeed"=some (.ref (c 18))
 sh:mg "NetError"=some (.ref B)
 v8:nU K mg "BadMachine" (c 0) B
 Hh:nU K mg "NoText" (c 2) B
 Hi:nU K mg "BadNet" (c 3) B
 uO:nU K mg "NoCount" (c 6) B
 DJ:nU K mg "NoEvent" (c 7) B
 DK:nU K mg "TooMany" (c 9) B
 qw:nU K mg "NoMachine" (c 11) B
 Qi:nU K mg "Busy" (c 13) B
 Hk:nU K mg "NoMark" (c 15) B
 Lo:nU K mg "NoRow" (c 16) B
 Hl:nU K mg "NoName" (c 17) B
 Hm:nU K mg "NoDeed" (c 18) B
 cl:∀i,i<19->iX K (c i) B
 inj:∀i j,i<19->j<19->c i=c j->i=j
 nB:∀i,i<19->c i≠B
 UO:(W.clsIn K B).isSome=true
 tyB:W.typeIn K (.ref B)=some (.type "type")
 xb:XBase K B
 gf:b4 K (c 1) "at"
 fu:b4 K (c 4) "at"
 fw:b4 K (c 5) "at"
 dB:b4 K (c 8) "letter"
 eZ:b4 K (c 10) "falls"
 eF:b4 K (c 10) "letter"
 gh:b4 K (c 12) "way"
 cT:b4 K (c 14) "machine"
section
variable {K:W.Frag}{mg:Str->Option Value}{B:Addr}{c:Nat->Addr}
theorem v9(T:DI K mg B c){i j:Nat}(a:i<19)(b:j<19):W.kitOne K (.ref (c i)) (.ref (c j))=some (decide (i=j)):=by
 unfold W.kitOne;by_cases e:i=j
 ·subst e;rw[if_pos (by simp)];simp
 ·have d:c i≠c j:=λz=>e (T.inj i j a b z);have g:c j≠B:=T.nB j b;rw[if_neg (by simpa using d)];obtain⟨cd,k,l,_⟩:=(T.cl i a).cd;obtain⟨n,q,N,o,p,l,r,m,t,u,v,w,x,y,k⟩:=(T.cl j b).ob;have l:W.typeIn K (.ref (c j))=some (.type "type"):=by show Option.map (·.cls) (K.lookup (c j))=_;rw[k];rfl
  have b:(W.clsIn K (c j)).isSome=true:=by unfold W.clsIn;rw[k];rfl
  have k:=(T.cl i a).mro (.ref (c j));show(if ((W.clsIn K (c j)).isSome&&W.typeIn K (.ref (c j))==some (.type "type"))=true then W.subIn K (.ref (c i)) (.ref (c j)) else none)=_;rw[l,b];simp only[beq_self_eq_true,Bool.and_self,if_true];show W.mroIn K (c i) (.ref (c j))=_;rw[k];have z:((Value.ref (c i)::.ref B::rN).contains (.ref (c j)))=false:=by
   simp[rN,List.contains_cons,d,g,Ne.symm d]
  rw[z];simp[e]
theorem Qj(T:DI K mg B c){i:Nat}(a:i<19):W.kitOne K (.ref (c i)) (.type "ValueError")=some true:=by
 unfold W.kitOne;rw[if_neg (by intro z;cases z)];show(if W.kitMeta "ValueError"=true then W.subIn K (.ref (c i)) (.type "ValueError") else none)=_;rw[if_pos (by decide +kernel)];show W.mroIn K (c i) (.type "ValueError")=_;exact((T.cl i a).mro _).trans rfl
theorem wa(T:DI K mg B c){i:Nat}(b:i<19):∀a:List Nat,(∀j∈a,j<19)->W.kitAny K (.ref (c i)) ((a.map c).map Value.ref)=some (decide (i∈a))
 | [],_=>by simp[W.kitAny]
 |j::a,h=>by
  have d:=wa T b a λk f=>h k (aaE _ f);have e:=v9 T b (h j (by simp));show(match W.kitOne K (.ref (c i)) (.ref (c j)) with|some true=>some true|some false=>W.kitAny K (.ref (c i)) ((a.map c).map Value.ref)|none=>none)=_;rw[e];by_cases z:i=j
  ·subst z;simp
  ·rw[decide_eq_false z];show W.kitAny K (.ref (c i)) ((a.map c).map Value.ref)=_;rw[d];simp[z]
end
end L2
namespace L2
open PySem PySem.Spec PyProof.Rows Builtin.Str
end L2
namespace L2
open PySem PySem.Spec PyProof.Rows Builtin.Str
end L2
set_option maxHeartbeats 4000000
namespace L2
open PySem
section
variable {X:Cx}
def aan(K:W.Frag):List V->Hp->VK->Prop:=λxs H Q=>∃(x:V) (C:Addr) (t:Value) (b:Bool),xs=[x,.ref C]/\gv K H x t/\W.kitOne K t (.ref C)=some b/\Q (.bl b) H
theorem Hn{K:W.Frag}(c:X.K=K):fq X (.builtin "isinstance") (aan K):=by
 subst c;intro a s σ H i j Q I r h;obtain⟨x,C,t,b,rfl,d,e,q⟩:=h;obtain⟨u,k,rfl,f,g⟩:=vals2 r
 cases g;calc uk I f d e λa=>⟨.bl b,H,I.tok _,rfl,q⟩
end
end L2
namespace L2
open PySem PySem.Spec PyProof.Rows
variable {e:Nat->Bool}
def EM(K:W.Frag)(H:Hp):Nat->V->V->Bool->Prop
 |0,_,_,_=>False
 | n + 1,x,y,b=>(∃a,x=.ref a/\y=.ref a/\b=true)\/(gr x=true/\gr y=true/\b=EI x y)
  \/(∃a xs,gr x=true/\y=.ref a/\(bI K H a xs\/aU K H a xs)/\b=false)\/(∃a xs,gr y=true/\x=.ref a/\(bI K H a xs\/aU K H a xs)/\b=false)
  \/(∃a c xs d,x=.ref a/\y=.ref c/\((bI K H a xs/\aU K H c d)\/(aU K H a xs/\bI K H c d))/\b=false)
  \/∃a c xs d,∃e:Nat->Bool,x=.ref a/\y=.ref c/\a≠c/\((bI K H a xs/\bI K H c d)\/(aU K H a xs/\aU K H c d))
   /\(∀(i:Nat) u v,xs[i]?=some u->d[i]?=some v->EM K H n u v (e i))/\b=((List.range (min xs.length d.length)).all e&&(xs.length==d.length))
def Yk(K:W.Frag)(H:Hp)(n:Nat)(a c:Addr)(b:Bool):Prop:=∃xs d,∃e:Nat->Bool,((bI K H a xs/\bI K H c d)\/(aU K H a xs/\aU K H c d))
      /\(∀(i:Nat) u v,xs[i]?=some u->d[i]?=some v->EM K H n u v (e i))/\b=((List.range (min xs.length d.length)).all e&&(xs.length==d.length))
section
variable {X:Cx}
theorem Ho{pins:List (Addr×Obj)}{σ:St}{H:Hp}{s:Shared}(I:Inv X pins σ H s){n:Nat}(L:∀(A:Around) {x y:V}{u v:Value}{b:Bool},EM X.K H n x y b->A.units+n<cLine->RelV x u->RelV y v->SeqAt.EqAt A s u v b)
  {A:Around} {a c:Addr} {b:Bool} (h:Yk X.K H n a c b) (f:A.units+n+1<cLine):SeqAt.RcAt A s (.ref a) (.ref c) b/\SeqAt.RcNeAt A s (.ref a) (.ref c) (!b):=by
 obtain⟨g,k,e,d,M,rfl⟩:=h;rcases d with⟨m,n⟩|⟨m,n⟩
 ·obtain⟨d,o,h,p⟩:=I.tuple m;obtain⟨f,q,l,w⟩:=I.tuple n;have N:=o.length;have O:=q.length;have b:∀j (m:j<d.toArray.size) (n:j<f.toArray.size),SeqAt.EqAt A.in1 s d.toArray[j] f.toArray[j] (e j):=λj y z=>by
   have B:j<d.length:=by simpa using y
   have C:j<f.length:=by simpa using z
   obtain⟨D,r,E⟩:=o.get (i:=j) (x:=g[j]'(by lia)) (by simp);obtain⟨F,t,G⟩:=q.get (i:=j) (x:=k[j]'(by lia)) (by simp);have H:d.toArray[j]=D:=by
    have:=cP B;rw[this]at r;simpa using Option.some.inj r
   have J:f.toArray[j]=F:=by
    have:=cP C;rw[this]at t;simpa using Option.some.inj t
   rw[H,J];exact L A.in1 (M j _ _ (by simp) (by simp)) (by rw[in1_units];lia) E G
  have u:=SeqAt.RcAt.tuples (A:=A) (show s.heap.IsTuple a d.toArray from h) (show s.heap.IsTuple c f.toArray from l) (by lia) b;have v:=SeqAt.RcNeAt.tuples (A:=A) (show s.heap.IsTuple a d.toArray from h) (show s.heap.IsTuple c f.toArray from l) (by lia) b;have p:d.toArray.size=g.length:=by simp;lia
  have w:f.toArray.size=k.length:=by simp;lia
  rw[p,w]at u v;exact⟨u,v⟩
 ·obtain⟨d,o,h,p⟩:=I.list m;obtain⟨f,q,l,w⟩:=I.list n;have N:=o.length;have O:=q.length;by_cases a:g.length=k.length
  ·have c:d.toArray.size=f.toArray.size:=by simp;lia
   have b:∀j (m:j<d.toArray.size) (n:j<f.toArray.size),SeqAt.EqAt A.in1 s d.toArray[j] f.toArray[j] (e j):=λj y z=>by
    have B:j<d.length:=by simpa using y
    have C:j<f.length:=by simpa using z
    obtain⟨D,r,E⟩:=o.get (i:=j) (x:=g[j]'(by lia)) (by simp);obtain⟨F,t,G⟩:=q.get (i:=j) (x:=k[j]'(by lia)) (by simp);have H:d.toArray[j]=D:=by
     have:=cP B;rw[this]at r;simpa using Option.some.inj r
    have J:f.toArray[j]=F:=by
     have:=cP C;rw[this]at t;simpa using Option.some.inj t
    rw[H,J];exact L A.in1 (M j _ _ (by simp) (by simp)) (by rw[in1_units];lia) E G
   have u:=SeqAt.RcAt.lists (A:=A) h.isList l.isList c (by lia) b;have v:=SeqAt.RcNeAt.lists (A:=A) h.isList l.isList c (by lia) b;have p:d.toArray.size=g.length:=by simp;lia
   have b:((List.range (min g.length k.length)).all e&&(g.length==k.length))=(List.range g.length).all e:=by rw[a];simp
   rw[p]at u v;rw[b];exact⟨u,v⟩
  ·have c:(d.toArray.size != f.toArray.size)=true:=by simp;lia
   have b:((List.range (min g.length k.length)).all e&&(g.length==k.length))=false:=by simp[a]
   rw[b];calc⟨SeqAt.RcAt.lists_lengths h.isList l.isList c (by lia),SeqAt.RcNeAt.lists_lengths h.isList l.isList c (by lia)⟩
theorem Hr{pins:List (Addr×Obj)}{σ:St}{H:Hp}{s:Shared}(I:Inv X pins σ H s):∀(n:Nat) (A:Around) {x y:V}{u v:Value}{b:Bool},EM X.K H n x y b->A.units+n<cLine->RelV x u->RelV y v->SeqAt.EqAt A s u v b
 |0,_,_,_,_,_,_,h,_,_,_=>h.elim
 |n+1,A,x,y,u,v,b,h,r,k,l=>by
  rcases h with⟨a,rfl,rfl,rfl⟩|⟨f,g,rfl⟩|⟨a,p,f,rfl,i,rfl⟩|⟨a,p,f,rfl,i,rfl⟩|⟨a,c,p,q,rfl,rfl,i,rfl⟩|⟨a,c,p,q,e,rfl,rfl,w,i,z,B⟩
  ·cases k;cases l;exact SeqAt.EqAt.same _
  ·exact zN k l f g
  ·cases l;rcases i with i | i
   ·obtain⟨j,m,d,o⟩:=I.tuple i
    cases x<;>first|calc absurd (show false=true from f) U'|skip
    ·cases k;exact SeqAt.EqAt.none_tuple (show s.heap.IsTuple a j.toArray from d) (by lia)
    ·cases k;exact SeqAt.EqAt.bool_tuple _ (show s.heap.IsTuple a j.toArray from d) (by lia)
    ·obtain⟨t,rfl⟩:=k;exact SeqAt.EqAt.int_tuple _ _ (show s.heap.IsTuple a j.toArray from d) (by lia)
    ·obtain⟨t,rfl⟩:=k;exact SeqAt.EqAt.str_tuple _ _ (show s.heap.IsTuple a j.toArray from d) (by lia)
   ·obtain⟨j,m,d,o⟩:=I.list i
    cases x<;>first|calc absurd (show false=true from f) U'|skip
    ·cases k;exact SeqAt.EqAt.none_list d.isList (by lia)
    ·cases k;exact SeqAt.EqAt.bool_list _ d.isList (by lia)
    ·obtain⟨t,rfl⟩:=k;exact SeqAt.EqAt.int_list _ _ d.isList (by lia)
    ·obtain⟨t,rfl⟩:=k;exact SeqAt.EqAt.str_list _ _ d.isList (by lia)
  ·cases k;rcases i with i | i
   ·obtain⟨j,m,d,o⟩:=I.tuple i
    cases y<;>first|calc absurd (show false=true from f) U'|skip
    ·cases l;exact SeqAt.EqAt.tuple_none (show s.heap.IsTuple a j.toArray from d) (by lia)
    ·cases l;exact SeqAt.EqAt.tuple_bool _ (show s.heap.IsTuple a j.toArray from d) (by lia)
    ·obtain⟨t,rfl⟩:=l;exact SeqAt.EqAt.tuple_int _ _ (show s.heap.IsTuple a j.toArray from d) (by lia)
    ·obtain⟨t,rfl⟩:=l;exact SeqAt.EqAt.tuple_str _ _ (show s.heap.IsTuple a j.toArray from d) (by lia)
   ·obtain⟨j,m,d,o⟩:=I.list i
    cases y<;>first|calc absurd (show false=true from f) U'|skip
    ·cases l;exact SeqAt.EqAt.list_none d.isList (by lia)
    ·cases l;exact SeqAt.EqAt.list_bool _ d.isList (by lia)
    ·obtain⟨t,rfl⟩:=l;exact SeqAt.EqAt.list_int _ _ d.isList (by lia)
    ·obtain⟨t,rfl⟩:=l;exact SeqAt.EqAt.list_str _ _ d.isList (by lia)
  ·cases k
   cases l;rcases i with⟨f,g⟩|⟨f,g⟩
   ·obtain⟨j,m,d,o⟩:=I.tuple f;obtain⟨r,t,h,C⟩:=I.list g;exact SeqAt.EqAt.tuple_list (show s.heap.IsTuple a j.toArray from d) h.isList (by lia)
   ·obtain⟨j,m,d,o⟩:=I.list f;obtain⟨r,t,h,C⟩:=I.tuple g;exact SeqAt.EqAt.list_tuple d.isList (show s.heap.IsTuple c r.toArray from h) (by lia)
  ·cases k
   cases l;calc SeqAt.EqAt.of_refs w (Ho I (λA {x y u v b}=>Hr I n A) ⟨p,q,e,i,z,B⟩ (by lia)).1
def Qk(K:W.Frag):R2:=λx y H Q=>∃a c b,x=.ref a/\y=.ref c/\Yk K H 19 a c b/\Q (.bl b) H
def UP(K:W.Frag):R2:=λx y H Q=>∃a c b,x=.ref a/\y=.ref c/\Yk K H 19 a c b/\Q (.bl (!b)) H
theorem Lp(i:X.A.units+64<cLine):gS X (compareOp .Eq) (Qk X.K):=by
 intro d s σ H x y v u Q I e f h;obtain⟨a,c,b,rfl,rfl,g,q⟩:=h
 cases e
 cases f;calc(Ho I (λA {x y u v b}=>Hr I 19 A) (A:=X.A) g (by lia)).1 X.prog X.w X.xe _ ⟨.bl b,H,I,rfl,q⟩
end
inductive uP:DV->Prop
 |bM:uP .bM
 |int (i:Int):uP (.int i)
 |str (x:Str):uP (.str x)
 |tup {ds:List DV}:(∀e∈ds,uP e)->uP (.tup ds)
 |lst {ds:List DV}:(∀e∈ds,uP e)->uP (.lst ds)
theorem EM.mono{K:W.Frag}{H:Hp}:∀{n:Nat}{x y:V}{b:Bool},EM K H n x y b->∀{m:Nat},n<=m->EM K H m x y b
 |0,_,_,_,h,_,_=>h.elim
 |n+1,x,y,b,h,m,a=>by
  obtain⟨k,rfl⟩:∃k,m=k+1:=⟨m-1,by lia⟩
  rcases h with h|h|h|h|h|⟨a,c,b,d,e,f,g,j,k,l,m⟩
  ·exact .inl h
  ·exact .inr (.inl h)
  ·exact .inr (.inr (.inl h))
  ·exact .inr (.inr (.inr (.inl h)))
  ·exact .inr (.inr (.inr (.inr (.inl h))))
  ·calc .inr (.inr (.inr (.inr (.inr ⟨a,c,b,d,e,f,g,j,k,λi u v p q=>(l i u v p q).mono (by lia),m⟩))))
theorem Lq{H:Hp}{n:Nat}{x:V}{d:DV}(h:HD H n x d):∀{m:Nat}{d':DV},HD H m x d'->d=d':=by
 induction h with
 |bM=>intro m d' h;cases h;rfl
 |bl b=>intro m d' h;cases h;rfl
 |int i=>intro m d' h;cases h;rfl
 |str x=>intro m d' h;cases h;rfl
 | @tup n a f g e l i k=>
  intro m d' h
  cases h with
  | @tup m _ q o c r p=>
   rw[e]at c
   cases c;congr 1;apply List.ext_getElem (by lia);intro j s t;have u:j<f.length:=by lia
   calc k j f[j] g[j] (by simp) (by simp) (p j f[j] o[j] (by simp) (by simp))
  |lst c=>rw[e]at c;cases c
  |dict c=>rw[e]at c;cases c
 | @lst n a f g e l i k=>
  intro m d' h
  cases h with
  | @lst m _ q o c r p=>
   rw[e]at c
   cases c;congr 1;apply List.ext_getElem (by lia);intro j s t;have u:j<f.length:=by lia
   calc k j f[j] g[j] (by simp) (by simp) (p j f[j] o[j] (by simp) (by simp))
  |tup c=>rw[e]at c;cases c
  |dict c=>rw[e]at c;cases c
 |dict e=>
  intro m d' h
  cases h with
  |tup c=>rw[e]at c;cases c
  |lst c=>rw[e]at c;cases c
  |dict _=>rfl
theorem all_eq{a b:List DV}(f:∀(i:Nat) u v,a[i]?=some u->b[i]?=some v->e i=true->u=v)(h:((List.range (min a.length b.length)).all e&&(a.length==b.length))=true):a=b:=by
 rw[Bool.and_eq_true]at h;obtain⟨d,c⟩:=h;have c:a.length=b.length:=by simpa using c
 apply List.ext_getElem c;intro j a b;calc f j _ _ (by simp) (by simp) ?_;rw[List.all_eq_true]at d;calc d j (by simp;lia)
theorem DM{a:List DV}(b:∀i,i<a.length->e i=true):((List.range (min a.length a.length)).all e&&(a.length==a.length))=true:=by
 simp;calc b
theorem lR{K:W.Frag}{H:Hp}{n m:Nat}{x y:V}{d d':DV}(h:HD H 0 x d)(h':HD H m y d')(a:uP d)(c:uP d')(f:gr x=true):∃b,EM K H (n+1) x y b/\(b=true↔d=d'):=by
 cases h<;>cases h'<;>first
  |(calc⟨_,.inr (.inl ⟨rfl,rfl,rfl⟩),?_⟩;simp[EI];done)
  |(rename_i e _ _;calc⟨false,.inr (.inr (.inl ⟨_,_,rfl,rfl,.inl (bI.of e),rfl⟩)),by simp⟩)
  |(rename_i e _ _;calc⟨false,.inr (.inr (.inl ⟨_,_,rfl,rfl,.inr (aU.of e),rfl⟩)),by simp⟩)
  |(exfalso;cases a;done)
  |(exfalso;cases c;done)
theorem wb{K:W.Frag}{H:Hp}:∀(n:Nat) {x y:V}{d d':DV}{m:Nat},HD H n x d->HD H m y d'->uP d->uP d'->∃b,EM K H (n+1) x y b/\(b=true↔d=d'):=by
 have A:∀{k m:Nat} {g s:List V} {t w:List DV},(∀{x y:V} {d d':DV} {m:Nat},HD H k x d->HD H m y d'->uP d->uP d'->∃b,EM K H (k + 1) x y b/\(b=true↔d=d'))->g.length=t.length->s.length=w.length->
   (∀(i:Nat) u e,g[i]?=some u->t[i]?=some e->HD H k u e)->(∀(i:Nat) u e,s[i]?=some u->w[i]?=some e->HD H m u e)->(∀e∈t,uP e)->(∀e∈w,uP e)->
   ∃e:Nat->Bool,(∀(i:Nat) u v,g[i]?=some u->s[i]?=some v->EM K H (k+1) u v (e i))/\(((List.range (min g.length s.length)).all e&&(g.length==s.length))=true↔t=w):=by
  intro k m g s t w I l C i D o r;have G:∀j:Nat,∃b:Bool,(∀u v,g[j]?=some u->s[j]?=some v->EM K H (k+1) u v b)/\(∀u v,t[j]?=some u->w[j]?=some v->(b=true↔u=v)):=by
   intro j;by_cases J:j<g.length/\j<s.length
   ·obtain⟨Q,R⟩:=J;have O:j < t.length:=by lia
    have P:j<w.length:=by lia
    obtain⟨b,S,T⟩:=I (i j g[j] t[j] (by simp) (by simp)) (D j s[j] w[j] (by simp) (by simp)) (o _ (aaf O)) (r _ (aaf P));refine⟨b,λu v p q=>?_,λu v p q=>?_⟩
    ·rw[cP Q]at p;rw[cP R]at q;cases p;cases q;exact S
    ·rw[cP O]at p;rw[cP P]at q;cases p;cases q;exact T
   ·refine⟨true,λu v p q=>?_,λu v p q=>?_⟩
    ·exact absurd ⟨(List.getElem?_eq_some_iff.mp p).1,(List.getElem?_eq_some_iff.mp q).1⟩ J
    ·exact absurd ⟨by rw[l];calc(List.getElem?_eq_some_iff.mp p).1,by rw[C];calc(List.getElem?_eq_some_iff.mp q).1⟩ J
  obtain⟨e,L⟩:=Classical.axiomOfChoice G;refine⟨e,λi u v p q=>(L i).1 u v p q,λh=>?_,λh=>?_⟩
  ·rw[l,C]at h;exact all_eq (λi u v p q=>((L i).2 u v p q).mp) h
  ·subst h;rw[l,C];calc DM λi b=>?_;exact((L i).2 t[i] t[i] (by simp) (by simp)).mpr rfl
 intro n;induction n with
 |zero=>
  intro x y d d' m h B o r
  cases h with
  |bM=>calc lR .bM B o r rfl
  |int j=>calc lR (.int j) B o r rfl
  |str j=>calc lR (.str j) B o r rfl
  |bl _=>cases o
  |dict _=>cases o
 |succ n I=>
  intro x y d d' m h B o r;by_cases E:∃a,x=.ref a/\y=.ref a
  ·obtain⟨a,rfl,rfl⟩:=E;exact⟨true,.inl ⟨a,rfl,rfl,rfl⟩,by simp[Lq h B]⟩
  cases h with
  | @tup _ a g t e l i=>
   cases o with
   |tup o=>
   cases B with
   | @tup m c s w F C D=>
    cases r with
    |tup r=>
    obtain⟨f,M,N⟩:=A I l C i D o r;calc⟨_,.inr (.inr (.inr (.inr (.inr ⟨a,c,g,s,f,rfl,rfl,λz=>E ⟨a,rfl,by rw[z]⟩,.inl ⟨bI.of e,bI.of F⟩,M,rfl⟩)))),N.trans (by simp)⟩
   | @lst m c s w F C D=>calc⟨false,.inr (.inr (.inr (.inr (.inl ⟨a,c,g,s,rfl,rfl,.inl ⟨bI.of e,aU.of F⟩,rfl⟩)))),by simp⟩
   |dict _=>cases r
   |bl _=>cases r
   |bM=>calc⟨false,.inr (.inr (.inr (.inl ⟨a,g,rfl,rfl,.inl (bI.of e),rfl⟩))),by simp⟩
   |int j=>calc⟨false,.inr (.inr (.inr (.inl ⟨a,g,rfl,rfl,.inl (bI.of e),rfl⟩))),by simp⟩
   |str j=>calc⟨false,.inr (.inr (.inr (.inl ⟨a,g,rfl,rfl,.inl (bI.of e),rfl⟩))),by simp⟩
  | @lst _ a g t e l i=>
   cases o with
   |lst o=>
   cases B with
   | @lst m c s w F C D=>
    cases r with
    |lst r=>
    obtain⟨f,M,N⟩:=A I l C i D o r;calc⟨_,.inr (.inr (.inr (.inr (.inr ⟨a,c,g,s,f,rfl,rfl,λz=>E ⟨a,rfl,by rw[z]⟩,.inr ⟨aU.of e,aU.of F⟩,M,rfl⟩)))),N.trans (by simp)⟩
   | @tup m c s w F C D=>calc⟨false,.inr (.inr (.inr (.inr (.inl ⟨a,c,g,s,rfl,rfl,.inr ⟨aU.of e,bI.of F⟩,rfl⟩)))),by simp⟩
   |dict _=>cases r
   |bl _=>cases r
   |bM=>calc⟨false,.inr (.inr (.inr (.inl ⟨a,g,rfl,rfl,.inr (aU.of e),rfl⟩))),by simp⟩
   |int j=>calc⟨false,.inr (.inr (.inr (.inl ⟨a,g,rfl,rfl,.inr (aU.of e),rfl⟩))),by simp⟩
   |str j=>calc⟨false,.inr (.inr (.inr (.inl ⟨a,g,rfl,rfl,.inr (aU.of e),rfl⟩))),by simp⟩
  |dict _=>cases o
  |bl _=>cases o
  |bM=>calc(lR (n:=n+1) .bM B o r rfl)
  |int j=>calc(lR (n:=n+1) (.int j) B o r rfl)
  |str j=>calc(lR (n:=n+1) (.str j) B o r rfl)
end L2
namespace L2
open PySem
variable {H:Hp}{σ:St}
theorem cq{t u:TS}{D:Ends}(h:∀N:St->Hp->Prop,N=u D->t {D with nx:=N} σ H):CW t u D σ H:=h _ rfl
theorem oj{c:TT}{t u:TS}{D:Ends}(h:∀T U:St->Hp->Prop,T=t D->U=u D->c σ H λb a=>if b=true then T σ a else U σ a):zw c t u D σ H:=h _ _ rfl rfl
theorem Ql{i:Nat}{v:V}{Q:St->Hp->Prop}(h:Q (σ.set i (some v)) H):hX i v σ H Q:=h
theorem cw{N M:St->Hp->Prop}(e:N=M)(h:M σ H):N σ H:=e▸h
end L2
namespace DD
open PySem L2
variable {x:Addr}{Z:Addr->Prop}{o:HO}{H H' H1:Hp}{vs:List V}
structure MD where
 M:Int
 ns:List Int
 row:List Int
 ds:List bD
structure Good(M:Int)(ns row:List Int)(ds:List bD):Prop where
 m2:2<=M
 m12:M<=1000000000000
 l1:1<=ns.length
 l4:ns.length<=4
 r12:row.length<=12
 bn:∀z∈ns,0<=z/\z<M
 br:∀z∈row,0<=z/\z<M
 Yl:ds.length<=24
 ok:∀d∈ds,d.ok ns.length
abbrev MD.good(d:MD):Prop:=Good d.M d.ns d.row d.ds
instance:Inhabited MD:=⟨⟨0,[],[],[]⟩⟩
noncomputable def jR (Z:Addr->Prop) (H:Hp):Hp:=λx=> @ite _ (Z x) (Classical.propDecidable _) (some (.own 0)) (H x)
theorem gV(h:¬Z x):jR Z H x=H x:=by unfold jR;rw[if_neg h]
theorem Ag(h:Z x):jR Z H x=some (.own 0):=by unfold jR;rw[if_pos h]
theorem dS(h:jR Z H x=some o)(b:∀k,o≠.own k):¬Z x/\H x=some o:=by
 by_cases a:Z x
 ·rw[Ag a]at h;cases h;exact absurd rfl (b 0)
 ·rw[gV a]at h;calc⟨a,h⟩
theorem Lr(h:Z x):jR Z (upd H x o)=jR Z H:=by
 funext b;by_cases a:Z b
 ·rw[Ag a,Ag a]
 ·rw[gV a,gV a,az (λe:b=x=>a (e▸h))]
def Cv(H H':Hp):Prop:=∀b o,H b=some o->(∀k,o≠.own k)->H' b=some o
theorem Cv.refl(H:Hp):Cv H H:=λ_ _ e _=>e
theorem Cv.trans{c:Hp}(a:Cv H H1)(b:Cv H1 c):Cv H c:=λc o e n=>b c o (a c o e n) n
theorem _root_.L2.av.cv(s:av H H'):Cv H H':=λb o e _=>s b o e
def soft:HO->Prop
 | .lst _=>True
 | .dK _=>True
 |_=>False
def Fr(Z:Addr->Prop)(H H':Hp):Prop:=∀b o,H b=some o->(Z b->¬soft o)->H' b=some o
theorem Fr.refl:Fr Z H H:=λ_ _ e _=>e
theorem Fr.trans{c:Hp}(a:Fr Z H H1)(b:Fr Z H1 c):Fr Z H c:=λc o e n=>b c o (a c o e n) n
theorem _root_.L2.av.fr(s:av H H'):Fr Z H H':=λb o e _=>s b o e
theorem Fr.at(a:Fr Z H H'){b:Addr}{o:HO}(e:H b=some o)(h:¬Z b):H' b=some o:=a b o e λz=>absurd z h
theorem Fr.lV(a:Fr Z H H'){b:Addr}{o:HO}(e:H b=some o)(h:¬soft o):H' b=some o:=a b o e λ_=>h
theorem Fr.upd(a:Fr Z H H1){x:Addr}{o u:HO}(h:Z x)(d:H1 x=some u)(f:soft u):Fr Z H (upd H1 x o):=λc v e n=>by
 by_cases z:c=x
 ·subst z;have b:=a c v e n;rw[d] at b
  cases b;exact absurd f (n h)
 ·rw[az z];calc a c v e n
theorem Fr.new(a:Fr Z H H1){x:Addr}{o:HO}(h:H1 x=none):Fr Z H (L2.upd H1 x o):=a.trans (av.new o h).fr
theorem Fr.mono{c:Addr->Prop}(a:Fr Z H H1)(h:∀b,Z b->c b):Fr c H H1:=λc o e n=>a c o e λz=>n (h c z)
theorem Fr.aV(h:Fr Z H H'):bS H H':=λb a e=>h b _ e λ_=>id
theorem Fr.jR(h:Fr Z H H'):Cv (jR Z H) (jR Z H'):=λb o e n=>by
 obtain⟨a,b⟩:=dS e n;rw[gV a];calc h.at b a
theorem Fr.free{Z:Addr->Prop}{H H':Hp}(h:Fr Z H H')(a:∀b,Z b->H' b≠none){b:Addr}(e:H' b=none):H b=none:=by
 cases c:H b with
 |none=>rfl
 |some o=>
  by_cases z:Z b
  ·exact absurd e (a b z)
  ·rw[h.at c z]at e;cases e
theorem fC:Cv (jR Z H) H:=λb o e n=>(dS e n).2
theorem Cv.aV(h:Cv H H'):bS H H':=λb a e=>h b _ e (λk z=>by cases z)
theorem _root_.L2.HD.cv{H H':Hp}(s:Cv H H'){n:Nat}{x:V}{d:DV}(h:HD H n x d):HD H' n x d:=by
 induction h with
 |bM=>calc .bM
 |bl b=>calc .bl b
 |int i=>calc .int i
 |str x=>calc .str x
 |tup e l i a=>calc .tup (s _ _ e (λk z=>by cases z)) l a
 |lst e l i a=>calc .lst (s _ _ e (λk z=>by cases z)) l a
 |dict e=>calc .dict (s _ _ e (λk z=>by cases z))
def dM(H:Hp)(n:Nat)(vs:List V)(a:List DV):Prop:=vs.length=a.length/\∀(i:Nat) v d,vs[i]?=some v->a[i]?=some d->HD H n v d
theorem dM.cv(s:Cv H H'){n:Nat}{vs:List V}{a:List DV}(h:dM H n vs a):dM H' n vs a:=⟨h.1,λi v d a b=>(h.2 i v d a b).cv s⟩
theorem dM.nil{n:Nat}:dM H n [] []:=⟨rfl,λi v d a=>by simp at a⟩
theorem dM.mono{n m:Nat}{a:List DV}(h:dM H n vs a)(c:n<=m):dM H m vs a:=⟨h.1,λi v d a b=>(h.2 i v d a b).mono c⟩
theorem dM.app{n:Nat}{us:List V}{a b:List DV}(h:dM H n vs a)(g:dM H n us b):dM H n (vs++us) (a++b):=by
 calc⟨by simp[h.1,g.1],λi v d a b=>?_⟩;by_cases c:i<vs.length
 ·rw[List.getElem?_append_left c]at a;rw[List.getElem?_append_left (by rw[<-h.1];calc c)]at b;exact h.2 i _ _ a b
 ·rw[List.getElem?_append_right (by lia)]at a;rw[List.getElem?_append_right (by rw[<-h.1];lia),<-h.1]at b;calc g.2 _ _ _ a b
theorem dM.one{H:Hp}{n:Nat}{v:V}{d:DV}(h:HD H n v d):dM H n [v] [d]:=by
 refine⟨rfl,λi u e a b=>?_⟩
 cases i with
 |zero=>simp at a b;subst a b;calc h
 |succ i=>simp at a
theorem dM.set{n:Nat}{c:List DV}{v:V}{d:DV}(h:dM H n vs c)(g:HD H n v d)(k:Nat):dM H n (vs.set k v) (c.set k d):=by
 calc⟨by simp[h.1],λi u e a b=>?_⟩;rw[List.getElem?_set]at a b;by_cases f:k=i
 ·rw[if_pos f] at a b;split at a
  ·rw[if_pos (by rw[<-h.1];assumption)]at b;cases a;cases b;exact g
  ·cases a
 ·rw[if_neg f]at a b;calc h.2 i u e a b
theorem dM.ints{H:Hp}{n:Nat}(c:List Int):dM H n (c.map V.int) (c.map DV.int):=by
 calc⟨by simp,λi v d a b=>?_⟩;rw[List.getElem?_map]at a b
 cases e:c[i]? with
 |none=>rw[e]at a;cases a
 |some z=>rw[e]at a b;cases a;cases b;calc .int z
theorem dM.mB{n:Nat}{a:List Int}(h:dM H n vs (a.map DV.int)):vs=a.map V.int:=by
 apply List.ext_getElem (by simpa using h.1);intro j d b;have c:j<a.length:=by simpa using b
 have:=h.2 j vs[j] (.int a[j]) (by simp) (by simp[c]);simp only[List.getElem_map];generalize vs[j]=y at this
 cases this;rfl
theorem dM.get{n:Nat}{a:List DV}(h:dM H n vs a){i:Nat}{d:DV}(e:a[i]?=some d):∃v,vs[i]?=some v/\HD H n v d:=by
 have b:i<a.length:=(List.getElem?_eq_some_iff.mp e).1;have a:i<vs.length:=by rw[h.1];exact b
 calc⟨vs[i],by simp,h.2 i _ _ (by simp) e⟩
inductive CO where
 |l (ds:List DV)|d (g:Int->Option DV) (n:Nat)
def OR(H:Hp):CO->HO->Prop
 | .l a,.lst vs=>dM H 4 vs a
 | .d g n,.dK a=>a.length<=n/\∀k:Int,match g k with
  |none=>gT a (Sum.inl k)=none
  |some d=>∃v,gT a (Sum.inl k)=some v/\HD H 4 v d
 |_,_=>False
theorem OR.cv{H H':Hp}(s:Cv H H'){c:CO}{o:HO}(h:OR H c o):OR H' c o:=by
 cases c with
 |l a=>
  cases o with
  |lst vs=>calc dM.cv s h
  |_=>calc aak h
 |d g n=>
  cases o with
  |dK a=>
   calc⟨h.1,λk=>?_⟩;have:=h.2 k;revert this
   cases g k with
   |none=>calc id
   |some d=>calc λ⟨v,e,a⟩=>⟨v,e,a.cv s⟩
  |_=>calc aak h
def FP(n:Nat->Nat)(ad:Nat->Nat->Addr)(b:Addr):Prop:=∃t i,i<n t/\b=ad t i
structure ee(F:Addr->Prop)(H:Hp)(n:Nat->Nat)(ad:Nat->Nat->Addr)(ct:Nat->Nat->CO):Prop where
 inj:∀t i t' i',i<n t->i'<n t'->ad t i=ad t' i'->t=t'/\i=i'
 out:∀t i,i<n t->¬F (ad t i)
 EO:∀t i,i<n t->∃o,H (ad t i)=some o/\OR (jR (λb=>F b\/FP n ad b) H) (ct t i) o
def setC(ct:Nat->Nat->CO)(t i:Nat)(c:CO):Nat->Nat->CO:=λt' a=>if t'=t/\a=i then c else ct t' a
section
variable {F:Addr->Prop}{H H':Hp}{n:Nat->Nat}{ad:Nat->Nat->Addr}{ct ct':Nat->Nat->CO}
theorem ee.keep(h:ee F H n ad ct)(a:Fr F H H'):ee F H' n ad ct:=
 ⟨h.inj,h.out,λt i c=>by
  obtain⟨o,e,r⟩:=h.EO t i c;calc⟨o,a.at e (h.out t i c),r.cv (a.mono λb z=>.inl z).jR⟩⟩
theorem ee.same(h:ee F H n ad ct)(s:av H H'):ee F H' n ad ct:=h.keep s.fr
theorem ee.congr(h:ee F H n ad ct)(e:∀t i,i<n t->ct t i=ct' t i):ee F H n ad ct':=
 ⟨h.inj,h.out,λt i a=>by rw[<-e t i a];calc h.EO t i a⟩
theorem ee.upd(h:ee F H n ad ct){t i:Nat}(a:i<n t){c:CO}{o:HO}(r:OR (jR (λb=>F b\/FP n ad b) H) c o):ee F (upd H (ad t i) o) n ad (setC ct t i c):=by
 have c:(λb=>F b\/FP n ad b) (ad t i):=.inr ⟨t,i,a,rfl⟩;calc⟨h.inj,h.out,λd f g=>?_⟩;rw[Lr c];by_cases e:d=t/\f=i
 ·obtain⟨rfl,rfl⟩:=e;exact⟨o,af,by unfold setC;rw[if_pos ⟨rfl,rfl⟩];calc r⟩
 ·obtain⟨b,c,i⟩:=h.EO d f g;calc⟨b,?_,by unfold setC;rw[if_neg e];calc i⟩;rw[az (λz=>e (h.inj _ _ _ _ g a z))];calc c
theorem ee.lst(h:ee F H n ad ct){t i:Nat}(c:i<n t){a:List DV}(e:ct t i=.l a):∃vs,H (ad t i)=some (.lst vs)/\dM (jR (λb=>F b\/FP n ad b) H) 4 vs a:=by
 obtain⟨o,d,r⟩:=h.EO t i c;rw[e]at r
 cases o with
 |lst vs=>calc⟨vs,d,r⟩
 |_=>calc r.elim
theorem ee.dct(h:ee F H n ad ct){t i:Nat}(c:i<n t){g:Int->Option DV}{N:Nat}(e:ct t i=.d g N):∃a,H (ad t i)=some (.dK a)/\OR (jR (λb=>F b\/FP n ad b) H) (.d g N) (.dK a):=by
 obtain⟨o,f,r⟩:=h.EO t i c;rw[e]at r
 cases o with
 |dK vs=>calc⟨vs,f,r⟩
 |_=>calc r.elim
theorem ee.app(h:ee F H n ad ct){t i:Nat}(a:i<n t){c:List DV}(e:ct t i=.l c){vs:List V}(j:H (ad t i)=some (.lst vs)){us:List V}{d:List DV}(g:dM (jR (λb=>F b\/FP n ad b) H) 4 us d):
  ee F (L2.upd H (ad t i) (.lst (vs++us))) n ad (setC ct t i (.l (c++d))):=by
 obtain⟨b,f,r⟩:=h.lst a e;rw[j]at f
 cases f;calc h.upd a (show dM _ 4 _ _ from r.app g)
theorem ee.set(h:ee F H n ad ct){t i:Nat}(a:i<n t){c:List DV}(e:ct t i=.l c){vs:List V}(j:H (ad t i)=some (.lst vs)){k:Nat}{v:V}{d:DV}(g:HD (jR (λb=>F b\/FP n ad b) H) 4 v d):
  ee F (L2.upd H (ad t i) (.lst (vs.set k v))) n ad (setC ct t i (.l (c.set k d))):=by
 obtain⟨b,f,r⟩:=h.lst a e;rw[j]at f
 cases f;calc h.upd a (show dM _ 4 _ _ from r.set g k)
theorem OR.soft{c:CO}(h:OR H c o):soft o:=by
 cases c<;>cases o<;>first|trivial|calc aak h
theorem ee.soft(h:ee F H n ad ct){t i:Nat}(a:i<n t):∃o,H (ad t i)=some o/\DD.soft o:=by
 obtain⟨o,e,r⟩:=h.EO t i a;calc⟨o,e,r.soft⟩
theorem ee.fp(h:ee F H n ad ct){b:Addr}(a:FP n ad b):∃o,H b=some o/\DD.soft o:=by
 obtain⟨t,i,c,rfl⟩:=a;calc h.soft c
theorem ee.ne(h:ee F H n ad ct){b:Addr}{o:HO}(e:H b=some o)(c:¬DD.soft o):¬FP n ad b:=λz=>by
 obtain⟨u,a,d⟩:=h.fp z;rw[e]at a;cases a;calc c d
theorem ee.ht(h:ee F H n ad ct)(c:∀b,F b->∃o,H b=some o/\DD.soft o){m:Nat}{x:V}{d:DV}(g:HT H m x d):HD (DD.jR (λb=>F b\/FP n ad b) H) m x d:=by
 calc HT.hd (g.aL λb d e=>?_);rw[gV]
 ·exact e
 ·rintro(z | z)
  ·obtain⟨o,a,f⟩:=c b z;rw[e]at a;cases a;exact f
  ·calc h.ne e id z
end
end DD
namespace DD
open PySem L2
variable {B i:Nat}
def _root_.List.bE{α:Type}(l:List α)(d:α):α:=l.getD (l.length-1) d
theorem getD_at{α:Type}{l:List α}{x d:α}(h:l[i]?=some x):l.getD i d=x:=by rw[List.getD_eq_getElem?_getD,h];rfl
theorem bA{α:Type}{l:List α}{d:α}(h:i<l.length):l[i]?=some (l.getD i d):=by rw[List.getD_eq_getElem?_getD,cP h];rfl
theorem getD_mem{α:Type}{l:List α}{d:α}(h:i<l.length):l.getD i d∈l:=X' (bA h)
theorem si{α:Type}{l:List α}{x d:α}:(l++[x]).bE d=x:=by
 unfold List.bE;calc getD_at (by simp)
theorem ip{α:Type}{l:List α}{d:α}(h:1<=l.length):l.bE d∈l:=getD_mem (by lia)
theorem jS{α:Type}{l:List α}{d:α}(h:1<=l.length):l[l.length-1]?=some (l.bE d):=bA (by lia)
structure MS where
 di:List (List Int×List Int)
 wp:List (List Int)
 hr:List (List Int)
structure WY where
 say:List Int
 snd:List (Option (Int×Int))
 ky:List (Option (Int×Int))
structure RS where
 picks:List (Int×Int)
 mm:Nat->MS
 ww:Nat->WY
structure NT where
 ms:List MD
 ws:List (Int×Int×Str)
def pairD(p:Int×Int):DV:=.tup [.int p.1,.int p.2]
def wd:Option (Int×Int)->DV
 |none=>.bM
 |some p=>pairD p
def mC(s:List Int×List Int):DV:=wY s.1 s.2
def NT.M(n:NT)(m:Nat):Int:=(n.ms.getD m default).M
def NT.nn(n:NT)(m:Nat):Nat:=(n.ms.getD m default).ns.length
def NT.ds(n:NT)(m:Nat):List bD:=(n.ms.getD m default).ds
def NT.w(n:NT)(w:Nat):Int×Int×Str:=n.ws.getD w (0,0,"")
def NT.outs(n:NT)(m:Int):List Nat:=(List.range n.ws.length).filter λi=>decide ((n.w i).1=m)
def NT.ins(n:NT)(m:Int):List Nat:=(List.range n.ws.length).filter λi=>decide ((n.w i).2.1=m)
def NT.goal(n:NT)(w:Nat):Nat:=(n.w w).2.1.toNat
def NT.place(n:NT)(w:Nat):Nat:=(n.ins (n.w w).2.1).idxOf w
def RS.put(r:RS)(w:Nat)(x:Int)(s:Option (Int×Int)):RS:=
 {r with ww:=λk=>if k=w then⟨(r.ww w).say++[x],(r.ww w).snd++[s],(r.ww w).ky++[none]⟩ else r.ww k}
def RS.send(r:RS)(outs:List Nat)(ev:Int×Int):List (Int×Int)->RS
 | []=>r
 |p::a=>(if p.1.toNat<outs.length then r.put (outs.getD p.1.toNat 0) p.2 (some ev) else r).send outs ev a
def NT.work(n:NT)(r:RS)(w k:Nat):WS:=
 oa (n.M (n.goal w)) (n.place w) ((r.ww w).say.getD k 0) (n.ds (n.goal w)) ((r.mm (n.goal w)).di.bE ([],[])).1 ((r.mm (n.goal w)).di.bE ([],[])).2
def NT.ev(n:NT)(r:RS)(w:Nat):Int×Int:=((n.goal w:Nat),((r.mm (n.goal w)).di.length:Nat))
def NT.ij(n:NT)(r:RS)(w k:Nat):List Int:=
 let m:=n.goal w
 let b:=(r.mm m).hr.bE (List.replicate n.ms.length 0)
 let a:=match (r.ww w).snd.getD k none with
  |none=>b
  |some (s,c)=>List.zipWith max b ((r.mm s.toNat).hr.getD (c-1).toNat [])
 a.set m (n.ev r w).2
def RS.step(n:NT)(r:RS)(w k:Nat):RS:=
 let m:=n.goal w
 let res:=n.work r w k
 {picks:=r.picks++[((w:Int),(k:Int))]
  mm:=λi=>if i=m then⟨(r.mm m).di++[(res.ns,res.row)],(r.mm m).wp++[(r.mm m).wp.bE []++res.words],(r.mm m).hr++[n.ij r w k]⟩ else r.mm i
  ww:=λi=>if i=w then {(r.ww w) with ky:=(r.ww w).ky.set k (some (n.ev r w))} else r.ww i}
def RS.pick(n:NT)(r:RS)(w k:Nat):RS:=(r.step n w k).send (n.outs (n.goal w)) (n.ev r w) (n.work r w k).cj
def RS.pf(r:RS):List (Int×Int)->RS
 | []=>r
 |p::a=>(r.put p.1.toNat p.2 none).pf a
def RS.new(n:NT):RS:=⟨[],λm=>⟨[((n.ms.getD m default).ns,(n.ms.getD m default).row)],[[]],[]⟩,λ_=>⟨[],[],[]⟩⟩
def RS.begin(n:NT)(a:List (Int×Int)):RS:=(RS.new n).pf a
def kJ(l:List (Option (Int×Int)))(k:Int):Option DV:=if 0<=k then(l.getD k.toNat none).map pairD else none
def RS.ct(r:RS):Nat->Nat->CO
 |0,_=>.l (r.picks.map pairD)
 |1,m=>.l ((r.mm m).di.map mC)
 |2,m=>.l ((r.mm m).wp.map λw=>.int (w.length:Nat))
 |3,m=>.l (((r.mm m).wp.bE []).map .int)
 |4,w=>.l ((r.ww w).say.map .int)
 |5,w=>.l ((r.ww w).snd.map wd)
 |_,w=>.l ((r.ww w).ky.map wd)
def NT.n(n:NT):Nat->Nat
 |0=>1
 |1=>n.ms.length
 |2=>n.ms.length
 |3=>n.ms.length
 |4=>n.ws.length
 |5=>n.ws.length
 |6=>n.ws.length
 |_=>0
structure NT.Ok(n:NT):Prop where
 UQ:n.ms.length<=5
 ms1:1<=n.ms.length
 Ht:n.ws.length<=10
 good:∀d∈n.ms,d.good
 aar:∀w∈n.ws,0<=w.1/\w.1<n.ms.length/\0<=w.2.1/\w.2.1<n.ms.length/\(w.2.2="row"\/w.2.2="heap")
structure Ls(M:Int)(nn:Nat)(s:List Int×List Int):Prop where
 ln:s.1.length=nn
 bn:∀z∈s.1,0<=z/\z<M
 lr:s.2.length<=12
structure RS.Ok(n:NT)(r:RS):Prop where
 lw:∀m,m<n.ms.length->(r.mm m).di.length=(r.mm m).wp.length
 lh:∀m,m<n.ms.length->(r.mm m).di.length=(r.mm m).hr.length+1
 so:∀m,m<n.ms.length->∀s∈(r.mm m).di,Ls (n.M m) (n.nn m) s
 hl:∀m,m<n.ms.length->∀h∈(r.mm m).hr,h.length=n.ms.length
 ls:∀w,w<n.ws.length->(r.ww w).say.length=(r.ww w).snd.length
 lk:∀w,w<n.ws.length->(r.ww w).say.length=(r.ww w).ky.length
 sd:∀w,w<n.ws.length->∀s c,some (s,c)∈(r.ww w).snd->0<=s/\s<n.ms.length/\1<=c/\c<=(r.mm s.toNat).hr.length
 bp:∀m,m<n.ms.length->(r.mm m).di.length<=r.picks.length+1
 bw:∀m,m<n.ms.length->∀w∈(r.mm m).wp,w.length<=24*r.picks.length
 bs:∀w,w<n.ws.length->(r.ww w).say.length<=20+24*r.picks.length
 R3:∀m,m<n.ms.length->∀u∈(r.mm m).wp,u <+:(r.mm m).wp.bE []
theorem yc{M way said:Int}{n:Int}:∀(f:Nat) (b:List bD) (s:WS),(∀d∈b,d.ok n)->(∀p∈s.cj,0<=p.1)->∀p∈(xV M way said f b s).cj,0<=p.1
 |0,_,s,_,h=>h
 |f+1,[],s,_,h=>h
 |f+1,d::r,s,c,h=>by
  calc yc f _ _ (λe b=>c e (aaE _ (List.mem_of_mem_drop b))) ?_;intro p a;have a:p∈s.cj++bC ((d.vals.map (f6 M way said s.ns s.row)).getD 0 0) d:=a;rcases List.mem_append.mp a with a|a
  ·exact h p a
  ·have g:=c d (aaL ..)
   cases d with
   |send j v=>
    simp only[bC,List.mem_singleton]at a;subst a;calc g.1
   |_=>simp only[bC,List.not_mem_nil]at a
theorem BX{M way said:Int}:∀(f:Nat) (a:List bD) (s:WS),(xV M way said f a s).cj.length<=s.cj.length+a.length/\(xV M way said f a s).words.length<=s.words.length+a.length/\(xV M way said f a s).ns.length=s.ns.length
 |0,_,s=>⟨Nat.le_add_right ..,Nat.le_add_right ..,rfl⟩
 |f+1,[],s=>⟨K' _,K' _,rfl⟩
 |f+1,d::r,s=>by
  obtain⟨a,b,c⟩:=BX (M:=M) (way:=way) (said:=said) f (r.drop (me M way said d s).toNat) (gc M way said d s);have a:(gc M way said d s).cj.length<=s.cj.length+1:=by
   show(s.cj++bC _ d).length<=_
   cases d<;>simp[bC]
  have a:(gc M way said d s).words.length<=s.words.length+1:=by
   show(s.words++aY _ d).length<=_
   cases d<;>simp[aY]
  have a:(gc M way said d s).ns.length=s.ns.length:=bX;have a:(r.drop (me M way said d s).toNat).length<=r.length:=by simp
  refine⟨?_,?_,?_⟩
  ·show(xV M way said f _ _).cj.length<=_;simp only[List.length_cons];lia
  ·show(xV M way said f _ _).words.length<=_;simp only[List.length_cons];lia
  ·show(xV M way said f _ _).ns.length=_;lia
theorem BY{M way said:Int}(c:0<M):∀(f:Nat) (e:List bD) (s:WS),(∀z∈s.ns,0<=z/\z<M)->s.row.length<=12->(∀z∈(xV M way said f e s).ns,0<=z/\z<M)/\(xV M way said f e s).row.length<=12
 |0,_,s,h,g=>⟨h,g⟩
 |f+1,[],s,h,g=>⟨h,g⟩
 |f+1,d::r,s,h,g=>by
  refine BY c f _ _ ?_ ?_
  ·have b:∀y:Int,0<=y % M/\y % M < M:=λy=>⟨aaK _ (by lia),aaG _ c⟩
   have a:∀(j:Nat) (y:Int),(0<=y/\y<M)->∀z∈s.ns.set j y,0<=z/\z<M:=λj y k z l=>by
    rcases List.mem_or_eq_of_mem_set l with c|c
    ·exact h z c
    ·rw[c];exact k
   show ∀z∈c9 M s.ns ((d.vals.map (f6 M way said s.ns s.row)).getD 0 0) d,0<=z/\z<M
   cases d with
   |set i v=>calc a _ _ (b _)
   |add i v=>calc a _ _ (b _)
   |times i v=>calc a _ _ (b _)
   |_=>exact h
  ·show(f7 s.row ((d.vals.map (f6 M way said s.ns s.row)).getD 0 0) d).length<=12
   cases d with
   |put v=>
    simp only[f7];split
    ·simp;lia
    ·calc g
   |drop=>simp only[f7,List.length_tail];lia
   |_=>calc g
section
variable {n:NT}{r:RS}
theorem NT.Ok.gd(h:n.Ok){m:Nat}(a:m<n.ms.length):(n.ms.getD m default).good:=by
 calc h.good _ (getD_mem a)
theorem NT.Ok.wy(h:n.Ok){w:Nat}(a:w<n.ws.length):0<=(n.w w).1/\(n.w w).1<n.ms.length/\0<=(n.w w).2.1/\(n.w w).2.1<n.ms.length/\((n.w w).2.2="row"\/(n.w w).2.2="heap"):=by
 calc h.aar _ (getD_mem a)
theorem NT.Ok.i5(h:n.Ok){w:Nat}(a:w<n.ws.length):n.goal w<n.ms.length:=by
 have:=h.wy a;unfold NT.goal;lia
theorem RS.Ok.we(h:r.Ok n){m:Nat}(a:m<n.ms.length):1<=(r.mm m).di.length:=by rw[h.lh m a];lia
theorem RS.Ok.last(h:r.Ok n){m:Nat}(a:m<n.ms.length):Ls (n.M m) (n.nn m) ((r.mm m).di.bE ([],[])):=h.so m a _ (ip (h.we a))
theorem q8(a:n.Ok)(h:r.Ok n){w:Nat}(c:w<n.ws.length)(k:Nat):Ls (n.M (n.goal w)) (n.nn (n.goal w)) ((n.work r w k).ns,(n.work r w k).row)/\(n.work r w k).cj.length<=24/\(n.work r w k).words.length<=24/\∀p∈(n.work r w k).cj,0<=p.1:=by
 have b:=a.i5 c;have g:=a.gd b;have l:=h.last b;have a:(n.ds (n.goal w)).length<=24:=g.Yl;have b:0<n.M (n.goal w):=by have:=g.m2;show 0<(n.ms.getD (n.goal w) default).M;lia
 obtain⟨d,e,f⟩:=BX (M:=n.M (n.goal w)) (way:=n.place w) (said:=(r.ww w).say.getD k 0) (n.ds (n.goal w)).length (n.ds (n.goal w)) ⟨((r.mm (n.goal w)).di.bE ([],[])).1,((r.mm (n.goal w)).di.bE ([],[])).2,[],[]⟩;obtain⟨h,i⟩:=BY b (way:=n.place w) (said:=(r.ww w).say.getD k 0) (n.ds (n.goal w)).length (n.ds (n.goal w)) ⟨((r.mm (n.goal w)).di.bE ([],[])).1,((r.mm (n.goal w)).di.bE ([],[])).2,[],[]⟩ l.bn l.lr;have c:=yc (M:=n.M (n.goal w)) (way:=n.place w) (said:=(r.ww w).say.getD k 0) (n:=n.nn (n.goal w)) (n.ds (n.goal w)).length (n.ds (n.goal w)) ⟨((r.mm (n.goal w)).di.bE ([],[])).1,((r.mm (n.goal w)).di.bE ([],[])).2,[],[]⟩ g.ok (λp b=>by simp at b);refine⟨⟨?_,h,i⟩,?_,?_,c⟩
 ·exact f.trans l.ln
 ·exact aap d (by simpa using a)
 ·calc aap e (by simpa using a)
structure RS.tx(n:NT)(r:RS)(B:Nat):Prop where
 lw:∀m,m<n.ms.length->(r.mm m).di.length=(r.mm m).wp.length
 lh:∀m,m<n.ms.length->(r.mm m).di.length=(r.mm m).hr.length+1
 so:∀m,m<n.ms.length->∀s∈(r.mm m).di,Ls (n.M m) (n.nn m) s
 hl:∀m,m<n.ms.length->∀h∈(r.mm m).hr,h.length=n.ms.length
 ls:∀w,w<n.ws.length->(r.ww w).say.length=(r.ww w).snd.length
 lk:∀w,w<n.ws.length->(r.ww w).say.length=(r.ww w).ky.length
 sd:∀w,w<n.ws.length->∀s c,some (s,c)∈(r.ww w).snd->0<=s/\s<n.ms.length/\1<=c/\c<=(r.mm s.toNat).hr.length
 bp:∀m,m<n.ms.length->(r.mm m).di.length<=r.picks.length+1
 bw:∀m,m<n.ms.length->∀w∈(r.mm m).wp,w.length<=24*r.picks.length
 bs:∀w,w<n.ws.length->(r.ww w).say.length<=B
 R3:∀m,m<n.ms.length->∀u∈(r.mm m).wp,u <+:(r.mm m).wp.bE []
theorem RS.tx.ok(h:r.tx n B)(a:B<=20+24*r.picks.length):r.Ok n:=⟨h.lw,h.lh,h.so,h.hl,h.ls,h.lk,h.sd,h.bp,h.bw,λw b=>aap (h.bs w b) a,h.R3⟩
theorem RS.tx.put(h:r.tx n B){w:Nat}{x:Int}{s:Option (Int×Int)}(g:∀a c,s=some (a,c)->0<=a/\a<n.ms.length/\1<=c/\c<=(r.mm a.toNat).hr.length):(r.put w x s).tx n (B+1):=by
 have e:∀k,(r.put w x s).ww k=if k=w then⟨(r.ww w).say++[x],(r.ww w).snd++[s],(r.ww w).ky++[none]⟩ else r.ww k:=λk=>rfl
 refine⟨h.lw,h.lh,h.so,h.hl,λv b=>?_,λv b=>?_,λv b a c d=>?_,h.bp,h.bw,λv b=>?_,h.R3⟩
 ·rw[e];split
  ·next z=>subst z;simp[h.ls v b]
  ·exact h.ls v b
 ·rw[e];split
  ·next z=>subst z;simp[h.lk v b]
  ·exact h.lk v b
 ·rw[e] at d;split at d
  ·next z=>
   subst z;rcases List.mem_append.mp d with d|d
   ·exact h.sd v b a c d
   ·simp at d;exact g a c d.symm
  ·exact h.sd v b a c d
 ·rw[e];split
  ·next z=>subst z;have:=h.bs v b;simp;lia
  ·have:=h.bs v b;lia
theorem RS.tx.mono{a:Nat}(h:r.tx n B)(b:B<=a):r.tx n a:={h with bs:=λw a=>aap (h.bs w a) b}
theorem RS.tx.send{outs:List Nat}{ev:Int×Int}:∀(b:List (Int×Int)) {r:RS}{B:Nat},r.tx n B->(∀a c,some ev=some (a,c)->0<=a/\a<n.ms.length/\1<=c/\c<=(r.mm a.toNat).hr.length)->(r.send outs ev b).tx n (B+b.length)
 | [],r,B,h,_=>h
 |p::b,r,B,h,d=>by
  show((if p.1.toNat<outs.length then r.put (outs.getD p.1.toNat 0) p.2 (some ev) else r).send outs ev b).tx n _;have e:B+(p::b).length=B+1+b.length:=by simp;lia
  rw[e];split
  ·exact RS.tx.send b (h.put d) d
  ·calc RS.tx.send b (h.mono (by lia)) d
theorem RS.q9{outs:List Nat}{ev:Int×Int}:∀(a:List (Int×Int)) {r:RS},(r.send outs ev a).mm=r.mm/\(r.send outs ev a).picks=r.picks
 | [],r=>⟨rfl,rfl⟩
 |p::a,r=>by
  show((if p.1.toNat<outs.length then r.put (outs.getD p.1.toNat 0) p.2 (some ev) else r).send outs ev a).mm=_/\((if p.1.toNat<outs.length then r.put (outs.getD p.1.toNat 0) p.2 (some ev) else r).send outs ev a).picks=_;split
  ·exact RS.q9 a
  ·calc RS.q9 a
theorem Ah{u v w:List Int}(h:u <+:v):u <+:v++w:=by
 obtain⟨t,rfl⟩:=h;calc⟨t++w,by simp⟩
theorem yd(o:n.Ok)(h:r.Ok n){w:Nat}(j:w<n.ws.length){k:Nat}:(n.ij r w k).length=n.ms.length:=by
 have p:=o.i5 j;have m:((r.mm (n.goal w)).hr.bE (List.replicate n.ms.length 0)).length=n.ms.length:=by
  by_cases f:1<=(r.mm (n.goal w)).hr.length
  ·exact h.hl _ p _ (ip f)
  ·have e:(r.mm (n.goal w)).hr=[]:=by
    cases q:(r.mm (n.goal w)).hr with
    |nil=>rfl
    |cons a b=>rw[q]at f;simp at f
   rw[e];simp[List.bE]
 unfold NT.ij;simp only[List.length_set];split
 ·exact m
 ·next s c e=>
  have g:k<(r.ww w).snd.length:=by
   by_cases g:k<(r.ww w).snd.length
   ·exact g
   ·rw[List.getD_eq_getElem?_getD,List.getElem?_eq_none (by lia)]at e;cases e
  have t:some (s,c)∈(r.ww w).snd:=by rw[<-e];exact getD_mem g
  obtain⟨u,v,x,y⟩:=h.sd w j s c t;have:=h.hl s.toNat (by lia) _ (getD_mem (l:=(r.mm s.toNat).hr) (i:=(c-1).toNat) (d:=[]) (by lia));rw[List.length_zipWith,m,this];lia
theorem RS.Ok.step(t:n.Ok)(h:r.Ok n){w k:Nat}(p:w<n.ws.length):(r.step n w k).tx n (20+24*r.picks.length):=by
 have g:=t.i5 p;obtain⟨A,F,G,H⟩:=q8 t h p k;have j:∀i,(r.step n w k).mm i=if i=n.goal w then⟨(r.mm (n.goal w)).di++[((n.work r w k).ns,(n.work r w k).row)],(r.mm (n.goal w)).wp++[(r.mm (n.goal w)).wp.bE []++(n.work r w k).words],(r.mm (n.goal w)).hr++[n.ij r w k]⟩ else r.mm i:=λi=>rfl
 have q:∀i,(r.step n w k).ww i=if i=w then {(r.ww w) with ky:=(r.ww w).ky.set k (some (n.ev r w))} else r.ww i:=λi=>rfl
 have x:(r.step n w k).picks.length=r.picks.length+1:=by show(r.picks++[_]).length=_;simp
 refine⟨λm f=>?_,λm f=>?_,λm f s b=>?_,λm f s b=>?_,λv o=>?_,λv o=>?_,λv o a c b=>?_,λm f=>?_,λm f u e=>?_,λv o=>?_,λm f u e=>?_⟩
 ·rw[j];split
  ·simp[h.lw _ g]
  ·exact h.lw m f
 ·rw[j];split
  ·simp[h.lh _ g]
  ·exact h.lh m f
 ·rw[j] at b;split at b
  ·next z=>
   subst z;rcases List.mem_append.mp b with b|b
   ·exact h.so _ g s b
   ·simp at b;subst b;exact A
  ·exact h.so m f s b
 ·rw[j] at b;split at b
  ·rcases List.mem_append.mp b with b | b
   ·exact h.hl _ g s b
   ·simp at b;subst b;exact yd t h p
  ·exact h.hl m f s b
 ·rw[q];split
  ·exact h.ls w p
  ·exact h.ls v o
 ·rw[q];split
  ·simp[h.lk w p]
  ·exact h.lk v o
 ·have B:some (a,c)∈(r.ww v).snd:=by
   rw[q]at b;split at b
   ·next z=>subst z;exact b
   ·exact b
  obtain⟨C,D,E,y⟩:=h.sd v o a c B;calc⟨C,D,E,?_⟩;rw[j];split
  ·next z=>rw[z]at y;simp;lia
  ·exact y
 ·rw[j,x];split
  ·have:=h.bp _ g;simp;lia
  ·have:=h.bp _ f;lia
 ·rw[x];rw[j] at e;split at e
  ·rcases List.mem_append.mp e with e | e
   ·have:=h.bw _ g u e;lia
   ·simp at e;subst e;have:=h.bw _ g _ (ip (l:=(r.mm (n.goal w)).wp) (d:=[]) (by rw[<-h.lw _ g];calc h.we g));simp;lia
  ·have:=h.bw _ f u e;lia
 ·rw[q];split
  ·exact h.bs w p
  ·exact h.bs v o
 ·rw[j] at e ⊢;split at e
  ·next z=>
   rw[if_pos z];show u <+:((r.mm (n.goal w)).wp++[_]).bE [];rw[si];rcases List.mem_append.mp e with e|e
   ·exact Ah (h.R3 _ g u e)
   ·simp at e;subst e;exact List.prefix_refl _
  ·next z=>rw[if_neg z];calc h.R3 m f u e
theorem RS.Ok.pick(a:n.Ok)(h:r.Ok n){w k:Nat}(b:w<n.ws.length):(r.pick n w k).Ok n/\(r.pick n w k).picks=r.picks++[((w:Int),(k:Int))]:=by
 have d:=a.i5 b;obtain⟨c,f,g,i⟩:=q8 a h b k;have s:=RS.tx.send (outs:=n.outs (n.goal w)) (ev:=n.ev r w) (n.work r w k).cj (h.step a b (k:=k)) (λa c e=>by
  cases e;refine⟨by lia,by lia,?_,?_⟩
  ·have:=h.we d;lia
  ·have a:(r.step n w k).mm (n.goal w)=⟨(r.mm (n.goal w)).di++[((n.work r w k).ns,(n.work r w k).row)],(r.mm (n.goal w)).wp++[(r.mm (n.goal w)).wp.bE []++(n.work r w k).words],(r.mm (n.goal w)).hr++[n.ij r w k]⟩:=if_pos rfl;rw[show((n.goal w:Nat):Int).toNat=n.goal w from Int.toNat_natCast _,a,h.lh _ d];simp)
 have a:=(RS.q9 (outs:=n.outs (n.goal w)) (ev:=n.ev r w) (n.work r w k).cj (r:=r.step n w k)).2;calc⟨s.ok ?_,a⟩;rw[a];show _<=20+24*(r.picks++[_]).length;simp;lia
end
end DD
namespace L2
open PySem PyProof.Rows
section
variable {X:Cx}
def isTrue:Value->Bool
 | .bool b=>b
 |_=>false
end
end L2
namespace L2
open PySem PySem.Spec PyProof.Rows Builtin Builtin.Str
section
variable {X:Cx}
theorem ye{i j l:Nat}{x y z:Str}{c d e pos:Pos}{k:Nat}(f:X.calm=true)(a:X.N.Nodup)(g:X.N[i]?=some x)(h:X.N[j]?=some y)(m:X.N[l]?=some z)(n:Loc X.env.scope x)(o:Loc X.env.scope y)(p:Loc X.env.scope z)
  (q:X.fn x=true\/X.env.scope.names.lookup x=some .local:=by grind) (r:X.fn y=true\/X.env.scope.names.lookup y=some .local:=by grind) (b:X.fn z=true\/X.env.scope.names.lookup z=some .local:=by grind):
  PG X (.Tuple [.Name x c,.Name y d,.Name z e] k pos) (Ko X.K 3 (qp (hX i) (qp (hX j) (qp (hX l) Kn)))):=Fp f (kC (ba a g n q) (kC (ba a h o r) (kC (ba a m p b) Bf)))
end
end L2
namespace L2
open PySem PyProof.Rows
theorem lt1{a b:Nat}(h:a+64<b):a+1<b:=by lia
section
variable {X:Cx}
def Ai(z:Int):Value->Bool
 | .int i _=>i==z
 |_=>false
theorem sk:∀{c:List Int}{us:List Value},Vals (c.map V.int) us->us.length=c.length/\∀(i:Nat) u z,us[i]?=some u->c[i]?=some z->∃t,u=.int z t
 | [],_,.nil=>⟨rfl,λi u z h=>by simp at h⟩
 |n::c,_,.cons r t=>by
  obtain⟨l,h⟩:=sk t;refine⟨by simp[l],λi u z a b=>?_⟩
  cases i with
  |zero=>simp at a b;subst a b;calc r
  |succ i=>calc h i u z (by simpa using a) (by simpa using b)
def Lu:V->List V->Hp->VK->Prop:=λx vs H Q=>∃(a:Addr) (b:List Int) (j:Nat) (z:Int),x=.ref a/\vs=[.int z]/\H a=some (.lst (b.map V.int))/\b[j]?=some z/\(∀i y,i<j->b[i]?=some y->y≠z)/\Q (.int j) H
theorem uQ:TR X "list.index" Lu:=by
 intro k s σ H x O v P Q I r D h;obtain⟨a,d,j,z,rfl,rfl,E,l,G,q⟩:=h
 cases r;obtain⟨u,rfl,o,rfl⟩:=D.one;obtain⟨b,r,J,k⟩:=I.list (aU.of E);obtain⟨h,K⟩:=sk r;have h:j<d.length:=(List.getElem?_eq_some_iff.mp l).1;have p:(d.map V.int).length<=sizeLine:=k;rw[List.length_map]at p;obtain⟨⟨r,s,h,L⟩,n,w,A,B,e⟩:=id J;simp only at A B e;subst A B e;have h:j<b.length:=by lia
 have c:∀m (f:m<b.length),∃y t,d[m]?=some y/\b[m]=.int y t:=λm f=>by
  have C:m<d.length:=by lia
  obtain⟨t,e⟩:=K m b[m] d[m] (by simp) (by simp);exact⟨d[m],t,by simp,e⟩
 refine call_meets PySem.F.slot_list_index ⟨_,w,rfl⟩ PySem.F.entry_list_index (PySem.F.args_list_index_2 _ _) (SeqAt.list_indexAt a b.toArray n none L (.int z o) (Ai z) j (by simpa using h) (by rw[sizeLine_eq]at p;lia) ?_ ?_) ⟨w,λy M=>?_,?_⟩
 ·obtain⟨y,t,g,i⟩:=c j h;rw[l] at g
  cases g;simp[i,Ai]
 ·intro m f a;have C:m < b.length:=by simpa using f
  obtain⟨y,t,g,i⟩:=c m C;have:=G m y a g;simp[i,Ai,this]
 ·have N:y ∈ b:=by simpa using M
  obtain⟨m,f,rfl⟩:=List.getElem_of_mem N;obtain⟨y,t,g,i⟩:=c m f;rw[i];exact SeqAt.EqAt.int_int y t z o
 ·calc⟨.int _,H,I.tok _,⟨_,rfl⟩,q⟩
end
end L2
namespace L2
open PySem PySem.Spec PyProof.Rows
section
def UR(K:W.Frag):V->Option Int->Option Int->Hp->VK->Prop:=λx b c H Q=>match x with
 | .ref a=>∃xs,aU K H a xs/\∀p,H p=none->Q (.ref p) (upd H p (.lst (dj xs b c)))
 |_=>False
theorem aat{X:Cx}:TL X (UR X.K):=by
 intro a s σ H x v b c d e f Q I g i j k h
 cases x<;>first
  |calc(show False from h).elim
  |skip
 obtain⟨l,m,q⟩:=h;calc Bu a s σ H _ v b c d e f Q I g i j k ⟨_,l,rfl,m,q⟩
theorem Hu{X:Cx}{e:Expr}{a:TE}{b c:Option Expr}{d f:TO}{pos g:Pos}(h:PE X e a)(i:PO X b d)(j:PO X c f):PE X (.Subscript e (.Slice b c none g) pos) (TM (UR X.K) a d f):=xn aat h i j
theorem BZ{xs:List V}{i j:Nat}:(dj xs (some (i:Int)) (some (j:Int))).length<=j-i:=by
 unfold dj;rw[show HT.eG xs.length 0 (some (i:Int))=min i xs.length from HT.Bp _ _ i,show HT.eG xs.length xs.length (some (j:Int))=min j xs.length from HT.Bp _ _ j,List.length_take];calc aap (Nat.min_le_left _ _) ?_;rcases Nat.le_total xs.length i with h|h
 ·rw[Nat.min_eq_right h,Nat.sub_eq_zero_of_le (Nat.min_le_right _ _)];exact aal _
 ·rw[Nat.min_eq_left h];calc Nat.sub_le_sub_right (Nat.min_le_left _ _) _
theorem B0{xs:List V}{a b:Option Int}{v:V}(h:v∈dj xs a b):v∈xs:=List.mem_of_mem_drop (List.mem_of_mem_take h)
end
section
variable {a dx:Addr}{Q:Bool->Hp->Prop}{X:Cx}{H:Hp}{f:Str}{v:V}{K:W.Frag}
theorem fld{C:Addr}{b:List (Str×V)}{Q:V->Prop}(h:H a=some (.ins C dx b))(c:tw K C)(n:b4 K C f)(l:b.lookup f=some v)(q:Q v):∃e d j g i,V.ref a=.ref e/\H e=some (.ins d j g)/\tw K d/\b4 K d f/\g.lookup f=some i/\Q i:=⟨a,C,dx,b,v,rfl,h,c,n,l,q⟩
theorem mth{C:Addr}{b:List (Str×V)}{Q:Addr->Prop}(h:H a=some (.ins C dx b))(l:b.lookup f=none)(q:Q a):∃c e d,V.ref a=.ref c/\H c=some (.ins C e d)/\d.lookup f=none/\Q c:=⟨a,dx,b,rfl,h,l,q⟩
theorem fE{C:Addr}{b:List (Str×V)}{Q:V->Prop}(h:H a=some (.ins C dx b))(c:tw K C)(n:b4 K C f)(l:b.lookup f=some v)(q:Q v):∃e d j g i,a=e/\H e=some (.ins d j g)/\tw K d/\b4 K d f/\g.lookup f=some i/\Q i:=⟨a,C,dx,b,v,rfl,h,c,n,l,q⟩
theorem dU{C:Addr}{b:List (Str×V)}{Q:Addr->Prop}(h:H a=some (.ins C dx b))(l:b.lookup f=none)(q:Q a):∃c e d,a=c/\H c=some (.ins C e d)/\d.lookup f=none/\Q c:=⟨a,dx,b,rfl,h,l,q⟩
theorem zo{x y:V}{P:V->V->Prop}(h:bI K H a [x,y])(q:P x y):∃b xs,V.ref a=.ref b/\bI K H b xs/\xs.length=2/\∃v r,xs=v::r/\∃c d,r=c::d/\d=[]/\P v c:=⟨a,_,rfl,h,rfl,_,_,rfl,_,_,rfl,rfl,q⟩
theorem un3{x y z:V}{P:V->V->V->Prop}(h:bI K H a [x,y,z])(q:P x y z):∃d xs,V.ref a=.ref d/\bI K H d xs/\xs.length=3/\∃v r,xs=v::r/\∃e f,r=e::f/\∃b c,f=b::c/\c=[]/\P v e b:=⟨a,_,rfl,h,rfl,_,_,rfl,_,_,rfl,_,_,rfl,rfl,q⟩
theorem gW{A B R:Prop}(a:A)(b:B)(r:R):A/\B/\R:=⟨a,b,r⟩
theorem aau{A B C R:Prop}(a:A)(b:B)(ch:C)(r:R):A/\B/\C/\R:=⟨a,b,ch,r⟩
theorem bH{α:Type}{A R:α->Prop}(x:α)(a:A x)(r:R x):∃x,A x/\R x:=⟨x,a,r⟩
theorem ik{α:Type}{A B R:α->Prop}(x:α)(a:A x)(b:B x)(r:R x):∃x,A x/\B x/\R x:=⟨x,a,b,r⟩
theorem Qm{α:Type}{A B C R:α->Prop}(x:α)(a:A x)(b:B x)(ch:C x)(r:R x):∃x,A x/\B x/\C x/\R x:=⟨x,a,b,ch,r⟩
theorem Hv{α β:Type}{A R:α->β->Prop}(x:α)(y:β)(a:A x y)(r:R x y):∃x y,A x y/\R x y:=⟨x,y,a,r⟩
theorem cL{α β:Type}{A B R:α->β->Prop}(x:α)(y:β)(a:A x y)(b:B x y)(r:R x y):∃x y,A x y/\B x y/\R x y:=⟨x,y,a,b,r⟩
theorem tN{α β:Type}{A B C R:α->β->Prop}(x:α)(y:β)(a:A x y)(b:B x y)(ch:C x y)(r:R x y):∃x y,A x y/\B x y/\C x y/\R x y:=⟨x,y,a,b,ch,r⟩
theorem mD{α β:Type}{A B C D R:α->β->Prop}(x:α)(y:β)(a:A x y)(b:B x y)(ch:C x y)(c:D x y)(r:R x y):∃x y,A x y/\B x y/\C x y/\D x y/\R x y:=⟨x,y,a,b,ch,c,r⟩
theorem aav{α β γ:Type}{A B R:α->β->γ->Prop}(x:α)(y:β)(z:γ)(a:A x y z)(b:B x y z)(r:R x y z):∃x y z,A x y z/\B x y z/\R x y z:=⟨x,y,z,a,b,r⟩
theorem US{α β γ:Type}{A B C R:α->β->γ->Prop}(x:α)(y:β)(z:γ)(a:A x y z)(b:B x y z)(ch:C x y z)(r:R x y z):∃x y z,A x y z/\B x y z/\C x y z/\R x y z:=⟨x,y,z,a,b,ch,r⟩
theorem UT{α β γ:Type}{A B C D R:α->β->γ->Prop}(x:α)(y:β)(z:γ)(a:A x y z)(b:B x y z)(ch:C x y z)(c:D x y z)(r:R x y z):∃x y z,A x y z/\B x y z/\C x y z/\D x y z/\R x y z:=⟨x,y,z,a,b,ch,c,r⟩
theorem fS{α β γ δ:Type}{A B R:α->β->γ->δ->Prop}(x:α)(y:β)(z:γ)(u:δ)(a:A x y z u)(b:B x y z u)(r:R x y z u):∃x y z u,A x y z u/\B x y z u/\R x y z u:=⟨x,y,z,u,a,b,r⟩
theorem aaw{α β γ δ:Type}{A B C R:α->β->γ->δ->Prop}(x:α)(y:β)(z:γ)(u:δ)(a:A x y z u)(b:B x y z u)(ch:C x y z u)(r:R x y z u):∃x y z u,A x y z u/\B x y z u/\C x y z u/\R x y z u:=⟨x,y,z,u,a,b,ch,r⟩
theorem UU{α β γ δ:Type}{A B C D R:α->β->γ->δ->Prop}(x:α)(y:β)(z:γ)(u:δ)(a:A x y z u)(b:B x y z u)(ch:C x y z u)(c:D x y z u)(r:R x y z u):∃x y z u,A x y z u/\B x y z u/\C x y z u/\D x y z u/\R x y z u:=⟨x,y,z,u,a,b,ch,c,r⟩
theorem qJ{α β γ δ:Type}{A B C D E R:α->β->γ->δ->Prop}(x:α)(y:β)(z:γ)(u:δ)(a:A x y z u)(b:B x y z u)(ch:C x y z u)(c:D x y z u)(d:E x y z u)(r:R x y z u):∃x y z u,A x y z u/\B x y z u/\C x y z u/\D x y z u/\E x y z u/\R x y z u:=⟨x,y,z,u,a,b,ch,c,d,r⟩
theorem aax{α β γ δ:Type}{A B C D E F R:α->β->γ->δ->Prop}(x:α)(y:β)(z:γ)(u:δ)(a:A x y z u)(b:B x y z u)(ch:C x y z u)(c:D x y z u)(d:E x y z u)(e:F x y z u)(r:R x y z u):∃x y z u,A x y z u/\B x y z u/\C x y z u/\D x y z u/\E x y z u/\F x y z u/\R x y z u:=⟨x,y,z,u,a,b,ch,c,d,e,r⟩
theorem UW{α β γ δ ε:Type}{A B C D R:α->β->γ->δ->ε->Prop}(x:α)(y:β)(z:γ)(u:δ)(v:ε)(a:A x y z u v)(b:B x y z u v)(ch:C x y z u v)(c:D x y z u v)(r:R x y z u v):∃x y z u v,A x y z u v/\B x y z u v/\C x y z u v/\D x y z u v/\R x y z u v:=⟨x,y,z,u,v,a,b,ch,c,r⟩
theorem Qn{α β γ δ ε:Type}{A B C D E R:α->β->γ->δ->ε->Prop}(x:α)(y:β)(z:γ)(u:δ)(v:ε)(a:A x y z u v)(b:B x y z u v)(ch:C x y z u v)(c:D x y z u v)(d:E x y z u v)(r:R x y z u v):∃x y z u v,A x y z u v/\B x y z u v/\C x y z u v/\D x y z u v/\E x y z u v/\R x y z u v:=⟨x,y,z,u,v,a,b,ch,c,d,r⟩
theorem UX{α β γ δ ε:Type}{A B C D E F R:α->β->γ->δ->ε->Prop}(x:α)(y:β)(z:γ)(u:δ)(v:ε)(a:A x y z u v)(b:B x y z u v)(ch:C x y z u v)(c:D x y z u v)(d:E x y z u v)(e:F x y z u v)(r:R x y z u v):∃x y z u v,A x y z u v/\B x y z u v/\C x y z u v/\D x y z u v/\E x y z u v/\F x y z u v/\R x y z u v:=⟨x,y,z,u,v,a,b,ch,c,d,e,r⟩
theorem PE.imp{e:Expr}{t u:TE}(h:PE X e t)(i:∀σ H Q,u σ H Q->t σ H Q):PE X e u:=⟨λp s σ H Q I q=>h.out p s σ H Q I (i σ H Q q)⟩
def tV(i:Nat):TE:=λσ H Q=>match σ[i]? with
 |some (some v)=>Q v H
 |_=>False
theorem Qo{i:Nat}(σ:St)(H:Hp)(Q:VK)(h:tV i σ H Q):Ff i σ H Q:=by
 unfold tV at h;split at h
 ·exact⟨_,by assumption,h⟩
 ·calc h.elim
def bB(Q:Bool->Hp->Prop):V->Hp->Prop
 | .bl k,H=>Q k H
 |_,_=>False
theorem Qp{Q:Bool->Hp->Prop}{x:V}{H:Hp}(h:bB Q x H):∃k,x=.bl k/\Q k H:=by
 cases x with
 |bl k=>calc⟨k,rfl,h⟩
 |_=>calc h.elim
theorem UY{k:Bool}:bB Q (.bl k) H=Q k H:=rfl
theorem jT{k:Bool}(h:Q k H):bB Q (.bl k) H:=h
def tT(t:TE):TT:=λσ H Q=>t σ H (bB Q)
theorem UZ:bB Q=λx H=>∃k,x=.bl k/\Q k H:=by
 funext x H;calc propext ⟨Qp,?_⟩;rintro⟨k,rfl,h⟩;calc h
theorem Nb:tT=Bl:=by
 funext t σ H Q;show t σ H (bB Q)=_;rw[UZ];rfl
theorem Qq:tT=tB:=Nb
section
variable {X:Cx}{a b:Expr}{ta tb:TE}{pos:Pos}
theorem aC{c:CmpOp}{r:R2}(d:gS X (compareOp c) r)(e:PE X a ta)(f:PE X b tb)(g:behindInMarks c b=false):PT X (.Compare a [c] [b] pos) (tT (Ks r ta tb)):=by
 rw[Nb];calc Bm d e f g
theorem bo{e:Expr}{t:TE}(h:PE X e t)(b:∀a,PySem.isTrue e X.env a=(do let v <-a;standAt e.pos;holding [v] (truthy v)):=by intro _;rfl):PT X e (tT t):=by
 rw[Qq];calc OH h b
theorem aq(i:Nat){x:Str}{pos:Pos}(a:X.N[i]?=some x:=by rfl)(b:Tj X.env.scope x:=by first|calc Or.inl rfl|calc Or.inr (Or.inl rfl)|calc Or.inr (Or.inr rfl))(c:(x==("__debug__":Str))=false:=by decide)
  (d:(x==("__classdict__":Str))=false:=by decide):PE X (.Name x pos) (tV i):=(Fg a b c d).imp Qo
end
section
variable {K:W.Frag}{H:Hp}{Q:VK}{i j:Int}{s t:Str}{a b:Addr}
def R5(K:W.Frag):R2:=λx y H Q=>match x,y with
 | .int i,.int j=>Q (.bl (decide (i=j))) H
 | .str s,.str t=>Q (.bl (decide (s=t))) H
 |x,y=>Px K x y H Q
def U1(K:W.Frag):R2:=λx y H Q=>match x,y with
 | .int i,.int j=>Q (.bl (!decide (i=j))) H
 | .str s,.str t=>Q (.bl (!decide (s=t))) H
 |x,y=>RX K x y H Q
theorem Hw:R5 K (.int i) (.int j) H Q=Q (.bl (decide (i=j))) H:=rfl
theorem Hx:R5 K (.str s) (.str t) H Q=Q (.bl (decide (s=t))) H:=rfl
theorem Hy:R5 K (.ref a) (.ref b) H Q=((kH K H 20 (.ref a) (.ref b)/\Q (.bl true) H)\/(rM K H a b/\Q (.bl false) H)):=rfl
theorem Hz:U1 K (.int i) (.int j) H Q=Q (.bl (!decide (i=j))) H:=rfl
theorem HA:U1 K (.str s) (.str t) H Q=Q (.bl (!decide (s=t))) H:=rfl
theorem HB:U1 K (.ref a) (.ref b) H Q=((kH K H 20 (.ref a) (.ref b)/\Q (.bl false) H)\/(rM K H a b/\Q (.bl true) H)):=rfl
theorem HC:R5 K=Px K:=by
 funext x y H Q
 cases x<;>cases y<;>first|rfl|calc vS.symm|calc vT.symm
theorem Qr:U1 K=RX K:=by
 funext x y H Q
 cases x<;>cases y<;>first|rfl|calc vU.symm|calc vV.symm
theorem aT(a:X.A.units+64<cLine):gS X (compareOp .Eq) (R5 X.K):=HC▸Ge a
theorem fz(a:X.A.units+64<cLine):gS X (compareOp .NotEq) (U1 X.K):=Qr▸Py a
theorem om(a:X.K=K)(b:X.A.units+64<cLine):gS X (compareOp .Eq) (R5 K):=HC▸La a b
end
theorem HT.bR{n:Nat}{i:Int}(h:HT H n v (.int i)):v=.int i:=by
 cases h;rfl
theorem HT.bN{n:Nat}{s:Str}(h:HT H n v (.str s)):v=.str s:=by
 cases h;rfl
theorem HD.bR{n:Nat}{i:Int}(h:HD H n v (.int i)):v=.int i:=by
 cases h;rfl
theorem HD.bN{n:Nat}{s:Str}(h:HD H n v (.str s)):v=.str s:=by
 cases h;rfl
theorem fo1{α:Type}{P:α->Prop}(x:α)(h:∀g:α->Prop,(∀x,P x->g x)->g x):P x:=h P λ_ h=>h
theorem fo2{α β:Type}{P:α->β->Prop}(x:α)(y:β)(h:∀g:α->β->Prop,(∀x y,P x y->g x y)->g x y):P x y:=h P λ_ _ h=>h
theorem fo3{α β γ:Type}{P:α->β->γ->Prop}(x:α)(y:β)(z:γ)(h:∀g:α->β->γ->Prop,(∀x y z,P x y z->g x y z)->g x y z):P x y z:=h P λ_ _ _ h=>h
theorem fo4{α β γ δ:Type}{P:α->β->γ->δ->Prop}(x:α)(y:β)(z:γ)(w:δ)(h:∀g:α->β->γ->δ->Prop,(∀x y z w,P x y z w->g x y z w)->g x y z w):P x y z w:=h P λ_ _ _ _ h=>h
end
end L2
set_option maxHeartbeats 400000
namespace L2
open PySem PySem.Spec PyProof.Rows
section
section
variable {P:Program}{w:World}{K:W.Frag}{mg:Str->Option Value}{base:Heap}
theorem gQ.Li{C:Addr}{m a:Str}{b:Stmt}{N c:List Str}{k:Nat}{sp:Sp}(T:gQ K C m a b c)(S:aE N c (ay b))(d:∀vs H Q E,sp vs H Q E->vs.length=c.length)
  (g:∀(f:Addr) (e:Value) (A:Around) (outer:List Env) (s:Shared) (H:Hp) (vs:List V) (Q:VK) (E:XK),d9 k (A.deeper (envOfC a (ay b) s.heap.objs.size f e))->sp vs H Q E->
   ∃t,qW (jK (wX P w) P w K mg base N a (ay b) f e A outer s H E) (cG b) t/\t {nx:=λ_ a=>Q .bM a,rt:=Q} (start N vs) H):dR P w K mg base C m (k + 1) c sp:=by
 obtain⟨f,a,M,F,b⟩:=T.ex;calc⟨f,a,M,F.Li S d (g f),b⟩
end
section
variable {X:Cx}{o e:Expr}{es:List Expr}{to:TE}{t:TA}{apos p pos:Pos}{C:Addr}{m x:Str}{k j:Nat}{ps:List Str}{sp:Sp}{E:XK}
theorem fF{pl:Sem Bool}(D:dR X.prog X.w X.K X.mg X.base C m k ps sp)(b:Passes (wX X.prog X.w) X E)(c:tw X.K C)(d:d9 j X.A)(g:PE X o to)(h:PA X (e::es) t)(i:k<=j:=by decide)(l:dF e=true:=by rfl)(n:es.all dF=true:=by rfl)
  (p:eval (.Call (.Attribute o m apos) (e::es) [] pos) X.env=(do
   let a <-eval o X.env
   standAt apos.atName
   let (f,first) <-holding [a] (getMethod a m pl)
   callWith pos f first (backTo pos (starEach (e::es) X.env)) (backToKw pos (keywordEach [] X.env))):=by rfl):
  PE X (.Call (.Attribute o m apos) (e::es) [] pos) (qr C m sp [] E to t):=by
 obtain⟨f,q,M,F,a⟩:=D.ex;calc Bo g c M F (d.mono i) a .nil b h (dP l) (ft n) p
theorem PE.any{xe:Value->Shared->Prop}{a:TE}(b:PE X.vC e a){pins:List (Addr×Obj)}{s:Shared}{σ:St}{H:Hp}{Q:VK}(I:Inv X pins σ H s)(h:a σ H Q):
  wpAny (model X.prog X.w) X.A (eval e X.env) (EP X pins σ Q) xe s:=
 aas (b.out pins s σ H Q (I.mj _) h) (λ_ _ ⟨v,a,c,r,q⟩=>⟨v,a,c.fV,r,q⟩) λ_ _ z=>aak z
theorem sm{pl:Sem Bool}(D:dR X.prog X.w X.K X.mg X.base C m k ps sp)(c:tw X.K C)(g:d9 j X.A)(i:PE X.vC o to)(n:PA X.vC (e::es) t)(p:k<=j:=by decide)(v:dF e=true:=by rfl)(y:es.all dF=true:=by rfl)
  (r:eval (.Call (.Attribute o m apos) (e::es) [] pos) X.env=(do
   let b <-eval o X.env
   standAt apos.atName
   let (f,first) <-holding [b] (getMethod b m pl)
   callWith pos f first (backTo pos (starEach (e::es) X.env)) (backToKw pos (keywordEach [] X.env))):=by rfl):
  PEX X (.Call (.Attribute o m apos) (e::es) [] pos) (λE=>qr C m sp [] E to t):=by
 obtain⟨f,b,M,F,z⟩:=D.ex;calc⟨λb s σ H Q E f B I h=>?_⟩;calc W.methodCall_KW (pl:=pl) (cX (i.any I h) λu b G=>?_) r;nofun;obtain⟨x,b,d,J,a,f,h,ex,L,l,q⟩:=G;ac_rfl;subst ex;obtain rfl:u=Value.ref a:=J;calc j2 d L c M l ?_;calc W.callWith_K (first:=[.ref a]) (h₀:=X.base) I.ok.mod.xg M.kp (cX (n.any d q pos) λb i ⟨c,l,f,r,h⟩=>⟨f.ic,?_⟩) (dP v) (ft y);calc Lj (us:=.ref a::b) (vs:=.ref a::c) F (g.mono p) z B f (.cons rfl r) (by have:=h;simp only[List.append_nil]at this;calc this)
end
def U3(K:W.Frag)(B:Addr)(PC:Addr->Prop):Prop:=∀{M:Model} {A:Around} {E:Value->Shared->Prop} {s:Shared} {e C:Addr} {d:Option Addr} {vs:Array Value} {a:Array (Option Value)} {Q:Bool->Shared->Prop},K.In s.heap->PC C->
 s.heap.get? e=some (⟨.ref C,d,.fields vs,a⟩:Obj)->Q true s->wpAny M A (excMatches (.ref e) (.ref B)) Q E s
theorem DP{K:W.Frag}{B:Addr}(a:XBase K B):U3 K B (λC=>iX K C B):=λb c d e=>aaj b c a d e
def Nc (PC:Addr->Prop)(i:Nat)(a:XK->TS)(b:TS):TS:=λD σ H=>a (λe _ f=>∃a C d,e=.ref a/\f a=some (XO a C d false)/\PC C/\
 b {nx:=λb c=>D.nx (b.set i none) c,rt:=D.rt,bk:=λb c=>D.bk (b.set i none) c,ct:=λb c=>D.ct (b.set i none) c} (σ.set i (some (.ref a))) f) D σ H
section
variable {X:Cx}{i:Nat}{B:Addr}{PC:Addr->Prop}{tb:XK->TS}{th:TS}{n x:Str}{st b₀:Stmt}{Nd:List Stmt}{np U4 pos:Pos}
theorem Lv(y:X.stack=X.env::X.outer)(E:X.env.frame=some X.env.locals)(j:X.N.Nodup)(k:X.N[i]?=some n)(g:X.env.scope.names.lookup n=some .local)(F:Gl X x)(G:X.mg x=some (.ref B))(J:U3 X.K B PC)
  (d:Yj X st tb) (L:∀a,qW (X.mw a) (b₀::Nd) th) (M:(x==("__debug__":Str))=false:=by decide):
  PS X (.Try [st] [.ExceptHandler (some (.Name x np)) (some n) (b₀::Nd) U4] [] [] pos) (Nc PC i tb th):=by
 walk_at "xd";refine wpAny_Try_except ?_;refine wpAny_execs_cons (cX (d.out pins s σ H D _ _ (λZ C x r O P=>?_) I h) λf C q=>?_)
 ·obtain⟨a,C0,d0,Q,t,rfl,w,Z,R,o,a',C,d,S,b,U,q⟩:=O.thrown P
  cases S;have l:=w.ok;calc xR (T:=some t) y E w b R (λd z=>by cases z;calc o) λw y t d e _=>?_;rw[Hc b]at t e;calc rY (s:={r with heap:=w}) t d e λW c p=>?_;obtain⟨d,o,Y⟩:=Gz c b;calc wpAny_handleBy_cons (codeAny_handlers_test (j0 (X:=X.mw a) (c.mw a) F G (J (c.mw a).ic U Y ?_) M)) (by intro z;cases z);calc codeAny_handlers_suite_as (rY (X:=X.mw a) (s:={r with heap:=W}) (c.mw a) p e λd b _=>?_);calc jG (X:=X.mw a) b j k (.inl g) (v:=.ref a) (u:=.ref a) rfl (λb c=>?_) (.inr g);calc aas ((L a) pins b _ Q _ c q) (λf d m=>?_) λ_ _ z=>aak z;show wpAny _ X.A (do bindName X.env n .none;unbindBehindTheSuite X.env n U4) _ _ d
  cases f with
  |next=>
   obtain⟨a,b,c,d⟩:=m;calc qY (c.v7 l) j k g λo e=>⟨_,b,e,d⟩
  |brk=>
   obtain⟨a,b,c,d⟩:=m;calc qY (c.v7 l) j k g λo e=>⟨_,b,e,d⟩
  |cont=>
   obtain⟨a,b,c,d⟩:=m;calc qY (c.v7 l) j k g λo e=>⟨_,b,e,d⟩
  |ret u=>
   obtain⟨v,a,b,c,p,d⟩:=m;exact qY (c.v7 l) j k g λo e=>⟨v,_,b,e,p,d⟩
 ·cases f with
  |next=>calc wpAny_execs_nil (wpAny_execs_nil q)
  |ret v=>calc q
  |brk=>calc q
  |cont=>calc q
end
theorem Lw {PC:Addr->Prop}{i:Nat}{e:XK->TS}{g:TS}{D:Ends}{σ:St}{H:Hp}(h:∀j:XK,(∀a C d f,f a=some (XO a C d false)->PC C->
  g {nx:=λb c=>D.nx (b.set i none) c,rt:=D.rt,bk:=λb c=>D.bk (b.set i none) c,ct:=λb c=>D.ct (b.set i none) c} (σ.set i (some (.ref a))) f->j (.ref a) none f)->e j D σ H):Nc PC i e g D σ H:=
 h _ λa C d f e b q=>⟨a,C,d,rfl,e,b,q⟩
end
section
structure Qs(X:Cx)(di:List Stmt)(t:XK->TS):Prop where
 out:∀(pins:List (Addr×Obj)) (s:Shared) (σ:St) (H:Hp) (D:Ends) (E:XK) (xe:Value->Shared->Prop),(∀H1 s1 x s',Inv X pins σ H1 s1->wX X.prog X.w X.stack H1 s1 E x s'->xe x s')->Inv X pins σ H s->t E D σ H->
  wpAny (model X.prog X.w) X.A (execs di X.env) (SP X pins D) xe s
section
variable {X:Cx}{st:Stmt}{t:XK->TS}{pos:Pos}
theorem gR(h:Yj X st t):Qs X [st] t:=by
 calc⟨λa s σ H D E b c I q=>?_⟩;refine wpAny_execs_cons (cX (h.out a s σ H D E b c I q) λf d q=>?_)
 cases f with
 |next=>calc wpAny_execs_nil q
 |ret v=>calc q
 |brk=>calc q
 |cont=>calc q
theorem wg{c:Expr}{a b:List Stmt}{f:TT}{g h:XK->TS}(o:PT X.vC c f)(p:Qs X a g)(q:Qs X b h):Yj X (.If c a b pos) (λE=>zw f (g E) (h E)):=by
 calc⟨λe s σ H D E i j I h=>?_⟩;calc wpAny_If (aas (o.out e s σ H _ (I.mj _) h) (λd k a=>?_) λ_ _ z=>aak z);nofun;obtain⟨l,m,n⟩:=a;ac_rfl
 cases d with
 |true=>calc p.out e k σ l D E i j m.fV n
 |false=>calc q.out e k σ l D E i j m.fV n
end
end
end L2
set_option maxHeartbeats 4000000
namespace L2
open PySem PySem.Spec PyProof.Rows
section
variable {X:Cx}
theorem oo:Passes (wX X.prog X.w) X E0:=λ_ _ _ _ _ _ _ h=>by
 obtain⟨_,_,_,_,_,_,_,_,_,_,_,_,_,_,q⟩:=h;calc q.elim
end
end L2
namespace ER
open PySem L2 DD
def top(i:Nat):Stmt:=PySem.Challenge.pw_cutrestore_k26_states_behind.main.body.getD i (.Pass ⟨0,0,0,0⟩)
structure Tx(K:W.Frag)(mg:Str->Option Value)(C CN CR F:Addr)(FD:List (Str×V)):Prop where
 aR:mg "isinstance"=none
 yf:mg "int"=none
 Aj:mg "bool"=none
 B1:mg "str"=none
 cB:mg "tuple"=none
 e9:mg "list"=none
 cp:mg "len"=none
 ff:mg "range"=none
 U5:mg "min"=none
 Nf:mg "max"=none
 uR:mg "all"=none
 U6:mg "any"=none
 HE:mg "zip"=none
 fb:mg "enumerate"=none
 oq:mg "ValueError"=none
 eA:∃t,mg "MOST_DEEDS"=some (.int 24 t)
 dW:∃t,mg "MOST_MODULUS"=some (.int 1000000000000 t)
 dX:∃t,mg "MOST_NUMBERS"=some (.int 4 t)
 fG:∃t,mg "MOST_ROW"=some (.int 12 t)
 dy:∃t,mg "MOST_MACHINES"=some (.int 5 t)
 fO:∃t,mg "MOST_WAYS"=some (.int 10 t)
 dY:∃t,mg "MOST_LETTERS"=some (.int 20 t)
 eB:∃t,mg "SAID_BOUND"=some (.int 1000000000000000000000000000000000000000000000000000000000000 t)
 cW:tw K C
 uS:mg "Machine"=some (.ref C)
 Ng:b4 K C "own_modulus"
 Qt:b4 K C "own_state"
 Nh:b4 K C "own_deeds"
 DQ:W.findIn K (.ref C) "__class__"=some (some (.builtin "object.__class__"))
 DR:W.mroIn K C (.type "object")=some true
 da:tw K CN
 U7:mg "Net"=some (.ref CN)
 yg:b4 K CN "own_machines"
 yh:b4 K CN "own_ways"
 Ak:b4 K CN "own_letters"
 HF:W.findIn K (.ref CN) "__class__"=some (some (.builtin "object.__class__"))
 HG:W.mroIn K CN (.type "object")=some true
 aS:tw K CR
 U8:mg "Run"=some (.ref CR)
 de:b4 K CR "own_net"
 dG:b4 K CR "picks_done"
 bO:b4 K CR "states_had"
 dC:b4 K CR "words_had"
 cA:b4 K CR "words_said"
 cf:b4 K CR "letters_say"
 fH:b4 K CR "senders"
 dH:b4 K CR "workers"
 HH:W.findIn K (.ref CR) "__class__"=some (some (.builtin "object.__class__"))
 HI:W.mroIn K CR (.type "object")=some true
 eN:W.specialIn K (.builtin "object.__class__") "__get__"=some (some (.builtin "getset_descriptor.__get__"))
 cI:W.takesIn K (.builtin "object.__class__")=some true
 i_k:W.kitOne K (.ref C) (.ref C)=some true
 B2:mg "FORMS"=some (.ref F)
 B3:CD K F FD
 Ni:∀d:bD,∃p,PyProof.Rows.KTD.datumAt d.word FD=some (.ref p)/\∀H,bI K H p (d.tL.map V.str)
theorem sr{H:Hp}{a:Addr}{o b:HO}(c:H a=none):av H (upd (upd H a o) a b):=λb p e=>by
 rw[az (au e c),az (au e c)];calc e
theorem yi{K:W.Frag}{E:XK}{C B:Addr}{z:Str}{D:Ends}{σ:St}{H:Hp}(b:iX K C B)(q:∀a,H a=none->E (.ref a) none (upd (upd H a (XO a C none true)) a (XO a C none false))):Hd K E (tX0 C (xl (tC (.str z)) Dg)) D σ H:=
 ⟨K' _,λa c=>⟨a,C,B,none,rfl,af,b,q a c⟩⟩
end ER
namespace ER
open PySem L2 DD
variable {D a b d m p:Addr}{Z:Addr->Prop}{o:HO}{H H' H0 H1 H2:Hp}{e:Int×Int}{ws:List (Int×Int×Str)}{ls:List (Int×Int)}{as:List Addr}{es:List DV}{ns row:List Int}{gX:List MD}{mv ys:List V}{ad:Nat->Nat->Addr}{r:RS}{σ:St}{f:Str}{dd st tn z:V}{Q:VK}
theorem qx{X:Cx}{c:Scope}{N:List Str}:tI X c N λY=>RV Y [] iZ:=λ_ _ _ _=>KY
section
variable {P:Program}{w:World}{K:W.Frag}{mg:Str->Option Value}{base:Heap}{C CN CR F B:Addr}{c:Nat->Addr}{FD:List (Str×V)}
local macro_rules | `(tactic| walk_at "s") => `(tactic| exact ⟨rfl, rfl, rfl, by decide +kernel, rfl, by decide +kernel, by decide +kernel⟩)
def zqI(s:String):Array Lean.Ident:=(s.splitOn " ").toArray.map (Lean.mkIdent ·.toName)
def zqK:=zqI "tV tT UY Hw Hx Hy Hz HA HB Ff tC Ks Zr rU Bl tB OJ Fj OI Zi Fi OK Zj Fo OL MI CY hX OO uo RT xl Dg O3 O4 xj MQ T5 vO F4 zP Qk UP zB BE BF BG GJ GK GL M7 GN GO BO GQ GR GS GU GV GW BP TM vG FO Kz O1 qr Bn ZI Pd GY GX OP Zl zx id_eq PX GH Pz Fx MK MT o7 MY Gi Gm Gn Gq MZ Gr Gs Gu Gv Gw M0 BH xG iZ vQ uF Ul Gh MW MX L2.start List.map_cons List.map_nil List.cons_append List.nil_append List.replicate List.getElem?_cons_zero List.getElem?_cons_succ List.set_cons_zero List.set_cons_succ"
def zqL:=zqI "Ad Ae vS vT vU vV List.length_cons List.length_nil List.append_nil Option.some.injEq exists_eq_left' exists_eq_left V.int.injEq V.bl.injEq V.str.injEq V.ref.injEq List.cons.injEq and_true true_and Nat.reduceSub Nat.reduceAdd"
local macro_rules | `(tactic| simp_arith only [$xs,*]) => let l:=zqK; `(tactic| simp only [$[$l:ident],*, ↓BQ, ↓xP, ↓rV, ↓uH, ↓rW, $xs,*])
local macro_rules | `(tactic| simp_arith! only [$xs:simpLemma,*]) => let l:=zqK; `(tactic| dsimp only [$[$l:ident],*, ↓BQ, ↓xP, ↓rV, ↓uH, ↓rW, $xs:simpLemma,*])
local macro_rules | `(tactic| walk_at "l0") => `(tactic| simp_arith! only [zw, CW, nS])
local macro_rules | `(tactic| walk_at "l1") => let l:=zqL; `(tactic| simp_arith only [zw, CW, nS, $[$l:ident],*])
local macro_rules | `(tactic| walk_at "l2") => `(tactic| simp_arith! only [zw, CW])
local macro_rules | `(tactic| walk_at "l3") => let l:=zqL; `(tactic| simp_arith only [zw, CW, $[$l:ident],*])
local macro_rules | `(tactic| walk_at "l4") => `(tactic| simp_arith! only [nS])
local macro_rules | `(tactic| walk_at "l5") => let l:=zqL; `(tactic| simp_arith only [nS, $[$l:ident],*])
local macro_rules | `(tactic| walk_at "rd") => `(tactic| first | (walk_at "l0"; try walk_at "l1") | walk_at "l1")
local macro_rules | `(tactic| right) => `(tactic| try walk_at "rd")
local macro_rules | `(tactic| walk_at "rt") => `(tactic| first | (walk_at "l2"; try walk_at "l3") | walk_at "l3")
local macro_rules | `(tactic| walk_at "gj") => `(tactic| first
  |refine eL (by assumption) (by first|rfl|exact aA (j := 0) rfl|exact aA (j := 1) rfl|exact aA (j := 2) rfl|exact aA (j := 3) rfl) ?_
  |refine bu (by assumption) (by first|rfl|exact aA (j := 0) rfl|exact aA (j := 1) rfl|assumption) ?_
  |rw [if_pos (by decide +kernel)]
  | rw [if_neg (by decide +kernel)])
local macro_rules | `(tactic| walk_at "go") => `(tactic| repeat (first|walk_at "rd"|walk_at "gj"))
local macro_rules | `(tactic| walk_at "r0") => `(tactic| first | (walk_at "l4"; try walk_at "l5") | walk_at "l5")
local macro_rules | `(tactic| walk_at "rh") => `(tactic| first | with_reducible refine L2.Ql ?_ | (with_reducible refine L2.cq ?_; intro N hN) | (with_reducible refine L2.oj ?_; intro T U hT hU))
local macro_rules | `(tactic| walk_at "rn") => `(tactic| (refine L2.cw (by assumption) ?_; (repeat walk_at "rh"); try walk_at "r0"))
local macro_rules | `(tactic| walk_at "jd") => `(tactic| first
  |(walk_at "rh"; (repeat walk_at "rh"); (try walk_at "r0"); repeat walk_at "rn")
  |(walk_at "rn"; repeat walk_at "rn")
  | (walk_at "r0"; repeat walk_at "rn"))
local macro_rules | `(tactic| left) => `(tactic| try walk_at "jd")
local macro_rules | `(tactic| walk_at "jt") => `(tactic| first | (walk_at "l2"; try walk_at "l3") | walk_at "l3")
local macro_rules | `(tactic| walk_at "jg") => `(tactic| repeat (first|walk_at "jd"|walk_at "gj"))
theorem yj:qu (ys++[z]).length (-1)=some ys.length:=by
 unfold qu;rw[if_neg (by decide),if_pos (by simp;lia)];congr 1;simp;lia
theorem jM:ia (ys++[z]) (-1)=some z:=by
 unfold ia;rw[yj];simp
theorem HJ{α:Type}{ys:List α}{z y:α}:(ys++[z]).set ys.length y=ys++[y]:=by simp
theorem qU{c:HO}:upd (upd H a o) a c=upd H a c:=by
 funext b;by_cases h:b=a
 ·subst h;rw[af,af]
 ·rw[az h,az h,az h]
def eS(H:Hp)(p:Addr):Prop:=∃xs:List Int,H p=some (.lst (xs.map V.int))/\1<=xs.length
structure Step(p:Addr)(H H':Hp):Prop where
 gp:eS H' p
 rest:∀b o,H b=some o->b≠p->H' b=some o
theorem Step.refl(h:eS H p):Step p H H:=⟨h,λ_ _ e _=>e⟩
theorem Step.trans(a:Step p H H1)(b:Step p H1 H2):Step p H H2:=⟨b.gp,λc o e n=>b.rest c o (a.rest c o e n) n⟩
theorem eS.same(s:av H H')(h:eS H p):eS H' p:=by
 obtain⟨a,e,h⟩:=h;calc⟨a,s _ _ e,h⟩
theorem Step.same(a:Step p H H1)(b:av H1 H2):Step p H H2:=⟨a.gp.same b,λc o e n=>b _ _ (a.rest c o e n)⟩
theorem Step.set(a:Step p H H1)(xs:List Int)(h:1<=xs.length):Step p H (upd H1 p (.lst (xs.map V.int))):=
 ⟨⟨xs,af,h⟩,λc o e n=>by rw[az n];calc a.rest c o e n⟩
theorem Step.new{q:Addr}(a:Step p H H1){o:HO}(b:H1 q=none):Step p H (upd H1 q o):=a.same (av.new o b)
theorem Step.aV(a:Step p H H1)(c:eS H p):bS H H1:=λb d e=>a.rest b _ e λz=>by
 subst z;obtain⟨a,h,_⟩:=c;rw[h]at e;cases e
theorem Step.ne{q:Addr}(c:eS H p)(b:H q=none):q≠p:=λz=>by
 subst z;obtain⟨a,h,_⟩:=c;rw[h]at b;cases b
theorem Step.over(s:av H0 H1)(a:H0 p=none)(st:Step p H1 H2):av H0 H2:=λb o e=>st.rest b o (s b o e) (au e a)
theorem eS.upd{q:Addr}(h:eS H p)(b:p≠q):eS (upd H q o) p:=by
 obtain⟨a,e,h⟩:=h;calc⟨a,by rw[az b];calc e,h⟩
abbrev mE:Stmt:=top 23
def i8:Sp:=λvs H Q _=>∃x t,vs=[x]/\Kd H x t/\Q (.bl (isI x)) H
theorem Al(D:dq K mg "is_whole" "is_whole" mE ["thing"])(T:Tx K mg C CN CR F FD):Def P w K mg base "is_whole" 1 ["thing"] i8:=by
 have sc:aE ["thing"] ["thing"] (ay mE):=by walk_at "s"
 symm
 ·obtain⟨x,t,rfl,a,q⟩:=h;rfl
 ·nofun;obtain⟨x,t,rfl,a,q⟩:=h;ac_rfl;have d:=hr.units;refine⟨_,(ao (aI (jb (bc cS rfl T.aR qA (ag (aq 0) (ag (cN (v:=.ty "int") rfl T.yf XM rfl) aa))) (ja (Fl (bc cS rfl T.aR qA (ag (aq 0) (ag (cN (v:=.ty "bool") rfl T.Aj PyProof.Rows.boot_bool rfl) aa)))))))),?_⟩;walk_at "rd";nofun;obtain⟨b,c,d,e,g⟩:=Qd (K:=K) a;ac_rfl;refine cL t b a.ty d ?_;rw[g] at q
  cases b
  ·rw[if_neg Bool.false_ne_true];exact q
  ·rw[if_pos rfl];calc⟨t,c,a.ty,e,q⟩
abbrev kK:Stmt:=top 24
def cm:Sp:=λvs H Q _=>∃x t a b,vs=[x,.int a,.int b]/\Kd H x t/\Q (.bl (inR a b x)) H
theorem yk(D:dq K mg "is_within" "is_within" kK ["thing","low","beyond"])(T:Tx K mg C CN CR F FD)(j:Def P w K mg base "is_whole" 1 ["thing"] i8):Def P w K mg base "is_within" 2 ["thing","low","beyond"] cm:=by
  have sc:aE ["thing","low","beyond"] ["thing","low","beyond"] (ay kK):=by walk_at "s"
  symm
  · obtain⟨x,t,a,b,rfl,g,q⟩:=h;rfl
  · nofun;obtain⟨x,t,a,b,rfl,g,q⟩:=h;ac_rfl;have k:=hr.units;refine⟨_,(ao (aI (jb (aM j hr (ag (aq 0) aa)) (ja (xk zR gU (aq 1) (aq 0) (aq 2)))))),?_⟩;walk_at "rd";refine cL x t rfl g ?_
    cases g<;>first
      | (rename_i i
         show ∃c,V.bl true=.bl c/\_;calc⟨true,rfl,?_⟩;rw[if_pos rfl];walk_at "rd";by_cases d:a<=i
         · rw[if_pos (by simpa using d)];have e:inR a b (.int i)=decide (i < b):=by simp[inR,d]
           rw[e]at q;exact q
         · rw[if_neg (by simpa using d)];have e:inR a b (.int i)=false:=by simp[inR,d]
           rw[e] at q;calc q)
      | (show ∃c,V.bl false=.bl c/\_
         calc⟨false,rfl,?_⟩;rw[if_neg Bool.false_ne_true];calc q)
abbrev su:Stmt:=top 60
def HK(K:W.Frag):Sp:=λvs H Q _=>∃(a:Addr) (ns:List Int) (k:Int),vs=[.ref a,.int k]/\aU K H a (ns.map V.int)/\0<=k/\∀c,Q (.int c) H
theorem HL(D:dq K mg "_law_at" "_law_at" su ["_law_script","_law_k"])(T:Tx K mg C CN CR F FD):Def P w K mg base "_law_at" 1 ["_law_script","_law_k"] (HK K):=by
 have sc:aE ["_law_script","_law_k"] ["_law_script","_law_k"] (ay su):=by walk_at "s"
 symm
 ·obtain⟨a,ns,k,rfl,b,c,q⟩:=h;rfl
 ·nofun;obtain⟨a,ns,k,rfl,b,c,q⟩:=h;ac_rfl;have e:=hr.units;refine⟨_,(aj (aW (aC gU (aq 1) (bc aP rfl T.cp T' (ag (aq 0) aa)) (aG _)) (ao (aI (ak e (aq 0) (aq 1)))) aJ)
   (ao (aI ai))),?_⟩
  walk_at "rd";refine bH _ (.inl ⟨_,b,rfl⟩) ?_;rw[List.length_map];by_cases d:k<(ns.length:Int)
  ·rw[if_pos (by simpa using d)];obtain⟨n,rfl⟩:=W' c;have e:n < ns.length:=by lia
   exact⟨_,.int ns[n],.inl b,aA (by rw[List.getElem?_map,cP e];rfl),q _⟩
  ·rw[if_neg (by simpa using d)];calc q _
abbrev ph:Stmt:=top 61
def HM:Sp:=λvs H Q _=>∃n:Int,vs=[.int n]/\∀(p:Addr) (xs:List Int),H p=none->1<=xs.length->Q (.ref p) (upd H p (.lst (xs.map V.int)))
theorem DS(D:dq K mg "_law_pot" "_law_pot" ph ["_law_cell"])(T:Tx K mg C CN CR F FD):Def P w K mg base "_law_pot" 1 ["_law_cell"] HM:=by
 have sc:aE ["_law_cell","_law_number","_law_pot_here","_law_k"] ["_law_cell"] (ay ph):=by walk_at "s"
 symm
 ·obtain⟨n,rfl,q⟩:=h;rfl
 ·nofun;obtain⟨n,rfl,q⟩:=h;ac_rfl;have c:=hr.units;refine⟨_,(aj (bb (i:=1) sc.nd rfl (by grind) (aQ cC (aQ cH (aQ eE (aq 0) ai) ai) ai))
   (aj (bb (i:=2) sc.nd rfl (by grind) (bF (ag ai aa)))
   (aj (fm PassesOwn.never rfl (dw rfl T.ff (ag ai aa)) (ba (i:=3) sc.nd rfl (by grind))
   (aj (bb (i:=1) sc.nd rfl (by grind) (aQ cH (aQ cC (aQ cC (aQ lO (aq 1) (aq 1)) (aQ lO ai (aq 1))) (aq 3)) ai))
   (ao (fA (aQ cC (aQ lO (ak c (aq 2) ai) ai) (aq 1)) (jc (aq 2) ai eI)))))
   (aj (aW (PW.pt (pw_and (aC (aT c) (aQ cH (aq 0) ai) ai (aG _)) (pw_and1 (aC (fz c) (aQ eE (aq 0) ai) ai (aG _))))) (ao (bV (dA nJ qm qo bW (aq 2) (ag (aQ eE (aq 0) ai) aa)))) aJ)
   (ao (aI (aq 2))))))),?_⟩
  right;have d:F7 n 2:=⟨by decide,by decide⟩
  calc gW d (by decide) ?_;right;calc⟨by show 1<=sizeLine;decide,λp e=>?_⟩;have c:=aaK (n/2) (b:=2147483629) (by decide);have c:=aaG (n/2) (b:=2147483629) (by decide);refine⟨40,rfl,by decide,by decide,jH (n:=40) (λi σ H'=>∃(u a:Int) (z:Option V),0<=u/\u<2147483648/\σ=[some (.int n),some (.int u),some (.ref p),z]/\H'=upd H p (.lst [.int a])) ?_ ?_ ?_⟩
  ·exact⟨_,0,none,by lia,by lia,rfl,rfl⟩
  ·intro i σ H' o k;nofun;obtain⟨u,a,z,g,l,rfl,rfl⟩:=k;ac_rfl;right;calc⟨.inl ⟨by lia,by lia⟩,?_⟩;right;calc gW (.inl ⟨by lia,by lia⟩) (by decide) ?_;right;calc bu af (aA (j:=0) rfl) ?_;right;calc⟨.inr ⟨by decide,by decide⟩,?_⟩;right;calc cL _ 0 af rfl ?_;right;have c:=aaK (u*u+48271*u+(0+(i:Int))) (b:=2147483647) (by decide);have k:=aaG (u*u+48271*u+(0+(i:Int))) (b:=2147483647) (by decide);exact⟨_,_,_,c,by lia,⟨rfl,rfl⟩,qU⟩
  ·intro σ H' m;nofun;obtain⟨u,a,z,g,l,rfl,rfl⟩:=m;ac_rfl;right;calc⟨by decide,?_⟩;right;split
   ·calc⟨d,?_⟩;right;split
    ·calc gW (.inl ⟨rfl,_,aU.of af⟩) d ?_;right;calc ik _ af (aH (by simp)) ?_;right;rw[qU];exact q p [a,n/2] e (by simp)
    ·right;exact q p [a] e (by simp)
   ·right;calc q p [a] e (by simp)
abbrev kL:Stmt:=top 62
def jU:Sp:=λvs H Q _=>∃(p:Addr) (m:Int),vs=[.ref p,.int m]/\eS H p/\0<m/\m.natAbs.log2<9000/\∀d H',0<=d->d<m->Step p H H'->Q (.int d) H'
theorem yl(D:dq K mg "_law_digit" "_law_digit" kL ["_law_pot_here","_law_many"])(T:Tx K mg C CN CR F FD):Def P w K mg base "_law_digit" 1 ["_law_pot_here","_law_many"] jU:=by
 have sc:aE ["_law_pot_here","_law_many","_law_digit_here"] ["_law_pot_here","_law_many"] (ay kL):=by walk_at "s"
 symm
 ·obtain⟨p,m,rfl,k,g,r,q⟩:=h;rfl
 ·nofun;obtain⟨p,m,rfl,k,g,r,q⟩:=h;ac_rfl;have j:=hr.units;refine⟨_,(aj (bb (i:=2) sc.nd rfl (by grind) (aQ cH (ak j (aq 0) (jI gu ai)) (aq 1)))
   (aj (fA (aQ eE (ak j (aq 0) (jI gu ai)) (aq 1)) (jc (aq 0) (jI gu ai) eI))
   (aj (aW (PW.pt (pw_and (aC (aT j) (ak j (aq 0) (jI gu ai)) ai (aG _)) (pw_and1 (aC o8 (bc aP rfl T.cp T' (ag (aq 0) aa)) ai (aG _))))) (ao (bV (Pe nJ PySem.F.slot_list_pop PySem.F.type_list_pop Pg (aq 0)))) aJ)
   (ao (aI (aq 2)))))),?_⟩
  nofun;obtain⟨l,c,t⟩:=id k;obtain⟨ys,z,rfl⟩:∃ys z,l=ys++[z]:=⟨l.dropLast,l.getLast (by intro e;rw[e]at t;simp at t),(List.dropLast_concat_getLast _).symm⟩
  rw[List.map_append]at c
  replace c:H p=some (.lst (ys.map V.int++[.int z])):=c
  ac_rfl;have d:Step p H H:=Step.refl k;right;calc cL _ _ (.inl (aU.of c)) jM ?_;right;calc⟨g,?_⟩;right;calc cL _ _ (.inl (aU.of c)) jM ?_;right;calc⟨⟨g,r⟩,?_⟩;right;calc cL _ _ c yj ?_;rw[HJ];calc cL _ _ (.inl (aU.of af)) jM ?_;have n:=aaK z (b:=m) (by lia);have o:=aaG z g;have u:Step p H (upd H p (.lst (ys.map V.int++[.int (z/m)]))):=by
   have:=d.set (ys++[z/m]) (by simp);rw[List.map_append]at this;exact this
  right;split
  ·calc bH _ (.inl ⟨_,aU.of af,rfl⟩) ?_;right;split
   ·rename_i a;have a:1<=ys.length:=by
     simp at a;lia
    calc⟨.inl ⟨rfl,_,aU.of af⟩,?_⟩;calc⟨p,_,.int (z/m),rfl,rfl,af,by simp,?_⟩;right;rw[List.dropLast_concat,qU];exact q _ _ n o (d.set ys a)
   ·right;exact q _ _ n o u
  ·right;calc q _ _ n o u
theorem Am:Fy 10 60:=⟨by decide,by decide,by decide +kernel⟩
theorem Qu:Fy 10 12:=⟨by decide,by decide,by decide +kernel⟩
theorem Qv:Fz 2 (10^Int.toNat 60):=.inl ⟨by decide +kernel,by decide +kernel⟩
theorem Va:(0:Int)<2*10^Int.toNat 60-1:=by decide +kernel
theorem Vb:(2*10^Int.toNat 60-1:Int).natAbs.log2<9000:=by decide +kernel
theorem Qw:(0:Int)<10^Int.toNat 60:=by decide +kernel
theorem Qx:(10^Int.toNat 60:Int).natAbs.log2<9000:=by decide +kernel
theorem Vc:(0:Int)<10^Int.toNat 12-1:=by decide +kernel
theorem Qy:(10^Int.toNat 12-1:Int).natAbs.log2<9000:=by decide +kernel
theorem dig{m:Int}{E:XK}(a:eS H p)(b:0<m)(c:m.natAbs.log2<9000)(q:∀d H',0<=d->d<m->Step p H H'->Q (.int d) H'):jU [.ref p,.int m] H Q E:=⟨p,m,rfl,a,b,c,q⟩
abbrev mF:Stmt:=top 29
def HQ:Sp:=λvs H Q _=>∃x m n d,vs=[x,.int m]/\HD H n x d/\∀H',av H H'->Q (.bl (DG m d)) H'
theorem Lx{K:W.Frag}{H:Hp}{n:Nat}{x:V}{d:DV}(h:HD H n x d)(a:∀c,d≠.tup c):∃t,gv K H x t/\W.kitOne K t (.type "tuple")=some false:=by
 cases h with
 |bM=>calc⟨_,.bM,rfl⟩
 |bl b=>calc⟨_,.bl b,rfl⟩
 |int i=>calc⟨_,.int i,rfl⟩
 |str x=>calc⟨_,.str x,rfl⟩
 |tup e=>calc absurd rfl (a _)
 |lst e=>calc⟨_,.lst e,rfl⟩
 |dict e=>calc⟨_,.dK e,rfl⟩
theorem Ly{K:W.Frag}{H:Hp}{n:Nat}{x:V}{d:DV}(h:HD H n x d)(a:∀s,d≠.str s):∃t,gv K H x t/\W.kitOne K t (.type "str")=some false:=by
 cases h with
 |bM=>calc⟨_,.bM,rfl⟩
 |bl b=>calc⟨_,.bl b,rfl⟩
 |int i=>calc⟨_,.int i,rfl⟩
 |str x=>calc absurd rfl (a _)
 |tup e=>calc⟨_,.tup e,rfl⟩
 |lst e=>calc⟨_,.lst e,rfl⟩
 |dict e=>calc⟨_,.dK e,rfl⟩
theorem Lz{m:Int}{d:DV}(b:∀a,d≠.tup a):DG m d=false:=by
 cases d with
 |tup a=>calc absurd rfl (b a)
 |_=>rfl
theorem HR{m:Int}{d:DV}{r:List DV}(a:∀s,d≠.str s):DG m (.tup (d::r))=false:=by
 cases d with
 |str s=>calc absurd rfl (a s)
 |_=>rfl
theorem An(D:dq K mg "is_value" "is_value" mF ["thing","many"])(T:Tx K mg C CN CR F FD)(W:Def P w K mg base "is_whole" 1 ["thing"] i8)(X:Def P w K mg base "is_within" 2 ["thing","low","beyond"] cm):Def P w K mg base "is_value" 3 ["thing","many"] HQ:=by
 have sc:aE ["thing","many","word"] ["thing","many"] (ay mF):=by walk_at "s"
 symm
 ·obtain⟨x,m,n,d,rfl,L,q⟩:=h;rfl
 ·nofun;obtain⟨x,m,n,d,rfl,L,q⟩:=h;ac_rfl;have k:=hr.units;refine⟨_,(aj (aW (PW.pt (pw_or (bP (bo (bc cS rfl T.aR qA (ag (aq 0) (ag (cN (v:=.ty "tuple") rfl T.cB tq rfl) aa))))) (pw_or (aC (aT k) (bc aP rfl T.cp T' (ag (aq 0) aa)) ai (aG _)) (pw_or1 (bP (bo (bc cS rfl T.aR qA (ag (ak k (aq 0) ai) (ag (cN (v:=.ty "str") rfl T.B1 PyProof.Rows.boot_str rfl) aa))))))))) (ao (aI gP)) aJ)
   (aj (bb (i:=2) sc.nd rfl (by grind) (ak k (aq 0) ai))
   (aj (aW (aC Gg (aq 2) (bQ (ag aD (ag aD (ag aD aa)))) (by with_unfolding_all rfl)) (ao (aI (ie (aT k) (bc aP rfl T.cp T' (ag (aq 0) aa)) ai (aG _)))) aJ)
   (aj (aW (aC (fz k) (bc aP rfl T.cp T' (ag (aq 0) aa)) ai (aG _)) (ao (aI gP)) aJ)
   (aj (aW (aC (aT k) (aq 2) aD (aG _)) (ao (aI (aM W hr (ag (ak k (aq 0) ai) aa)))) aJ)
   (ao (aI (jb (ie (aT k) (aq 2) aD (aG _)) (ja (aM X hr (ag (ak k (aq 0) ai) (ag ai (ag (aq 1) aa))))))))))))),?_⟩
  walk_at "rd";by_cases k:∀l,d≠.tup l
  ·obtain⟨t,o,M⟩:=Lx (K:=K) L k;calc cL t false o M ?_;rw[Lz k]at q;exact q H (av.refl H)
  ·have:∃l,d=.tup l:=Classical.byContradiction λz=>k λl e=>z ⟨l,e⟩;obtain⟨l,rfl⟩:=this
   cases L with
   | @tup n a Y _ B N S=>
    refine⟨.type "tuple",true,.tup B,rfl,?_⟩;simp only[Bool.not_true,Bool.false_eq_true,if_false];refine bH _ (.inr ⟨_,bI.of B,rfl⟩) ?_;right;rcases l with _|⟨O,b⟩<;>rcases Y with _|⟨Z,G⟩
    ·exact q H (av.refl H)
    ·cases N
    ·cases N
    ·skip
     rw[if_neg (by simp;lia)];calc cL _ _ (.inr (bI.of B)) (aA (j:=0) rfl) ?_;have U:=S 0 Z O rfl rfl;by_cases k:∀s,O≠.str s
     ·obtain⟨t,o,M⟩:=Ly (K:=K) U k;calc cL t false o M ?_;rw[HR k]at q;exact q H (av.refl H)
     ·have:∃s,O=.str s:=Classical.byContradiction λz=>k λl e=>z ⟨l,e⟩;nofun;obtain⟨g,rfl⟩:=this;obtain rfl:=U.bN;ac_rfl;refine⟨.type "str",true,.str _,rfl,?_⟩;simp only[Bool.not_true,Bool.false_eq_true,if_false];refine cL _ _ (.inr (bI.of B)) (aA (j:=0) rfl) ?_;right;refine⟨by decide,λp k=>?_⟩;have r:av H (upd H p (.tup [.str "letter",.str "way",.str "first"])):=av.new _ k;have I:=r _ _ B;refine Qm _ (.inr (bI.of af)) rfl rfl ?_;right;have u:G.length=b.length:=by simpa using N
      by_cases J:Bv (.str g) rZ=true
      ·have R:DG m (.tup (.str g::b))=decide (b.length=0):=by
        show(if Bv (.str g) rZ=true then decide (b.length=0) else _)=_;rw[if_pos J]
       rw[if_pos (show Bv (.str g) [.str "letter",.str "way",.str "first"]=true from J)];refine bH _ (.inr ⟨_,bI.of I,rfl⟩) ?_;right;have e:decide (((G.length+1:Nat):Int)=1)=decide (b.length=0):=by
        rw[u];by_cases z:b.length=0
        ·rw[decide_eq_true z,decide_eq_true (by lia)]
        ·rw[decide_eq_false z,decide_eq_false (by lia)]
       rw[R]at q;have c:=q _ r;rw[<-e]at c;exact c
      ·have R:DG m (.tup (.str g::b))=Ll g m b:=by
        show(if Bv (.str g) rZ=true then decide (b.length=0) else _)=_;rw[if_neg J]
       rw[if_neg (show ¬Bv (.str g) [.str "letter",.str "way",.str "first"]=true from J)];refine bH _ (.inr ⟨_,bI.of I,rfl⟩) ?_;right;rw[R]at q;rcases b with _|⟨z,_|⟨z',b⟩⟩<;>rcases G with _|⟨y,_|⟨k,G⟩⟩
       ·rw[if_pos (by simp)];exact q _ r
       ·cases u
       ·cases u
       ·cases u
       ·skip
        rw[if_neg (by simp)];have o:=(S 1 y z rfl rfl).same r;obtain⟨t,l⟩:=UK o;by_cases b:g="is"
        ·rw[if_pos (by simpa using b)];calc⟨_,_,.inr (bI.of I),rfl,y,t,rfl,l,?_⟩;have c:=q _ r;simp only[Ll,if_pos b]at c;rw[Qf o];exact c
        ·rw[if_neg (by simpa using b)];have c:=q _ r;simp only[Ll,if_neg b] at c;by_cases k:g="number"
         ·rw[if_pos (by simpa using k)];calc⟨_,_,.inr (bI.of I),rfl,y,t,0,m,rfl,l,?_⟩;rw[decide_eq_true k,Bool.true_and]at c;rw[Qg o];exact c
         ·rw[if_neg (by simpa using k)];rw[decide_eq_false k,Bool.false_and]at c;exact c
       ·simp at u
       ·cases u
       ·simp at u
       ·rw[if_pos (by simp;lia)];calc q _ r
abbrev pk:Stmt:=top 25
def mG:Sp:=λvs H Q _=>∃(a:Addr) (xs:List V) (b c:Int),vs=[.ref a,.int b,.int c]/\(H a=some (.lst xs)\/H a=some (.tup xs))/\∀H',av H H'->Q (.bl (decide (b<=(xs.length:Int))&&decide ((xs.length:Int)<=c))) H'
theorem DT(D:dq K mg "is_list" "is_list" pk ["things","least","most"])(T:Tx K mg C CN CR F FD):Def P w K mg base "is_list" 1 ["things","least","most"] mG:=by
 have sc:aE ["things","least","most"] ["things","least","most"] (ay pk):=by walk_at "s"
 symm
 ·obtain⟨a,d,g,i,rfl,b,q⟩:=h;rfl
 ·nofun;obtain⟨a,d,g,i,rfl,b,q⟩:=h;ac_rfl;have i:=hr.units;refine⟨_,(ao (aI (jb (bc cS rfl T.aR qA (ag (aq 0) (ag (bQ (ag (cN (v:=.ty "list") rfl T.e9 ze rfl) (ag (cN (v:=.ty "tuple") rfl T.cB tq rfl) aa))) aa))) (ja (xk zR zR (aq 1) (bc aP rfl T.cp T' (ag (aq 0) aa)) (aq 2)))))),?_⟩;right;refine⟨du,λp i=>?_⟩;have c:av H (upd H p (.tup [.ty "list",.ty "tuple"])):=av.new _ i;have e:∃t,gv K (upd H p (.tup [.ty "list",.ty "tuple"])) (.ref a) t/\W.kitAny K t [.type "list",.type "tuple"]=some true/\FC K (.ref a) (upd H p (.tup [.ty "list",.ty "tuple"])) d.length:=by
   rcases b with b|b
   ·exact⟨_,.lst (c _ _ b),rfl,.inl ⟨_,aU.of (c _ _ b),rfl⟩⟩
   ·exact⟨_,.tup (c _ _ b),rfl,.inr ⟨_,bI.of (c _ _ b),rfl⟩⟩
  obtain⟨t,i,j,k⟩:=e;calc UU t true _ _ i af rfl j ?_;rw[if_pos rfl];calc bH _ k ?_;have b:=q _ c;by_cases h:g<=(d.length:Int)
  ·rw[if_pos (by simpa using h)];rw[decide_eq_true h,Bool.true_and]at b;exact b
  ·rw[if_neg (by simpa using h)];rw[decide_eq_false h,Bool.false_and]at b;calc b
abbrev pq:Stmt:=top 35
def B4(K:W.Frag):Sp:=λvs H Q _=>∃d:bD,vs=[.str d.word]/\∀p,bI K H p (d.tL.map V.str)->Q (.ref p) H
theorem DU(D:dq K mg "form_of" "form_of" pq ["word"])(T:Tx K mg C CN CR F FD):Def P w K mg base "form_of" 1 ["word"] (B4 K):=by
 have sc:aE ["word"] ["word"] (ay pq):=by walk_at "s"
 symm
 ·obtain⟨d,rfl,q⟩:=h;rfl
 ·nofun;obtain⟨d,rfl,q⟩:=h;ac_rfl;have a:=hr.units;calc⟨_,(ao (aI (K9 T.B3 rfl T.B2 (ag (aq 0) aa)))),?_⟩;obtain⟨p,a,b⟩:=T.Ni d;show Q ((PyProof.Rows.KTD.datumAt d.word FD).getD .bM) H;rw[a];calc q p (b H)
abbrev pw:Stmt:=top 36
inductive j6(H:Hp)(m:Int):V->Str->Prop
 |value {n x v}:HT H n x (Val.dv v)->v.ok m->j6 H m x "value"
 |number {i}:0<=i->i<m->j6 H m (.int i) "number"
 |many {i}:1<=i->i<25->j6 H m (.int i) "many"
 |way {i}:0<=i->j6 H m (.int i) "way"
theorem j6.same{H H':Hp}{m:Int}{x:V}{w:Str}(s:av H H')(h:j6 H m x w):j6 H' m x w:=by
 cases h with
 |value a b=>calc .value (a.aL s.aV) b
 |number a b=>calc .number a b
 |many a b=>calc .many a b
 |way a=>calc .way a
def B5:Sp:=λvs H Q _=>∃x w m,vs=[x,.str w,.int m]/\j6 H m x w/\∀H',av H H'->Q (.bl true) H'
theorem DW(D:dq K mg "is_part" "is_part" pw ["thing","sort","many"])(T:Tx K mg C CN CR F FD)(d:Def P w K mg base "is_value" 3 ["thing","many"] HQ)(g:Def P w K mg base "is_whole" 1 ["thing"] i8)(b:Def P w K mg base "is_within" 2 ["thing","low","beyond"] cm):Def P w K mg base "is_part" 4 ["thing","sort","many"] B5:=by
 have sc:aE ["thing","sort","many"] ["thing","sort","many"] (ay pw):=by walk_at "s"
 symm
 ·obtain⟨x,w,m,rfl,c,q⟩:=h;rfl
 ·nofun;obtain⟨x,w,m,rfl,c,q⟩:=h;ac_rfl;have a:=hr.units;refine⟨_,(aj (aW (aC (aT a) (aq 1) aD (aG _)) (ao (aI (aM d hr (ag (aq 0) (ag (aq 2) aa))))) aJ)
   (aj (aW (aC (aT a) (aq 1) aD (aG _)) (ao (aI (aM b hr (ag (aq 0) (ag ai (ag (aq 2) aa)))))) aJ)
   (aj (aW (aC (aT a) (aq 1) aD (aG _)) (ao (aI (aM b hr (ag (aq 0) (ag ai (ag (aQ cC (fY T.eA rfl) ai) aa)))))) aJ)
   (ao (aI (jb (aM g hr (ag (aq 0) aa)) (ja (ie Pu (aq 0) ai (aG _))))))))),?_⟩
  right
  cases c with
  | @value n x v a b=>
   rw[if_pos (by decide +kernel)];calc fS x m n _ rfl a.hd (λH' s=>?_);rw[Qh b];calc q H' s
  | @number i a b=>
   rw[if_neg (by decide +kernel),if_pos (by decide +kernel)];calc fS (.int i) _ 0 m rfl (.int i) ?_;have e:inR 0 m (.int i)=true:=by simp[inR,a,b]
   rw[e];calc q H (av.refl H)
  | @many i a b=>
   rw[if_neg (by decide +kernel),if_neg (by decide +kernel),if_pos (by decide +kernel)];calc fS (.int i) _ 1 _ rfl (.int i) ?_;have e:inR 1 (24+1) (.int i)=true:=by simp[inR,a];lia
   rw[e];calc q H (av.refl H)
  | @way i a=>
   rw[if_neg (by decide +kernel),if_neg (by decide +kernel),if_neg (by decide +kernel)];calc⟨.int i,_,rfl,.int i,true,rfl,?_⟩;rw[if_pos rfl];have e:decide ((0:Int)<=i)=true:=decide_eq_true a;right;rw[e];calc q H (av.refl H)
abbrev pA:Stmt:=top 37
theorem aaz{x:V}{a:List V}:dj (x::a) (some 1) none=a:=by
 unfold dj;have e:HT.eG (x::a).length 0 (some 1)=1:=by
  show(if (1:Int)<0 then((1:Int)+((x::a).length:Int)).toNat else min (1:Int).toNat (x::a).length)=1;rw[if_neg (by decide)];show min 1 (a.length+1)=1;lia
 rw[e];show List.take ((x::a).length-1) a=a;simp
theorem Ao{H:Hp}{n:Nat}{x:V}{d:bD}{m:Int}(h:HT H n x d.dv)(f:d.ok m):∃a q,x=.ref a/\H a=some (.tup (.str d.word::q))/\q.length=d.tL.length/\∀(i:Nat) p s,q[i]?=some p->d.tL[i]?=some s->j6 H m p s:=by
 cases d with
 |set i v=>
  nofun;obtain⟨a,u,y,z,k,rfl,e,g,l,o⟩:=bY h;obtain rfl:=g.bN;obtain rfl:=l.bR;ac_rfl;refine tN a _ rfl e rfl (λj p s b c=>?_)
  match j,b,c with
  |0,b,c=>cases b;cases c;calc .number f.1 f.2.1
  |1,b,c=>cases b;cases c;calc .value o f.2.2
 |add i v=>
  nofun;obtain⟨a,u,y,z,k,rfl,e,g,l,o⟩:=bY h;obtain rfl:=g.bN;obtain rfl:=l.bR;ac_rfl;refine tN a _ rfl e rfl (λj p s b c=>?_)
  match j,b,c with
  |0,b,c=>cases b;cases c;calc .number f.1 f.2.1
  |1,b,c=>cases b;cases c;calc .value o f.2.2
 |times i v=>
  nofun;obtain⟨a,u,y,z,k,rfl,e,g,l,o⟩:=bY h;obtain rfl:=g.bN;obtain rfl:=l.bR;ac_rfl;refine tN a _ rfl e rfl (λj p s b c=>?_)
  match j,b,c with
  |0,b,c=>cases b;cases c;calc .number f.1 f.2.1
  |1,b,c=>cases b;cases c;calc .value o f.2.2
 |put v=>
  nofun;obtain⟨a,u,y,k,rfl,e,g,l⟩:=cD h;obtain rfl:=g.bN;ac_rfl;refine tN a _ rfl e rfl (λj p s b c=>?_)
  match j,b,c with
  |0,b,c=>cases b;cases c;calc .value l f
 |drop=>
  nofun;obtain⟨a,u,k,rfl,e,g⟩:=gw h;obtain rfl:=g.bN;ac_rfl;calc⟨a,_,rfl,e,rfl,λj p s b c=>by simp at b⟩
 |send j v=>
  nofun;obtain⟨a,u,y,z,k,rfl,e,g,l,o⟩:=bY h;obtain rfl:=g.bN;obtain rfl:=l.bR;ac_rfl;refine tN a _ rfl e rfl (λj p s b c=>?_)
  match j,b,c with
  |0,b,c=>cases b;cases c;calc .way f.1
  |1,b,c=>cases b;cases c;calc .value o f.2
 |say v=>
  nofun;obtain⟨a,u,y,k,rfl,e,g,l⟩:=cD h;obtain rfl:=g.bN;ac_rfl;refine tN a _ rfl e rfl (λj p s b c=>?_)
  match j,b,c with
  |0,b,c=>cases b;cases c;calc .value l f
 |skip v w i=>
  nofun;obtain⟨a,u,y,z,t,k,rfl,e,g,l,o,r⟩:=j3 h;obtain rfl:=g.bN;obtain rfl:=r.bR;ac_rfl;refine tN a _ rfl e rfl (λj p s b c=>?_)
  match j,b,c with
  |0,b,c=>cases b;cases c;calc .value l f.1
  |1,b,c=>cases b;cases c;calc .value o f.2.1
  |2,b,c=>cases b;cases c;calc .many f.2.2.1 f.2.2.2
theorem Ap{d:bD}:d.tL.length<=3:=by cases d<;>simp[bD.tL]
def uT:Sp:=λvs H Q _=>∃x m n d,vs=[x,.int m]/\HT H n x (bD.dv d)/\d.ok m/\∀H',av H H'->Q (.bl true) H'
theorem DX(D:dq K mg "is_deed" "is_deed" pA ["thing","many"])(T:Tx K mg C CN CR F FD)(l:Def P w K mg base "form_of" 1 ["word"] (B4 K))(S:Def P w K mg base "is_part" 4 ["thing","sort","many"] B5):Def P w K mg base "is_deed" 5 ["thing","many"] uT:=by
 have sc:aE ["thing","many","form"] ["thing","many"] (ay pA):=by walk_at "s"
 symm
 ·obtain⟨x,m,n,d,rfl,L,M,q⟩:=h;rfl
 ·nofun;obtain⟨x,m,n,d,rfl,L,M,q⟩:=h;ac_rfl;have k:=hr.units;refine⟨_,(aj (aW (PW.pt (pw_or (bP (bo (bc cS rfl T.aR qA (ag (aq 0) (ag (cN (v:=.ty "tuple") rfl T.cB tq rfl) aa))))) (pw_or (aC (aT k) (bc aP rfl T.cp T' (ag (aq 0) aa)) ai (aG _)) (pw_or1 (bP (bo (bc cS rfl T.aR qA (ag (ak k (aq 0) ai) (ag (cN (v:=.ty "str") rfl T.B1 PyProof.Rows.boot_str rfl) aa))))))))) (ao (aI gP)) aJ)
   (aj (bb (i:=2) sc.nd rfl (by grind) (aM l hr (ag (ak k (aq 0) ai) aa)))
   (aj (aW (PW.pt (pw_or (aC Gf (aq 2) mi (aG _)) (pw_or1 (aC (fz k) (bc aP rfl T.cp T' (ag (aq 0) aa)) (aQ cC (bc aP rfl T.cp T' (ag (aq 2) aa)) ai) (aG _))))) (ao (aI gP)) aJ)
   (ao (aI (bc (jO rfl) rfl T.uR Fb (ag (dO (N':=["part","sort","many"]) (ix:=[none,none,some 1]) (GI rfl T.HE (ag (rS (aq 0) (ig ai) nO) (ag (aq 2) aa))) (λ_ _ _ _=>(nZ (K:=K) rfl (i:=0) (j:=1) rfl (show(["part","sort","many"]:List Str).Nodup by decide +kernel) rfl rfl (by grind) (by grind))) qx (λ_ _ _ _=>(aM S hr (ag (aq 0) (ag (aq 1) (ag (aq 2) aa)))))) aa))))))),?_⟩
  nofun;obtain⟨a,g,rfl,k,l,U⟩:=Ao L M;ac_rfl;have S:=Ap (d:=d);right;calc cL _ true (.tup k) rfl ?_;simp only[Bool.not_true,Bool.false_eq_true,if_false];calc bH _ (.inr ⟨_,bI.of k,rfl⟩) ?_;rw[if_neg (by simp;lia)];calc⟨_,.str d.word,.inr (bI.of k),aA (j:=0) rfl,_,true,.str _,rfl,?_⟩;simp only[Bool.not_true,Bool.false_eq_true,if_false];calc⟨_,.str d.word,.inr (bI.of k),aA (j:=0) rfl,d,rfl,λp L=>?_⟩;right;rw[if_neg Bool.false_ne_true];calc⟨_,.inr ⟨_,bI.of k,rfl⟩,_,.inr ⟨_,L,rfl⟩,?_⟩;rw[if_neg (by simp[l])];calc bT ?_;right;calc .inr ⟨_,k,λM H2 G r=>?_⟩;rw[aaz]at r;have y:=G.R1 L;calc fS false false _ _ (Sq.t r) y (λD N=>?_);refine bz (J:=Yf false false K M p) (n:=g.length) (λi ys H'=>ys=List.replicate i (V.bl true)/\av H2 H') (L' (aH (by lia))) ⟨rfl,av.new _ N⟩ ?_ ?_ ?_ ?_
  ·rintro i ys H' I ⟨_,c⟩;exact⟨g,d.tL.map V.str,g[i],.str (d.tL[i]'(by lia)),Sq.t (c _ _ r),c.R1 y,cP I,by rw[List.getElem?_map,cP (by lia)];rfl⟩
  ·rintro ys H' ⟨_,c⟩;exact⟨g,d.tL.map V.str,Sq.t (c _ _ r),c.R1 y,.inl rfl⟩
  ·intro i ys H' I B O W x H4 X;nofun;obtain⟨rfl,c⟩:=W;obtain⟨T,Y,rfl,Z⟩:=X;obtain⟨u,v,e1,R,rfl⟩:=Z g (d.tL.map V.str) (Sq.t (c _ _ r)) (c.R1 y);rw[List.getElem?_map]at R;obtain⟨z,ez,rfl⟩:=Option.map_eq_some_iff.mp R;ac_rfl;have k:av H' (upd H' T (.tup [u,.str z])):=av.new _ Y;calc zo (bI.of af) ⟨Ext.set (Ext.set (Ext.refl _) rfl) rfl,?_⟩;right;rw[if_pos trivial];calc aav u z m rfl ((U i u z e1 ez).same (G.trans (c.trans k))) (λn l=>?_);have r:n D=some (.lst (List.replicate i (V.bl true))):=l _ _ (k _ _ B);calc cJ r O I (L' (aH (by lia))) ⟨jP _ _,λb o e=>?_⟩;rw[az (au e N)];exact l _ _ (k _ _ (c _ _ e))
  ·rintro ys H' B O ⟨rfl,c⟩;right;rw[pb] at B;calc bH _ (aU.of B) ?_;have e:(List.replicate g.length true).all id=true:=by simp
   rw[e];calc q _ (G.trans c)
abbrev je:Stmt:=top 43
def LT(H:Hp)(a:Addr)(xs:List V):Prop:=H a=some (.lst xs)\/H a=some (.tup xs)
theorem LT.same{xs:List V}(s:av H H')(h:LT H a xs):LT H' a xs:=h.elim (λz=>.inl (s _ _ z)) (λz=>.inr (s _ _ z))
theorem jV{K:W.Frag}(h:LT H a ys)(q:∀p H',av H H'->H' p=some (.tup ys)->Q (.ref p) H'):vR K [.ref a] H Q:=by
 rcases h with h|h
 ·exact .inl ⟨_,aU.of h,λl b=>q l _ (av.new _ b) af⟩
 ·calc .inr ⟨_,bI.of h,q a H (av.refl H) h⟩
def sy:Sp:=λvs H Q _=>∃(a:Addr) (ns:List Int) (c b M:Int),vs=[.ref a,.int c,.int b,.int M]/\LT H a (ns.map V.int)/\c<=(ns.length:Int)/\(ns.length:Int)<=b/\b<=100/\(∀z∈ns,0<=z/\z<M)/\∀H',av H H'->Q (.bl true) H'
theorem tO(D:dq K mg "are_counted" "are_counted" je ["things","least","most","modulus"])(T:Tx K mg C CN CR F FD)(L:Def P w K mg base "is_list" 1 ["things","least","most"] mG)(N:Def P w K mg base "is_within" 2 ["thing","low","beyond"] cm):Def P w K mg base "are_counted" 3 ["things","least","most","modulus"] sy:=by
 have sc:aE ["things","least","most","modulus"] ["things","least","most","modulus"] (ay je):=by walk_at "s"
 symm
 ·obtain⟨a,ns,B,G,M,rfl,g,I,m,v,y,q⟩:=h;rfl
 ·nofun;obtain⟨a,ns,B,G,M,rfl,g,I,m,v,y,q⟩:=h;ac_rfl;have v:=hr.units;refine⟨_,(ao (aI (jb (aM L hr (ag (aq 0) (ag (aq 1) (ag (aq 2) aa)))) (ja (bc (jO rfl) rfl T.uR Fb (ag (dO (N':=["thing","modulus"]) (ix:=[none,some 3]) (cu (pv 0)) (λ_ _ _ _=>(ba (i:=0) (show(["thing","modulus"]:List Str).Nodup by decide +kernel) rfl (by grind))) qx (λ_ _ _ _=>(aM N hr (ag (aq 0) (ag ai (ag (aq 1) aa)))))) aa)))))),?_⟩;right;refine fS a _ B G rfl g (λH1 k=>?_);rw[List.length_map,decide_eq_true I,decide_eq_true m];show ∃c,V.bl true=.bl c/\_;refine bH true rfl ?_;rw[if_pos rfl];refine bT ?_;right;rcases g with g | g
  ·calc .inl ⟨⟨_,aU.of (k _ _ g)⟩,λD p=>?_⟩;refine bz (J:=wU K a) (n:=ns.length) (λi ys H'=>ys=List.replicate i (V.bl true)/\av H1 H') (L' (aH (by lia))) ⟨rfl,av.new _ p⟩ ?_ ?_ ?_ ?_
   ·rintro i ys H' j ⟨_,d⟩;exact⟨_,.int ns[i],aU.of (d _ _ (k _ _ g)),by rw[List.getElem?_map,cP j];rfl⟩
   ·rintro ys H' ⟨_,d⟩;exact⟨_,aU.of (d _ _ (k _ _ g)),by simp⟩
   ·intro i ys H' j l r O x R S;nofun;obtain⟨rfl,d⟩:=O;obtain⟨rfl,z⟩:=S;have t:=z _ (aU.of (d _ _ (k _ _ g)));rw[List.getElem?_map,cP j] at t;obtain rfl:=Option.some.inj t;ac_rfl;walk_at "xf";right;rw[if_pos trivial];refine fS (.int ns[i]) _ 0 M rfl (.int _) ?_;have u:=y ns[i] (aaf j);have e:inR 0 M (.int ns[i])=true:=by simp[inR,u.1,u.2]
    rw[e];calc cJ l r j (L' (aH (by lia))) ⟨jP _ _,λb o e=>?_⟩;rw[az (au e p)];exact d _ _ e
   ·rintro ys H' l r ⟨rfl,d⟩;right;rw[pb] at l;calc bH _ (aU.of l) ?_;have e:(List.replicate ns.length true).all id=true:=by simp
    rw[e];exact q _ (k.trans d)
  ·calc .inr ⟨⟨_,bI.of (k _ _ g)⟩,λD p=>?_⟩;refine bz (J:=Kq K a) (n:=ns.length) (λi ys H'=>ys=List.replicate i (V.bl true)/\av H1 H') (L' (aH (by lia))) ⟨rfl,av.new _ p⟩ ?_ ?_ ?_ ?_
   ·rintro i ys H' j ⟨_,d⟩;exact⟨_,.int ns[i],bI.of (d _ _ (k _ _ g)),by rw[List.getElem?_map,cP j];rfl⟩
   ·rintro ys H' ⟨_,d⟩;exact⟨_,bI.of (d _ _ (k _ _ g)),by simp⟩
   ·intro i ys H' j l r U x R W;nofun;obtain⟨rfl,d⟩:=U;obtain⟨rfl,z⟩:=W;have t:=z _ (bI.of (d _ _ (k _ _ g)));rw[List.getElem?_map,cP j] at t;obtain rfl:=Option.some.inj t;ac_rfl;walk_at "xf";right;rw[if_pos trivial];refine fS (.int ns[i]) _ 0 M rfl (.int _) ?_;have u:=y ns[i] (aaf j);have e:inR 0 M (.int ns[i])=true:=by simp[inR,u.1,u.2]
    rw[e];calc cJ l r j (L' (aH (by lia))) ⟨jP _ _,λb o e=>?_⟩;rw[az (au e p)];exact d _ _ e
   ·rintro ys H' l r ⟨rfl,d⟩;right;rw[pb] at l;calc bH _ (aU.of l) ?_;have e:(List.replicate ns.length true).all id=true:=by simp
    rw[e];calc q _ (k.trans d)
abbrev gy:Stmt:=top 44
def B6:Sp:=λvs H Q _=>∃(M:Int) (a b ad:Addr) (ns row:List Int) (xs:List V),vs=[.int M,.ref a,.ref b,.ref ad]/\2<=M/\M<=1000000000000/\LT H a (ns.map V.int)/\LT H b (row.map V.int)/\LT H ad xs/\1<=ns.length/\ns.length<=4/\row.length<=12/\(∀z∈ns,0<=z/\z<M)/\(∀z∈row,0<=z/\z<M)/\∀H',av H H'->Q .bM H'
theorem pE(D:dq K mg "refuse_machine" "refuse_machine" gy ["modulus","numbers","row","deeds"])(T:Tx K mg C CN CR F FD)(b:Def P w K mg base "are_counted" 3 ["things","least","most","modulus"] sy)(r:Def P w K mg base "is_within" 2 ["thing","low","beyond"] cm):Def P w K mg base "refuse_machine" 4 ["modulus","numbers","row","deeds"] B6:=by
 have sc:aE ["modulus","numbers","row","deeds"] ["modulus","numbers","row","deeds"] (ay gy):=by walk_at "s"
 symm
 ·obtain⟨M,c,d,ad,ns,row,u,rfl,g,x,i,j,k,y,B,G,l,m,q⟩:=h;rfl
 ·nofun;obtain⟨M,c,d,ad,ns,row,u,rfl,g,x,i,j,k,y,B,G,l,m,q⟩:=h;ac_rfl;have u:=hr.units;refine⟨_,(aj (aW (bP (bo (aM r hr (ag (aq 0) (ag ai (ag (aQ cC (fY T.dW rfl) ai) aa)))))) (ao dN) aJ)
   (aj (aW (bP (bo (aM b hr (ag (aq 1) (ag ai (ag (fY T.dX rfl) (ag (aq 0) aa))))))) (ao dN) aJ)
   (aj (aW (bP (bo (aM b hr (ag (aq 2) (ag ai (ag (fY T.fG rfl) (ag (aq 0) aa))))))) (ao dN) aJ)
   (ao (aW (bP (bo (bc cS rfl T.aR qA (ag (aq 3) (ag (bQ (ag (cN (v:=.ty "list") rfl T.e9 ze rfl) (ag (cN (v:=.ty "tuple") rfl T.cB tq rfl) aa))) aa))))) (ao dN) aJ))))),?_⟩
  right;calc fS (.int M) _ 2 _ rfl (.int M) ?_;have e:inR 2 (1000000000000+1) (.int M)=true:=by simp[inR,g];lia
  rw[e];right;rw[if_neg (by decide)];calc UX c ns 1 4 M rfl i (by lia) (by lia) (by decide) l (λH1 a=>?_);right;rw[if_neg (by decide)];calc UX d row 0 12 M rfl (j.same a) (by lia) (by lia) (by decide) m (λH2 n=>?_);right;rw[if_neg (by decide)];calc⟨du,λp b=>?_⟩;have o:av H2 (upd H2 p (.tup [.ty "list",.ty "tuple"])):=av.new _ b;have I:∃t,gv K (upd H2 p (.tup [.ty "list",.ty "tuple"])) (.ref ad) t/\W.kitAny K t [.type "list",.type "tuple"]=some true:=by
   rcases k.same (a.trans (n.trans o)) with z|z
   ·exact⟨_,.lst z,rfl⟩
   ·exact⟨_,.tup z,rfl⟩
  obtain⟨t,b,c⟩:=I;calc UU t true _ _ b af rfl c ?_;right;rw[if_neg (by decide)];calc q _ (a.trans (n.trans o))
abbrev iC:Stmt:=top 45
def DL(H:Hp)(n:Nat)(xs:List V)(a:List bD):Prop:=xs.length=a.length/\∀(i:Nat) x d,xs[i]?=some x->a[i]?=some d->HT H n x (bD.dv d)
theorem DL.aL{n:Nat}{xs:List V}{a:List bD}(s:bS H H')(h:DL H n xs a):DL H' n xs a:=⟨h.1,λi x d a b=>(h.2 i x d a b).aL s⟩
theorem DL.ht{n:Nat}{xs:List V}{b:List bD}(h:DL H n xs b)(e:H a=some (.tup xs)):HT H (n+1) (.ref a) (.tup (b.map bD.dv)):=by
 calc .tup e (by rw[List.length_map];calc h.1) λi u d f c=>?_;rw[List.getElem?_map]at c;obtain⟨dd,g,rfl⟩:=Option.map_eq_some_iff.mp c;calc h.2 i u dd f g
def B7:Sp:=λvs H Q _=>∃(a:Addr) (xs:List V) (b:List bD) (m:Int) (n:Nat),vs=[.ref a,.int m]/\LT H a xs/\DL H n xs b/\b.length<=24/\(∀d∈b,d.ok m)/\∀H',av H H'->Q .bM H'
theorem sC(D:dq K mg "refuse_deeds" "refuse_deeds" iC ["deeds","many"])(T:Tx K mg C CN CR F FD)(B:Def P w K mg base "is_deed" 5 ["thing","many"] uT):Def P w K mg base "refuse_deeds" 6 ["deeds","many"] B7:=by
 have sc:aE ["deeds","many","at","deed"] ["deeds","many"] (ay iC):=by walk_at "s"
 symm
 ·obtain⟨a,c,e,m,n,rfl,d,g,G,u,q⟩:=h;rfl
 ·nofun;obtain⟨a,c,e,m,n,rfl,d,g,G,u,q⟩:=h;ac_rfl;have G:=hr.units;refine⟨_,(ao (fm PassesOwn.never rfl (lP rfl T.fb (ag (aq 0) aa)) (iB (i:=2) (j:=3) rfl sc.nd rfl rfl (by grind) (by grind))
   (ao (aW (PW.pt (pw_or (aC (aT G) (aq 2) (fY T.eA rfl) (aG _)) (pw_or1 (bP (bo (aM B hr (ag (aq 3) (ag (aq 1) aa)))))))) (ao dN) aJ)))),?_⟩
  rcases d with d|d
  ·calc Hv true c (Sq.l d) ?_;refine nW (xs:=c) (λi σ H'=>av H H'/\∃k o,σ=[some (.ref a),some (.int m),k,o]) ⟨av.refl H,none,none,rfl⟩ (λi σ H' ⟨b,_⟩=>Sq.l (b _ _ d)) ?_ ?_
   ·intro i x σ H1 T p I v;nofun;obtain⟨b,k,o,rfl⟩:=I;ac_rfl;have y:i < c.length:=(List.getElem?_eq_some_iff.mp p).1;have jR:i < e.length:=by rw[<-g.1];exact y
    have r:av H1 (upd H1 T (.tup [.int i,x])):=av.new _ v;calc zo (bI.of af) ?_;right;rw[if_neg (by simp;lia)];calc⟨x,m,n,e[i],rfl,(g.2 i x e[i] p (cP jR)).aL (b.trans r).aV,u _ (aaf jR),λJ z=>?_⟩;right
    first|rw[if_neg (by decide)]|skip
    exact⟨b.trans (r.trans z),_,_,rfl,rfl⟩
   ·rintro σ H1 ⟨b,_⟩;exact q _ b
  ·calc Hv false c (Sq.t d) ?_;refine nW (xs:=c) (λi σ H'=>av H H'/\∃k o,σ=[some (.ref a),some (.int m),k,o]) ⟨av.refl H,none,none,rfl⟩ (λi σ H' ⟨b,_⟩=>Sq.t (b _ _ d)) ?_ ?_
   ·intro i x σ H1 T p L v;nofun;obtain⟨b,k,o,rfl⟩:=L;ac_rfl;have y:i < c.length:=(List.getElem?_eq_some_iff.mp p).1;have jR:i < e.length:=by rw[<-g.1];exact y
    have r:av H1 (upd H1 T (.tup [.int i,x])):=av.new _ v;calc zo (bI.of af) ?_;right;rw[if_neg (by simp;lia)];calc⟨x,m,n,e[i],rfl,(g.2 i x e[i] p (cP jR)).aL (b.trans r).aV,u _ (aaf jR),λJ z=>?_⟩;right
    first|rw[if_neg (by decide)]|skip
    exact⟨b.trans (r.trans z),_,_,rfl,rfl⟩
   ·rintro σ H1 ⟨b,_⟩;calc q _ b
abbrev pH:Stmt:=(ck (top 49)).getD 0 (.Pass ⟨0,0,0,0⟩)
def JZ(M:Int)(st dd:V):List (Str×V):=bt "own_deeds" dd (bt "own_state" st (bt "own_modulus" (.int M) []))
theorem Vd{M:Int}:(JZ M st dd).lookup ("own_modulus":Str)=some (.int M):=by
 unfold JZ;rw[bx,if_neg (by decide +kernel),bx,if_neg (by decide +kernel),bx,if_pos rfl]
theorem aaB{M:Int}:(JZ M st dd).lookup ("own_state":Str)=some st:=by
 unfold JZ;rw[bx,if_neg (by decide +kernel),bx,if_pos rfl]
theorem Ve{M:Int}:(JZ M st dd).lookup ("own_deeds":Str)=some dd:=by
 unfold JZ;rw[bx,if_pos rfl]
theorem B8{M:Int}(a:f≠"own_modulus")(b:f≠"own_state")(c:f≠"own_deeds"):(JZ M st dd).lookup f=none:=by
 unfold JZ;rw[bx,if_neg c,bx,if_neg b,bx,if_neg a];rfl
theorem bU{v:V}{a:List (Str×V)}{n:Nat}(h:a.length<n):(bt f v a).length<n+1:=by
 have:=kE f v a;lia
def iD(C:Addr)(H:Hp)(m:Addr)(M:Int)(ns row:List Int)(a:List bD):Prop:=∃b st dd,H m=some (.ins C b (JZ M st dd))/\HT H 2 st (wY ns row)/\HT H 4 dd (.tup (a.map bD.dv))
theorem iD.same{C:Addr}{M:Int}{a:List bD}(s:av H H')(h:iD C H m M ns row a):iD C H' m M ns row a:=by
 obtain⟨a,st,dd,b,c,d⟩:=h;calc⟨a,st,dd,s _ _ b,c.aL s.aV,d.aL s.aV⟩
def B9(C:Addr):Sp:=λvs H Q _=>∃(x f:Addr) (M:Int) (c e ad:Addr) (ns row:List Int) (xs:List V) (a:List bD) (n:Nat),vs=[.ref x,.int M,.ref c,.ref e,.ref ad]/\H x=some (.ins C f [])/\2<=M/\M<=1000000000000/\LT H c (ns.map V.int)/\LT H e (row.map V.int)/\LT H ad xs/\1<=ns.length/\ns.length<=4/\row.length<=12/\
 (∀z∈ns,0<=z/\z<M)/\(∀z∈row,0<=z/\z<M)/\DL H n xs a/\n<=3/\a.length<=24/\(∀d∈a,d.ok ns.length)/\∀H',iD C H' x M ns row a->(∀b o,b≠x->H b=some o->H' b=some o)->Q .bM H'
theorem D0(D:DB K mg "Machine" C "Machine.__init__" pH ["self","modulus","numbers","row","deeds"])(T:Tx K mg C CN CR F FD)(iE:Def P w K mg base "refuse_deeds" 6 ["deeds","many"] B7)(gz:Def P w K mg base "refuse_machine" 4 ["modulus","numbers","row","deeds"] B6):xO P w K mg base "Machine" C 7 ["self","modulus","numbers","row","deeds"] (B9 C):=by
 have sc:aE ["self","modulus","numbers","row","deeds"] ["self","modulus","numbers","row","deeds"] (ay pH):=by walk_at "s"
 symm
 ·obtain⟨x,a,M,N,ar,ad,ns,row,u,ds,n,rfl,v,DY,pF,y,O,l,DZ,R8,ou,hb,QA,R,m,Nj,aZ,q⟩:=h;rfl
 ·nofun;obtain⟨x,a,M,N,ar,ad,ns,row,u,ds,n,rfl,v,DY,pF,y,O,l,DZ,R8,ou,hb,QA,R,m,Nj,aZ,q⟩:=h;ac_rfl;have m:=hr.units;refine⟨_,(aj (bV (aM gz hr (ag (aq 1) (ag (aq 2) (ag (aq 3) (ag (aq 4) aa))))))
   (aj (bV (aM iE hr (ag (aq 4) (ag (bc aP rfl T.cp T' (ag (aq 2) aa)) aa))))
   (aj (fW (aq 0) (aq 1) (gL rfl))
   (aj (fW (aq 0) (bQ (ag (dQ cR rfl T.cB tq (ag (aq 2) aa)) (ag (dQ cR rfl T.cB tq (ag (aq 3) aa)) aa))) (gL rfl))
   (ao (fW (aq 0) (dQ cR rfl T.cB tq (ag (aq 4) aa)) (gL rfl))))))),?_⟩
  try walk_at "rt"
  refine⟨M,N,ar,ad,ns,row,u,rfl,DY,pF,y,O,l,DZ,R8,ou,hb,QA,λH1 B=>?_⟩
  try walk_at "rt"
  have m:FC K (.ref N) H1 (ns.map V.int).length:=(y.same B).elim (λz=>.inl ⟨_,aU.of z,rfl⟩) (λz=>.inr ⟨_,bI.of z,rfl⟩);calc bH _ m ?_;calc Qn ad u ds _ n rfl (l.same B) (R.aL B.aV) Nj (by rw[List.length_map];calc aZ) (λH2 N=>?_);have J0:=B.trans N
  try walk_at "rt"
  have m:=J0 _ _ v;calc⟨x,C,a,[],rfl,m,T.cW,T.Ng,by decide,?_⟩;have p:∀{b:Addr} {ys:List V},LT H b ys->b≠x:=λh z=>by
   subst z;rcases h with h|h<;>(rw[v]at h;cases h)
  have S:∀b o,b≠x->H b=some o->upd H2 x (.ins C a (bt "own_modulus" (.int M) [])) b=some o:=λb o d e=>by rw[az d];exact J0 _ _ e
  have r:∀{b:Addr} {ys:List V},LT H b ys->LT (upd H2 x (.ins C a (bt "own_modulus" (.int M) []))) b ys:=λh=>by
   have g:=p h;exact h.elim (λz=>.inl (S _ _ g z)) (λz=>.inr (S _ _ g z))
  have t:upd H2 x (.ins C a (bt "own_modulus" (.int M) [])) x=some (.ins C a (bt "own_modulus" (.int M) [])):=af;generalize J1:upd H2 x (.ins C a (bt "own_modulus" (.int M) []))=G2 at *
  try walk_at "rt"
  refine jV (r y) λI m s3 wj=>?_
  try walk_at "rt"
  refine jV ((r O).same s3) λJ U s4 nK=>?_
  try walk_at "rt"
  calc⟨du,λc m=>?_⟩;have W:=av.new (.tup [.ref I,.ref J]) m;have i:=s3.trans (s4.trans W)
  try walk_at "rt"
  calc qJ x C a _ rfl (i _ _ t) T.cW T.Qt (bU (n:=999) (by decide)) ?_;have X:HT (upd U c (.tup [.ref I,.ref J])) 2 (.ref c) (wY ns row):=eu af (n0 (W _ _ (s4 _ _ wj))) (n0 (W _ _ nK));have Y:=i _ _ t;have L:∀b o,b≠x->H b=some o->upd U c (.tup [.ref I,.ref J]) b=some o:=λb o d e=>i _ _ (S b o d e);generalize hG:upd U c (.tup [.ref I,.ref J])=G at *;have tG:bS H G:=λb ys e=>L b _ (λz=>by subst z;rw[v]at e;cases e) e;have t6:bS G (upd G x (.ins C a (bt "own_state" (.ref c) (bt "own_modulus" (.int M) [])))):=(bS.refl G).upd λys e=>by rw[Y]at e;cases e
  have e6:LT (upd G x (.ins C a (bt "own_state" (.ref c) (bt "own_modulus" (.int M) [])))) ad u:=by
   have g:=p l;exact l.elim (λz=>.inl (by rw[az g];calc L _ _ g z)) (λz=>.inr (by rw[az g];calc L _ _ g z))
  have n6:∀b o,b≠x->H b=some o->upd G x (.ins C a (bt "own_state" (.ref c) (bt "own_modulus" (.int M) []))) b=some o:=λb o d e=>by rw[az d];exact L b o d e
  have j:upd G x (.ins C a (bt "own_state" (.ref c) (bt "own_modulus" (.int M) []))) x=some (.ins C a (bt "own_state" (.ref c) (bt "own_modulus" (.int M) []))):=af;generalize J2:upd G x (.ins C a (bt "own_state" (.ref c) (bt "own_modulus" (.int M) [])))=G6 at *
  try walk_at "rt"
  refine jV e6 λZ H7 k Ar=>?_
  try walk_at "rt"
  calc qJ x C a _ rfl (k _ _ j) T.cW T.Nh (bU (n:=999) (bU (n:=998) (by decide))) ?_;have ne4:Z≠x:=λz=>by subst z;rw[k _ _ j]at Ar;cases Ar
  have t8:bS H7 (upd H7 x (.ins C a (JZ M (.ref c) (.ref Z)))):=(bS.refl _).upd λys e=>by rw[k _ _ j]at e;cases e
  refine q _ ⟨a,.ref c,.ref Z,af,(X.aL t6).aL (k.aV.trans t8),?_⟩ λb o d e=>?_
  ·calc HT.mono (n:=n+1) ?_ (by lia);calc DL.ht (R.aL (tG.trans (t6.trans (k.aV.trans t8)))) ?_;rw[az ne4];exact Ar
  ·rw[az d];calc k _ _ (n6 b o d e)
abbrev oy:Stmt:=(ck (top 49)).getD 1 (.Pass ⟨0,0,0,0⟩)
theorem As:aE ["self"] ["self"] (ay oy):=by walk_at "s"
abbrev eO:Stmt:=(ck (top 49)).getD 2 (.Pass ⟨0,0,0,0⟩)
def HS(C:Addr):Sp:=λvs H Q _=>∃(m:Addr) (M:Int) (ns row:List Int) (a:List bD),vs=[.ref m]/\iD C H m M ns row a/\∀st,HT H 2 st (wY ns row)->Q st H
theorem ku(D:gQ K C "first_state" "Machine.first_state" eO ["self"])(T:Tx K mg C CN CR F FD):eV P w K mg base C "first_state" 1 ["self"] (HS C):=by
 have sc:aE ["self"] ["self"] (ay eO):=by walk_at "s"
 symm
 ·obtain⟨m,M,ns,row,d,rfl,⟨a,st,dd,b,c,e⟩,q⟩:=h;rfl
 ·nofun;obtain⟨m,M,ns,row,d,rfl,⟨a,st,dd,b,c,e⟩,q⟩:=h;ac_rfl;have d:=hr.units;calc⟨_,(ao (aI (bJ (aq 0) rfl))),?_⟩;calc⟨m,C,a,_,_,rfl,b,T.cW,T.Qt,aaB,q _ c⟩
theorem Vf{H:Hp}{n:Nat}{x:V}{b:List bD}(h:HT H (n+1) x (.tup (b.map bD.dv))):∃a xs,x=.ref a/\H a=some (.tup xs)/\DL H n xs b:=by
 cases h with
 | @tup _ a xs _ e l i=>
  calc⟨a,xs,rfl,e,by simpa using l,λj x d b c=>i j x _ b ?_⟩;rw[List.getElem?_map,c];rfl
def iF(H:Hp)(n:Nat)(ys:List V)(es:List DV):Prop:=ys.length=es.length/\∀(i:Nat) y e,ys[i]?=some y->es[i]?=some e->HT H n y e
theorem iF.nil{n:Nat}:iF H n [] []:=⟨rfl,λi y e h=>by simp at h⟩
theorem iF.aL{n:Nat}(h:iF H n ys es)(t:bS H H'):iF H' n ys es:=⟨h.1,λi y e a b=>(h.2 i y e a b).aL t⟩
theorem iF.snoc{n:Nat}{y:V}{e:DV}(h:iF H n ys es)(g:HT H n y e):iF H n (ys++[y]) (es++[e]):=by
 calc⟨by simp[h.1],λi c f a b=>?_⟩;by_cases c:i<ys.length
 ·rw[List.getElem?_append_left c]at a;rw[List.getElem?_append_left (by rw[<-h.1];calc c)]at b;exact h.2 i _ _ a b
 ·rw[List.getElem?_append_right (by lia)] at a;rw[List.getElem?_append_right (by rw[<-h.1];lia),<-h.1] at b
  cases d:i-ys.length with
  |zero=>rw[d]at a b;cases a;cases b;calc g
  |succ k=>rw[d]at a;simp at a
theorem iF.dl{n:Nat}{xs:List V}{a:List bD}(h:iF H n xs (a.map bD.dv)):DL H n xs a:=⟨by simpa using h.1,λi x d a b=>h.2 i x _ a (by rw[List.getElem?_map,b];rfl)⟩
abbrev sD:Stmt:=top 55
abbrev R9(C:Addr)(H:Hp)(m:Addr)(d:MD):Prop:=iD C H m d.M d.ns d.row d.ds
def lW(w:Int×Int×Str):DV:=.tup [.int w.1,.int w.2.1,.str w.2.2]
def qK(l:Int×Int):DV:=.tup [.int l.1,.int l.2]
def uU(m:Int)(w:Int×Int×Str):Prop:=0<=w.1/\w.1<m/\0<=w.2.1/\w.2.1<m/\(w.2.2="row"\/w.2.2="heap")
def uV(m:Int)(l:Int×Int):Prop:=0<=l.1/\l.1<m/\1-1000000000000000000000000000000000000000000000000000000000000<=l.2/\l.2<1000000000000000000000000000000000000000000000000000000000000
def yn:Sp:=λvs H Q _=>∃(x:V) (n:Nat) (a b:Int) (c:Str) (m:Int),vs=[x,.int m]/\HT H n x (lW (a,b,c))/\uU m (a,b,c)/\∀H',av H H'->Q (.bl true) H'
theorem HU(D:dq K mg "is_way" "is_way" sD ["thing","many"])(T:Tx K mg C CN CR F FD)(l:Def P w K mg base "is_within" 2 ["thing","low","beyond"] cm):Def P w K mg base "is_way" 3 ["thing","many"] yn:=by
 have sc:aE ["thing","many"] ["thing","many"] (ay sD):=by walk_at "s"
 symm
 ·obtain⟨x,n,c,d,g,m,rfl,o,r,q⟩:=h;rfl
 ·nofun;obtain⟨x,n,c,d,g,m,rfl,o,r,q⟩:=h;ac_rfl;have i:=hr.units;refine⟨_,(aj (aW (PW.pt (pw_or (bP (bo (bc cS rfl T.aR qA (ag (aq 0) (ag (cN (v:=.ty "tuple") rfl T.cB tq rfl) aa))))) (pw_or (aC (fz i) (bc aP rfl T.cp T' (ag (aq 0) aa)) ai (aG _)) (pw_or1 (bP (bo (bc cS rfl T.aR qA (ag (ak i (aq 0) ai) (ag (cN (v:=.ty "str") rfl T.B1 PyProof.Rows.boot_str rfl) aa))))))))) (ao (aI gP)) aJ)
   (ao (aI (jb (aM l hr (ag (ak i (aq 0) ai) (ag ai (ag (aq 1) aa)))) (jb (aM l hr (ag (ak i (aq 0) ai) (ag ai (ag (aq 1) aa)))) (ja (ie Gg (ak i (aq 0) ai) (bQ (ag aD (ag aD aa))) (by with_unfolding_all rfl)))))))),?_⟩
  nofun;obtain⟨a,G,I,J,k,rfl,b,t,u,y⟩:=bY o;obtain rfl:=t.bR;obtain rfl:=u.bR;obtain rfl:=y.bN
  replace b:H a=some (.tup [.int c,.int d,.str g]):=b
  obtain⟨i,k,l,n,z⟩:0<=c/\c<m/\0<=d/\d<m/\(g="row"\/g="heap"):=r;ac_rfl;right;refine cL _ true (.tup b) rfl ?_;simp only[Bool.not_true,Bool.false_eq_true,if_false];refine bH _ (.inr ⟨_,bI.of b,rfl⟩) ?_;rw[if_neg (by simp)];refine⟨_,_,.inr (bI.of b),aA (j:=2) rfl,_,true,.str _,rfl,?_⟩;simp only[Bool.not_true,Bool.false_eq_true,if_false];right;refine cL _ _ (.inr (bI.of b)) (aA (j:=0) rfl) ?_;refine fS (.int c) _ 0 m rfl (.int c) ?_;rw[show inR 0 m (.int c)=true by simp[inR,i,k]];right;rw[if_pos trivial];refine cL _ _ (.inr (bI.of b)) (aA (j:=1) rfl) ?_;refine fS (.int d) _ 0 m rfl (.int d) ?_;rw[show inR 0 m (.int d)=true by simp[inR,l,n]];right;rw[if_pos trivial];refine tN _ _ (.inr (bI.of b)) (aA (j:=2) rfl) du (λp B=>?_);refine Qm _ (.inr (bI.of af)) rfl rfl ?_;have e:Bv (.str g) [.str "row",.str "heap"]=true:=by
   rcases z with rfl|rfl<;>decide +kernel
  rw[e];calc q _ (av.new _ B)
abbrev kN:Stmt:=top 56
def yo:Sp:=λvs H Q _=>∃(x:V) (n:Nat) (a b:Int) (m:Int),vs=[x,.int m]/\HT H n x (qK (a,b))/\uV m (a,b)/\Q (.bl true) H
theorem yp(D:dq K mg "is_letter" "is_letter" kN ["thing","many"])(T:Tx K mg C CN CR F FD)(g:Def P w K mg base "is_within" 2 ["thing","low","beyond"] cm):Def P w K mg base "is_letter" 3 ["thing","many"] yo:=by
 have sc:aE ["thing","many"] ["thing","many"] (ay kN):=by walk_at "s"
 symm
 ·obtain⟨x,n,b,c,m,rfl,i,l,q⟩:=h;rfl
 ·nofun;obtain⟨x,n,b,c,m,rfl,i,l,q⟩:=h;ac_rfl;have e:=hr.units;refine⟨_,(aj (aW (PW.pt (pw_or (bP (bo (bc cS rfl T.aR qA (ag (aq 0) (ag (cN (v:=.ty "tuple") rfl T.cB tq rfl) aa))))) (pw_or1 (aC (fz e) (bc aP rfl T.cp T' (ag (aq 0) aa)) ai (aG _))))) (ao (aI gP)) aJ)
   (ao (aI (jb (aM g hr (ag (ak e (aq 0) ai) (ag ai (ag (aq 1) aa)))) (ja (aM g hr (ag (ak e (aq 0) ai) (ag (aQ ei ai (fY T.eB rfl)) (ag (fY T.eB rfl) aa))))))))),?_⟩
  nofun;obtain⟨a,r,t,k,rfl,d,o,p⟩:=cD i;obtain rfl:=o.bR;obtain rfl:=p.bR
  replace d:H a=some (.tup [.int b,.int c]):=d
  obtain⟨e,g,i,k⟩:0<=b/\b<m/\1-1000000000000000000000000000000000000000000000000000000000000<=c/\c<1000000000000000000000000000000000000000000000000000000000000:=l;ac_rfl;right;calc cL _ true (.tup d) rfl ?_;simp only[Bool.not_true,Bool.false_eq_true,if_false];calc bH _ (.inr ⟨_,bI.of d,rfl⟩) ?_;rw[if_neg (by simp)];right;calc cL _ _ (.inr (bI.of d)) (aA (j:=0) rfl) ?_;calc fS (.int b) _ 0 m rfl (.int b) ?_;rw[show inR 0 m (.int b)=true by simp[inR,e,g]];right;rw[if_pos trivial];calc cL _ _ (.inr (bI.of d)) (aA (j:=1) rfl) ?_;calc fS (.int c) _ _ _ rfl (.int c) ?_;rw[show inR (1-1000000000000000000000000000000000000000000000000000000000000) 1000000000000000000000000000000000000000000000000000000000000 (.int c)=true by simp only[inR,decide_eq_true i,decide_eq_true k,Bool.and_self]];calc q
abbrev j7:Stmt:=top 57
def Ca(C:Addr):Sp:=λvs H Q _=>∃(d e f:Addr) (a:List Addr) (b c:List V) (ws:List (Int×Int×Str)) (ls:List (Int×Int)),vs=[.ref d,.ref e,.ref f]/\H d=some (.lst (a.map V.ref))/\H e=some (.lst b)/\H f=some (.lst c)/\1<=a.length/\a.length<=5/\b.length<=10/\c.length<=20/\(∀m∈a,∃g h,H m=some (.ins C g h))/\iF H 1 b (ws.map lW)/\iF H 1 c (ls.map qK)/\(∀w∈ws,uU a.length w)/\(∀l∈ls,uV b.length l)/\∀H',av H H'->Q .bM H'
theorem wq(D:dq K mg "refuse_net" "refuse_net" j7 ["machines","ways","letters"])(T:Tx K mg C CN CR F FD)(kO:Def P w K mg base "is_letter" 3 ["thing","many"] yo)(S:Def P w K mg base "is_list" 1 ["things","least","most"] mG)(sE:Def P w K mg base "is_way" 3 ["thing","many"] yn):Def P w K mg base "refuse_net" 4 ["machines","ways","letters"] (Ca C):=by
 have sc:aE ["machines","ways","letters"] ["machines","ways","letters"] (ay j7):=by walk_at "s"
 symm
 ·obtain⟨U,W,X,p,z,B,ws,ls,rfl,L,Y,Cb,J4,J5,wt,yq,Vg,Z,QB,LC,uB,q⟩:=h;rfl
 ·nofun;obtain⟨U,W,X,p,z,B,ws,ls,rfl,L,Y,Cb,J4,J5,wt,yq,Vg,Z,QB,LC,uB,q⟩:=h;ac_rfl;have hu:=hr.units;refine⟨_,(aj (aW (PW.pt (pw_or (bP (bo (aM S hr (ag (aq 0) (ag ai (ag (fY T.dy rfl) aa)))))) (pw_or1 (bP (bo (bc (jO rfl) rfl T.uR Fb (ag (dO (N':=["one"]) (ix:=[none]) (cu (pv 0)) (λ_ _ _ _=>(ba (i:=0) (show(["one"]:List Str).Nodup by decide +kernel) rfl (by grind))) qx (λ_ _ _ _=>(bc (Hn (K:=K) rfl) rfl T.aR qA (ag (aq 0) (ag (cF (v:=.ref C) rfl T.uS rfl) aa))))) aa))))))) (ao dN) aJ)
   (aj (aW (PW.pt (pw_or (bP (bo (aM S hr (ag (aq 1) (ag ai (ag (fY T.fO rfl) aa)))))) (pw_or1 (bP (bo (bc (jO rfl) rfl T.uR Fb (ag (dO (N':=["way","machines"]) (ix:=[none,some 0]) (cu (pv 1)) (λ_ _ _ _=>(ba (i:=0) (show(["way","machines"]:List Str).Nodup by decide +kernel) rfl (by grind))) qx (λ_ _ _ _=>(aM sE hr (ag (aq 0) (ag (bc (rT (K:=K) rfl) rfl T.cp T' (ag (aq 1) aa)) aa))))) aa))))))) (ao dN) aJ)
   (ao (aW (PW.pt (pw_or (bP (bo (aM S hr (ag (aq 2) (ag ai (ag (fY T.dY rfl) aa)))))) (pw_or1 (bP (bo (bc (jO rfl) rfl T.uR Fb (ag (dO (N':=["letter","ways"]) (ix:=[none,some 1]) (cu (pv 2)) (λ_ _ _ _=>(ba (i:=0) (show(["letter","ways"]:List Str).Nodup by decide +kernel) rfl (by grind))) qx (λ_ _ _ _=>(aM kO hr (ag (aq 0) (ag (bc (rT (K:=K) rfl) rfl T.cp T' (ag (aq 1) aa)) aa))))) aa))))))) (ao dN) aJ)))),?_⟩
  have S:(p.map V.ref).length<=5:=by simpa using J5
  right;calc fS U _ 1 _ rfl (.inl L) (λH1 s1=>?_);rw[show(decide ((1:Int)<=((p.map V.ref).length:Int))&&decide (((p.map V.ref).length:Int)<=5))=true by simp;lia];right
  try simp only[Bool.not_true,Bool.false_eq_true,if_false]
  have M:=s1 _ _ L;calc bT ?_;right;calc .inl ⟨⟨_,aU.of M⟩,λD r=>?_⟩;refine bz (J:=wU K U) (n:=(p.map V.ref).length) (λi a H'=>a=List.replicate i (V.bl true)/\av H1 H') (L' (aH (by lia))) ⟨rfl,av.new _ r⟩ ?_ ?_ ?_ ?_
  ·rintro i a H' d ⟨_,l⟩;exact⟨_,(p.map V.ref)[i],aU.of (l _ _ M),cP d⟩
  ·rintro a H' ⟨_,l⟩;exact⟨_,aU.of (l _ _ M),K' _⟩
  ·intro i a H' d c g j4 x N j5;nofun;obtain⟨rfl,l⟩:=j4;obtain⟨rfl,G⟩:=j5;ac_rfl;have I:=G _ (aU.of (l _ _ M));walk_at "xf";right;rw[if_pos trivial];have hxm:∃m,x=.ref m/\m∈p:=by
    have:=X' I;nofun;obtain⟨m,hm,rfl⟩:=List.mem_map.mp this;ac_rfl;exact⟨m,rfl,hm⟩
   nofun;obtain⟨m,rfl,M⟩:=hxm;obtain⟨U,fs,S⟩:=Vg m M;ac_rfl;calc aaw _ C _ true rfl (.ins (l _ _ (s1 _ _ S)) T.cW T.DQ T.eN T.cI T.DR) T.i_k ?_;have t:=av.refl N;calc cJ (t _ _ c) g d (L' (aH (by lia))) ⟨jP _ _,λb o e=>?_⟩;rw[az (au e r)];exact t _ _ (l _ _ e)
  rintro a H2 c g ⟨rfl,l⟩;right;rw[pb]at c;calc bH _ (aU.of c) ?_;have e:(List.replicate (p.map V.ref).length true).all id=true:=by simp
  rw[e];clear e c g;right
  try simp only[Bool.not_true,Bool.false_eq_true,if_false]
  have p:=s1.trans l;have M:=p _ _ Y;right;calc fS W _ 0 _ rfl (.inl M) (λS l=>?_);rw[show(decide ((0:Int)<=(z.length:Int))&&decide ((z.length:Int)<=10))=true by simp;lia];right
  try simp only[Bool.not_true,Bool.false_eq_true,if_false]
  have O:=l _ _ M;have u:=p.trans l;calc bT ?_;right;calc .inl ⟨⟨_,aU.of O⟩,λD r=>?_⟩;refine bz (J:=wU K W) (n:=z.length) (λi a H'=>a=List.replicate i (V.bl true)/\av S H') (L' (aH (by lia))) ⟨rfl,av.new _ r⟩ ?_ ?_ ?_ ?_
  ·rintro i a H' d ⟨_,j⟩;exact⟨_,z[i],aU.of (j _ _ O),cP d⟩
  ·rintro a H' ⟨_,j⟩;exact⟨_,aU.of (j _ _ O),K' _⟩
  ·intro i a H' d c g pD x N tP;nofun;obtain⟨rfl,j⟩:=pD;obtain⟨rfl,G⟩:=tP;ac_rfl;have I:=G _ (aU.of (j _ _ O));walk_at "xf";right;rw[if_pos trivial];have l:i < ws.length:=by have:=Z.1;rw[List.length_map] at this;lia
   have hw:=(Z.2 i x (lW ws[i]) I (by rw[List.getElem?_map,cP l];rfl)).aL (u.trans j).aV;calc bH _ (.inl ⟨_,aU.of (j _ _ (u _ _ L)),rfl⟩) ?_;refine⟨x,1,ws[i].1,ws[i].2.1,ws[i].2.2,_,rfl,hw,?_,λp t=>?_⟩
   ·have:=LC ws[i] (aaf l);simpa[uU] using this
   calc cJ (t _ _ c) g d (L' (aH (by lia))) ⟨jP _ _,λb o e=>?_⟩;rw[az (au e r)];exact t _ _ (j _ _ e)
  rintro a H4 c g ⟨rfl,j⟩;right;rw[pb]at c;calc bH _ (aU.of c) ?_;have e:(List.replicate z.length true).all id=true:=by simp
  rw[e];clear e c g;right
  try simp only[Bool.not_true,Bool.false_eq_true,if_false]
  have l:=u.trans j;have p:=l _ _ Cb;right;calc fS X _ 0 _ rfl (.inl p) (λu j=>?_);rw[show(decide ((0:Int)<=(B.length:Int))&&decide ((B.length:Int)<=20))=true by simp;lia];right
  try simp only[Bool.not_true,Bool.false_eq_true,if_false]
  have R:=j _ _ p;have y:=l.trans j;calc bT ?_;right;calc .inl ⟨⟨_,aU.of R⟩,λD r=>?_⟩;refine bz (J:=wU K X) (n:=B.length) (λi a H'=>a=List.replicate i (V.bl true)/\av u H') (L' (aH (by lia))) ⟨rfl,av.new _ r⟩ ?_ ?_ ?_ ?_
  ·rintro i a H' d ⟨_,k⟩;exact⟨_,B[i],aU.of (k _ _ R),cP d⟩
  ·rintro a H' ⟨_,k⟩;exact⟨_,aU.of (k _ _ R),K' _⟩
  ·intro i a H' d c g tR x N wk;nofun;obtain⟨rfl,k⟩:=tR;obtain⟨rfl,G⟩:=wk;ac_rfl;have I:=G _ (aU.of (k _ _ R));walk_at "xf";right;rw[if_pos trivial];have j:i < ls.length:=by have:=QB.1;rw[List.length_map] at this;lia
   have hw:=(QB.2 i x (qK ls[i]) I (by rw[List.getElem?_map,cP j];rfl)).aL (y.trans k).aV;calc bH _ (.inl ⟨_,aU.of (k _ _ (y _ _ Y)),rfl⟩) ?_;refine⟨x,1,ls[i].1,ls[i].2,_,rfl,hw,?_,?_⟩
   ·have:=uB ls[i] (aaf j);simpa[uV] using this
   have t:=av.refl N;calc cJ (t _ _ c) g d (L' (aH (by lia))) ⟨jP _ _,λb o e=>?_⟩;rw[az (au e r)];exact t _ _ (k _ _ e)
  rintro a H6 c g ⟨rfl,k⟩;right;rw[pb]at c;calc bH _ (aU.of c) ?_;have e:(List.replicate B.length true).all id=true:=by simp
  rw[e];clear e c g;right
  try simp only[Bool.not_true,Bool.false_eq_true,if_false]
  calc q _ (y.trans k)
abbrev kP:Stmt:=top 63
def yt:Sp:=λvs H Q _=>∃p m,vs=[.ref p,.int m]/\eS H p/\0<m/\m<=4/\∀x v H',Step p H H'->HT H' 1 x (Val.dv v)->v.ok m->Q x H'
theorem yu(D:dq K mg "_law_value" "_law_value" kP ["_law_pot_here","_law_many"])(T:Tx K mg C CN CR F FD)(u:Def P w K mg base "_law_digit" 1 ["_law_pot_here","_law_many"] jU):Def P w K mg base "_law_value" 2 ["_law_pot_here","_law_many"] yt:=by
 have sc:aE ["_law_pot_here","_law_many","_law_kind_here"] ["_law_pot_here","_law_many"] (ay kP):=by walk_at "s"
 symm
 ·obtain⟨p,m,rfl,G,I,J,q⟩:=h;rfl
 ·nofun;obtain⟨p,m,rfl,G,I,J,q⟩:=h;ac_rfl;have L:=hr.units;refine⟨_,(aj (bb (i:=2) sc.nd rfl (by grind) (aM u hr (ag (aq 0) (ag ai aa))))
   (aj (aW (aC gU (aq 2) ai (aG _)) (ao (aI (bQ (ag aD (ag (ak L (bF (ag (aQ ei (aM u hr (ag (aq 0) (ag ai aa))) ai) (ag (aQ ei (aM u hr (ag (aq 0) (ag (aQ ei (aQ lO ai (aQ nQ ai ai)) ai) aa))) (aQ ei (aQ nQ ai ai) ai)) aa))) (aq 2)) aa))))) aJ)
   (aj (aW (aC gU (aq 2) ai (aG _)) (ao (aI (bQ (ag aD (ag (aM u hr (ag (aq 0) (ag (aq 1) aa))) aa))))) aJ)
   (ao (aI (ak L (bF (ag (bQ (ag aD aa)) (ag (bQ (ag aD aa)) (ag (bQ (ag aD aa)) (ag (bQ (ag aD aa)) aa))))) (aQ ei (aq 2) ai))))))),?_⟩
  right;calc mD p 8 rfl G (by decide +kernel) (by decide +kernel) (λd H1 h1 h2 st=>?_);right;split
  ·rename_i j;have j:d < 2:=by simpa using j
   calc mD p 9 rfl st.gp (by decide +kernel) (by decide +kernel) (λR H2 M J k=>?_);right;calc⟨Am,Qv,dig k.gp Va Vb λd2 H3 h5 h6 N=>?_⟩;right;calc gW Am (by decide) (λl c=>?_);have y:d=0\/d=1:=by lia
   rcases y with rfl|rfl
   ·exact⟨_,_,.inl (aU.of af),rfl,by decide,λt n=>q _ (.is _) _ ((((st.trans k).trans N).new c).new n) (eu af (.str _) (.int _)) trivial⟩
   ·exact⟨_,_,.inl (aU.of af),rfl,by decide,λt n=>q _ (.is _) _ ((((st.trans k).trans N).new c).new n) (eu af (.str _) (.int _)) trivial⟩
  ·rename_i j;have j:¬d < 2:=by simpa using j
   split
   ·refine⟨p,m,rfl,st.gp,I,?_,λR H2 M z k=>?_⟩
    ·have:m=1\/m=2\/m=3\/m=4:=by lia
     rcases this with rfl|rfl|rfl|rfl<;>decide +kernel
    right;exact⟨by decide,λt n=>q _ (.number _) _ ((st.trans k).new n) (eu af (.str _) (.int _)) ⟨M,z⟩⟩
   ·rename_i r;have r:¬d < 4:=by simpa using r
    calc⟨by decide,λa S=>⟨by decide,λb O=>⟨by decide,λe B=>⟨by decide,λg v=>⟨by decide,λl c=>?_⟩⟩⟩⟩⟩;have x:=((((st.new S (o:=.tup [.str "letter"])).new O (o:=.tup [.str "letter"])).new B (o:=.tup [.str "way"])).new v (o:=.tup [.str "first"])).new c (o:=.lst [.ref a,.ref b,.ref e,.ref g]);have y:d=4\/d=5\/d=6\/d=7:=by lia
    have U:=(av.new (H:=upd H1 a (.tup [.str "letter"])) (.tup [.str "letter"]) O) a _ af;have W:=(av.new (.tup [.str "way"]) B) _ _ U;have X:=(av.new (.tup [.str "first"]) v) _ _ W;have Y:=(av.new (.lst [.ref a,.ref b,.ref e,.ref g]) c) _ _ X;have Z:=(av.new (H:=upd (upd H1 a (.tup [.str "letter"])) b (.tup [.str "letter"])) (.tup [.str "way"]) B) b _ af;have k3:=(av.new (.tup [.str "first"]) v) _ _ Z;have k4:=(av.new (.lst [.ref a,.ref b,.ref e,.ref g]) c) _ _ k3;have l3:=(av.new (H:=upd (upd (upd H1 a (.tup [.str "letter"])) b (.tup [.str "letter"])) e (.tup [.str "way"])) (.tup [.str "first"]) v) e _ af;have l4:=(av.new (.lst [.ref a,.ref b,.ref e,.ref g]) c) _ _ l3;have m4:=(av.new (H:=upd (upd (upd (upd H1 a (.tup [.str "letter"])) b (.tup [.str "letter"])) e (.tup [.str "way"])) g (.tup [.str "first"])) (.lst [.ref a,.ref b,.ref e,.ref g]) c) g _ af;rcases y with rfl|rfl|rfl|rfl
    ·exact⟨_,_,.inl (aU.of af),rfl,q _ .mx _ x (r8 Y (.str _)) trivial⟩
    ·exact⟨_,_,.inl (aU.of af),rfl,q _ .mx _ x (r8 k4 (.str _)) trivial⟩
    ·exact⟨_,_,.inl (aU.of af),rfl,q _ .way _ x (r8 l4 (.str _)) trivial⟩
    ·calc⟨_,_,.inl (aU.of af),rfl,q _ .first _ x (r8 m4 (.str _)) trivial⟩
theorem aaI{d:Int}(a:0<=d)(h:d<10):d=0\/d=1\/d=2\/d=3\/d=4\/d=5\/d=6\/d=7\/d=8\/d=9:=by
 have:∀n:Fin 10,((n.1:Nat):Int)=0\/((n.1:Nat):Int)=1\/((n.1:Nat):Int)=2\/((n.1:Nat):Int)=3\/((n.1:Nat):Int)=4\/((n.1:Nat):Int)=5\/((n.1:Nat):Int)=6\/((n.1:Nat):Int)=7\/((n.1:Nat):Int)=8\/((n.1:Nat):Int)=9:=by decide
 rw[<-Int.toNat_of_nonneg a];calc this ⟨d.toNat,by lia⟩
abbrev mK:Stmt:=top 64
theorem QE{H:Hp}{n:Nat}{a:Addr}{u v w z:V}{d d' g i:DV}(e:H a=some (.tup [u,v,w,z]))(h:HT H n u d)(h':HT H n v d')(f:HT H n w g)(j:HT H n z i):HT H (n+1) (.ref a) (.tup [d,d',g,i]):=by
 refine .tup e rfl λi x y b c=>?_
 match i,b,c with
 |0,b,c=>simp at b c;subst b c;calc h
 |1,b,c=>simp at b c;subst b c;calc h'
 |2,b,c=>simp at b c;subst b c;calc f
 |3,b,c=>simp at b c;subst b c;calc j
def yw:Sp:=λvs H Q _=>∃p m,vs=[.ref p,.int m]/\eS H p/\0<m/\m<=4/\∀x d H',Step p H H'->HT H' 2 x (bD.dv d)->d.ok m->Q x H'
theorem Au(D:dq K mg "_law_deed" "_law_deed" mK ["_law_pot_here","_law_many"])(T:Tx K mg C CN CR F FD)(M:Def P w K mg base "_law_digit" 1 ["_law_pot_here","_law_many"] jU)(I:Def P w K mg base "_law_value" 2 ["_law_pot_here","_law_many"] yt):Def P w K mg base "_law_deed" 3 ["_law_pot_here","_law_many"] yw:=by
 have sc:aE ["_law_pot_here","_law_many","_law_kind_here"] ["_law_pot_here","_law_many"] (ay mK):=by walk_at "s"
 symm
 ·obtain⟨p,m,rfl,W,k,u,q⟩:=h;rfl
 ·nofun;obtain⟨p,m,rfl,W,k,u,q⟩:=h;ac_rfl;have N:=hr.units;refine⟨_,(aj (bb (i:=2) sc.nd rfl (by grind) (aM M hr (ag (aq 0) (ag ai aa))))
   (aj (aW (aC gU (aq 2) ai (aG _)) (ao (aI (bQ (ag (ak N (bF (ag aD (ag aD (ag aD aa)))) (aq 2)) (ag (aM M hr (ag (aq 0) (ag (aq 1) aa))) (ag (aM I hr (ag (aq 0) (ag (aq 1) aa))) aa)))))) aJ)
   (aj (aW (aC gU (aq 2) ai (aG _)) (ao (aI (bQ (ag aD (ag (aM M hr (ag (aq 0) (ag ai aa))) (ag (aM I hr (ag (aq 0) (ag (aq 1) aa))) aa)))))) aJ)
   (aj (aW (aC (aT N) (aq 2) ai (aG _)) (ao (aI (bQ (ag aD (ag (aM I hr (ag (aq 0) (ag (aq 1) aa))) aa))))) aJ)
   (aj (aW (aC (aT N) (aq 2) ai (aG _)) (ao (aI (bQ (ag aD (ag (aM I hr (ag (aq 0) (ag (aq 1) aa))) aa))))) aJ)
   (aj (aW (aC (aT N) (aq 2) ai (aG _)) (ao (aI (bQ (ag aD aa)))) aJ)
   (ao (aI (bQ (ag aD (ag (aM I hr (ag (aq 0) (ag (aq 1) aa))) (ag (aM I hr (ag (aq 0) (ag (aq 1) aa))) (ag (aQ cC ai (aM M hr (ag (aq 0) (ag ai aa)))) aa))))))))))))),?_⟩
  right;calc mD p 10 rfl W (by decide +kernel) (by decide +kernel) (λd H1 I M st=>?_);have O:m.natAbs.log2<9000:=by
   have:m=1\/m=2\/m=3\/m=4:=by lia
   rcases this with rfl|rfl|rfl|rfl<;>decide +kernel
  have Z:d=0\/d=1\/d=2\/d=3\/d=4\/d=5\/d=6\/d=7\/d=8\/d=9:=aaI (by assumption) (by assumption);rcases Z with rfl|rfl|rfl|rfl|rfl|rfl|rfl|rfl|rfl|rfl
  ·walk_at "go";refine⟨by decide,λl J=>?_⟩;have B:=st.new (o:=.lst [.str "set",.str "add",.str "times"]) J;refine bu af rfl ?_;refine dig B.gp k O λe L r y x=>?_;have b:=B.trans x;walk_at "go";refine mD p m rfl b.gp k u (λz v G c g j=>?_);walk_at "go";exact⟨by decide,λt a=>q _ (.set e v) _ ((b.trans c).new a) (my af (.str _) (.int _) (g.aL (av.new _ a).aV)) ⟨r,y,j⟩⟩
  ·walk_at "go";refine⟨by decide,λl J=>?_⟩;have B:=st.new (o:=.lst [.str "set",.str "add",.str "times"]) J;refine bu af rfl ?_;refine dig B.gp k O λe L r y x=>?_;have b:=B.trans x;walk_at "go";refine mD p m rfl b.gp k u (λz v G c g j=>?_);walk_at "go";exact⟨by decide,λt a=>q _ (.add e v) _ ((b.trans c).new a) (my af (.str _) (.int _) (g.aL (av.new _ a).aV)) ⟨r,y,j⟩⟩
  ·walk_at "go";refine⟨by decide,λl J=>?_⟩;have B:=st.new (o:=.lst [.str "set",.str "add",.str "times"]) J;refine bu af rfl ?_;refine dig B.gp k O λe L r y x=>?_;have b:=B.trans x;walk_at "go";refine mD p m rfl b.gp k u (λz v G c g j=>?_);walk_at "go";exact⟨by decide,λt a=>q _ (.times e v) _ ((b.trans c).new a) (my af (.str _) (.int _) (g.aL (av.new _ a).aV)) ⟨r,y,j⟩⟩
  ·walk_at "go";refine dig st.gp (by decide) (by decide +kernel) λe L r y x=>?_;have b:=st.trans x;right;refine mD p m rfl b.gp k u (λz v G c g j=>?_);right;exact⟨by decide,λt a=>q _ (.send e v) _ ((b.trans c).new a) (my af (.str _) (.int _) (g.aL (av.new _ a).aV)) ⟨r,j⟩⟩
  ·walk_at "go";refine dig st.gp (by decide) (by decide +kernel) λe L r y x=>?_;have b:=st.trans x;right;refine mD p m rfl b.gp k u (λz v G c g j=>?_);right;exact⟨by decide,λt a=>q _ (.send e v) _ ((b.trans c).new a) (my af (.str _) (.int _) (g.aL (av.new _ a).aV)) ⟨r,j⟩⟩
  ·walk_at "go";refine dig st.gp (by decide) (by decide +kernel) λe L r y x=>?_;have b:=st.trans x;right;refine mD p m rfl b.gp k u (λz v G c g j=>?_);right;exact⟨by decide,λt a=>q _ (.send e v) _ ((b.trans c).new a) (my af (.str _) (.int _) (g.aL (av.new _ a).aV)) ⟨r,j⟩⟩
  ·walk_at "go";refine mD p m rfl st.gp k u (λz v G c g j=>?_);walk_at "go";exact⟨by decide,λt a=>q _ (.say v) _ ((st.trans c).new a) (eu af (.str _) (g.aL (av.new _ a).aV)) j⟩
  ·walk_at "go";refine mD p m rfl st.gp k u (λz v G c g j=>?_);walk_at "go";exact⟨by decide,λt a=>q _ (.put v) _ ((st.trans c).new a) (eu af (.str _) (g.aL (av.new _ a).aV)) j⟩
  ·walk_at "go";exact⟨by decide,λt a=>q _ .drop _ (st.new a) (r8 (n:=1) af (.str _)) trivial⟩
  ·walk_at "go";refine mD p m rfl st.gp k u (λz v G c g j=>?_);walk_at "go";have R:=st.trans c;refine mD p m rfl R.gp k u (λvy v2 b X S Vj=>?_);have U:=R.trans X;walk_at "go";refine dig U.gp (by decide) (by decide +kernel) λe b r y Y=>?_;walk_at "go";refine⟨by decide,λt a=>q _ (.skip v v2 (1+e)) _ ((U.trans Y).new a) ?_ ⟨j,Vj,by lia,by lia⟩⟩;have b:=(Y.aV U.gp).trans (av.new (.tup [.str "skip",z,vy,.int (1+e)]) a).aV;exact QE af (.str _) (g.aL ((X.aV R.gp).trans b)) (S.aL b) (.int _)
abbrev jh:Stmt:=top 65
theorem Step.free{p b:Addr}{H H':Hp}(st:Step p H H')(h:H' b=none):H b=none:=by
 cases e:H b with
 |none=>rfl
 |some o=>
  by_cases a:b=p
  ·subst a;obtain⟨x,c,_⟩:=st.gp;rw[h]at c;cases c
  ·rw[st.rest b o e a]at h;cases h
theorem HV{m:Int}(a:0<m)(h:m<=1000000000000):m.natAbs.log2<9000:=(Nat.log2_lt (by lia)).mpr (Nat.lt_of_le_of_lt (show m.natAbs<=1000000000000 by lia) (by decide +kernel))
def mods(d:Int):List V:=[.int 2,.int 3,.int 7,.int 10,.int 97,.int (2+d)]
theorem LG{d k:Int}(b:0<=d)(a:d<10^Int.toNat 12-1)(c:0<=k)(f:k<6):∃z:Int,ia (mods d) k=some (.int z)/\2<=z/\z<=1000000000000:=by
 have e:(10:Int)^Int.toNat 12=1000000000000:=by decide +kernel
 rw[e]at a;have:k=0\/k=1\/k=2\/k=3\/k=4\/k=5:=by lia
 rcases this with rfl|rfl|rfl|rfl|rfl|rfl
 ·exact⟨_,aA (j:=0) rfl,by decide,by decide⟩
 ·exact⟨_,aA (j:=1) rfl,by decide,by decide⟩
 ·exact⟨_,aA (j:=2) rfl,by decide,by decide⟩
 ·exact⟨_,aA (j:=3) rfl,by decide,by decide⟩
 ·exact⟨_,aA (j:=4) rfl,by decide,by decide⟩
 ·calc⟨_,aA (j:=5) rfl,by lia,by lia⟩
def yx:Sp:=λvs H Q _=>∃p,vs=[.ref p]/\eS H p/\∀t a b c xs M ns row d H',Step p H H'->H' t=some (.tup [.int M,.ref a,.ref b,.ref c])->H' a=some (.lst (ns.map V.int))->H' b=some (.lst (row.map V.int))->H' c=some (.lst xs)->iF H' 2 xs (d.map bD.dv)->H a=none->H b=none->H c=none->Good M ns row d->Q (.ref t) H'
theorem tS(D:dq K mg "_law_machine" "_law_machine" jh ["_law_pot_here"])(T:Tx K mg C CN CR F FD)(mL:Def P w K mg base "_law_deed" 3 ["_law_pot_here","_law_many"] yw)(j:Def P w K mg base "_law_digit" 1 ["_law_pot_here","_law_many"] jU):Def P w K mg base "_law_machine" 4 ["_law_pot_here"] yx:=by
 have sc:aE ["_law_pot_here","_law_modulus","_law_many","_law_numbers","_law_row","_law_deeds"] ["_law_pot_here"] (ay jh):=by walk_at "s"
 symm
 ·obtain⟨p,rfl,k,q⟩:=h;rfl
 ·nofun;obtain⟨p,rfl,k,q⟩:=h;ac_rfl;have l:=hr.units;refine⟨_,(aj (bb (i:=1) sc.nd rfl (by grind) (ak l (bF (ag ai (ag ai (ag ai (ag ai (ag ai (ag (aQ cC ai (aM j hr (ag (aq 0) (ag (aQ ei (aQ nQ ai ai) ai) aa)))) aa))))))) (aM j hr (ag (aq 0) (ag ai aa)))))
   (aj (bb (i:=2) sc.nd rfl (by grind) (aQ cC ai (aM j hr (ag (aq 0) (ag ai aa)))))
   (aj (iy (i:=3) sc.nd rfl (by grind) (N':=["_law_k","_law_pot_here","_law_modulus"]) (ix:=[none,some 0,some 1]) (dw rfl T.ff (ag (aq 2) aa)) (λ_ _ _ _=>(ba (i:=0) (show(["_law_k","_law_pot_here","_law_modulus"]:List Str).Nodup by decide +kernel) rfl (by grind))) qx (λ_ _ _ _=>(aM j hr (ag (aq 1) (ag (aq 2) aa)))))
   (aj (iy (i:=4) sc.nd rfl (by grind) (N':=["_law_k","_law_pot_here","_law_modulus"]) (ix:=[none,some 0,some 1]) (dw rfl T.ff (ag (aM j hr (ag (aq 0) (ag ai aa))) aa)) (λ_ _ _ _=>(ba (i:=0) (show(["_law_k","_law_pot_here","_law_modulus"]:List Str).Nodup by decide +kernel) rfl (by grind))) qx (λ_ _ _ _=>(aM j hr (ag (aq 1) (ag (aq 2) aa)))))
   (aj (iy (i:=5) sc.nd rfl (by grind) (N':=["_law_k","_law_pot_here","_law_many"]) (ix:=[none,some 0,some 2]) (dw rfl T.ff (ag (aM j hr (ag (aq 0) (ag ai aa))) aa)) (λ_ _ _ _=>(ba (i:=0) (show(["_law_k","_law_pot_here","_law_many"]:List Str).Nodup by decide +kernel) rfl (by grind))) qx (λ_ _ _ _=>(aM mL hr (ag (aq 1) (ag (aq 2) aa)))))
   (ao (aI (bQ (ag (aq 1) (ag (aq 3) (ag (aq 4) (ag (aq 5) aa)))))))))))),?_⟩
  right;calc⟨Qu,?_⟩;calc dig k Vc Qy λd0 H1 LH QH j=>?_;right;calc⟨by decide,λl t=>?_⟩;have T:=j.new (o:=.lst (mods d0)) t;have Sa:l≠p:=Step.ne j.gp t;calc dig T.gp (by decide) (by decide +kernel) λk H3 l QI c=>?_;have j:=T.trans c;obtain⟨M,k,DY,pF⟩:=LG LH QH l QI;right;calc bu (c.rest _ _ af Sa) k ?_;right;calc dig j.gp (by decide) (by decide +kernel) λm T QC J4 rg=>?_;have N:=j.trans rg;right;calc bT ?_;right;calc gW (by lia) (by lia) (λD O=>?_);have y:D≠p:=Step.ne N.gp O;refine bz (J:=Bg 0 (1+m).toNat) (n:=(1+m).toNat) (λi ys H'=>∃ns:List Int,ys=ns.map V.int/\ns.length=i/\Step p T H'/\(∀z∈ns,0<=z/\z<M)) (L' (aH (by lia))) ⟨[],rfl,rfl,(Step.refl N.gp).new O,λz r=>by simp at r⟩ (λi ys H' a _=>a) (λys H' _=>K' _) ?_ ?_
  ·intro i ys H' a B t j4 x H2 j5;nofun;obtain⟨ns,rfl,G,st,hb⟩:=j4;obtain⟨rfl,rfl⟩:=j5;ac_rfl;walk_at "xf";right;rw[if_pos trivial];refine dig st.gp (by lia) (HV (by lia) pF) λd H3 h3 h4 c=>?_;refine cJ (c.rest _ _ B y) t a (L' (aH (by lia))) ⟨ns++[d],by simp,by simp[G],?_,λz r=>?_⟩
   ·exact⟨c.gp.upd (Ne.symm y),λb o e ne=>by rw[az (au e O)];calc c.rest _ _ (st.rest _ _ e ne) ne⟩
   ·rcases List.mem_append.mp r with g | g
    ·exact hb z g
    ·simp at g;subst g;exact⟨h3,h4⟩
  intro ys H5 en hl5 pD;nofun;obtain⟨ns,rfl,G,T,qL⟩:=pD;ac_rfl;have fD:H D=none:=N.free O;have j:=N.trans T;calc bT ?_;right;calc dig j.gp (by decide) (by decide +kernel) λk O h60 h61 l=>?_;have R:=j.trans l;have en6:=l.rest _ _ en y;right;calc gW (by lia) (by lia) (λS U=>?_);have W:S≠p:=Step.ne R.gp U;refine bz (J:=Bg 0 k.toNat) (n:=k.toNat) (λi ys H'=>∃ns:List Int,ys=ns.map V.int/\ns.length=i/\Step p O H'/\(∀z∈ns,0<=z/\z<M)) (L' (aH (by lia))) ⟨[],rfl,rfl,(Step.refl R.gp).new U,λz r=>by simp at r⟩ (λi ys H' a _=>a) (λys H' _=>K' _) ?_ ?_
  ·intro i ys H' a B t tP x H2 tR;nofun;obtain⟨ns,rfl,G,st,hb⟩:=tP;obtain⟨rfl,rfl⟩:=tR;ac_rfl;walk_at "xf";right;rw[if_pos trivial];refine dig st.gp (by lia) (HV (by lia) pF) λd H3 h3 h4 c=>?_;refine cJ (c.rest _ _ B W) t a (L' (aH (by lia))) ⟨ns++[d],by simp,by simp[G],?_,λz r=>?_⟩
   ·exact⟨c.gp.upd (Ne.symm W),λb o e ne=>by rw[az (au e U)];calc c.rest _ _ (st.rest _ _ e ne) ne⟩
   ·rcases List.mem_append.mp r with g | g
    ·exact hb z g
    ·simp at g;subst g;exact⟨h3,h4⟩
  intro ys H7 er hl7 wk;nofun;obtain⟨row,rfl,c,j,QA⟩:=wk;ac_rfl;have QJ:H S=none:=R.free U;have k:=R.trans j;have c:=j.rest _ _ en6 y;calc bT ?_;right;calc dig k.gp (by decide) (by decide +kernel) λl r t N g=>?_;have X:=k.trans g;have en8:=g.rest _ _ c y;have er8:=g.rest _ _ er W;right;calc gW (by lia) (by lia) (λI Y=>?_);have Vn:I≠p:=Step.ne X.gp Y;have QK:H I=none:=X.free Y;refine bz (J:=Bg 0 l.toNat) (n:=l.toNat) (λi ys H'=>∃u:List bD,iF H' 2 ys (u.map bD.dv)/\u.length=i/\(∀Z∈u,Z.ok (1+m))/\Step p r H') (L' (aH (by lia))) ⟨[],iF.nil,rfl,λZ oR=>by simp at oR,(Step.refl X.gp).new Y⟩ (λi ys H' a _=>a) (λys H' _=>K' _) ?_ ?_
  ·intro i ys H' a B yy HW x H9 LM;nofun;obtain⟨u,tQ,L,QL,v⟩:=HW;obtain⟨rfl,rfl⟩:=LM;ac_rfl;walk_at "xf";right;rw[if_pos trivial];refine⟨p,1 + m,rfl,v.gp,by lia,by lia,λg dd c LN QM Vo=>?_⟩;have Vp:=LN.rest _ _ B Vn;have t10:bS c (upd c I (.lst (ys++[g]))):=(bS.refl _).upd λc e=>by rw[Vp] at e;cases e
   refine cJ Vp yy a (L' (aH (by lia))) ⟨u++[dd],?_,by simp[L],?_,?_⟩
   ·rw[List.map_append];exact((tQ.aL (LN.aV v.gp)).snoc QM).aL t10
   ·intro Z oR;rcases List.mem_append.mp oR with z | z
    ·exact QL Z z
    ·simp at z;subst z;exact Vo
   ·exact⟨LN.gp.upd (Ne.symm Vn),λb o e ne=>by rw[az (au e Y)];calc LN.rest _ _ (v.rest _ _ e ne) ne⟩
  intro ys H9 i a g;nofun;obtain⟨u,tQ,L,QL,v⟩:=g;ac_rfl;have c:=X.trans v;right;calc⟨by show 4<=sizeLine;decide,λt g=>?_⟩;have a:=av.new (.tup [.int M,.ref D,.ref S,.ref I]) g;calc q t D S I ys M ns row u _ (c.new g) af (a _ _ (v.rest _ _ en8 y)) (a _ _ (v.rest _ _ er8 W)) (a _ _ i) (tQ.aL a.aV) fD QJ QK ⟨DY,pF,by lia,by lia,by lia,qL,QA,by lia,λd j=>?_⟩;rw[G];have e:(((1+m).toNat:Nat):Int)=1+m:=by lia
  rw[e];calc QL d j
theorem qM{l:List Int}(h:l.length=1):∃a,l=[a]:=List.length_eq_one_iff.mp h
theorem Vq{l:List Int}(h:l.length=2):∃a b,l=[a,b]:=by
 rcases l with _|⟨a,_|⟨b,l⟩⟩
 ·cases h
 ·cases h
 ·cases List.length_eq_zero_iff.mp (Nat.succ.inj (Nat.succ.inj h));calc⟨a,b,rfl⟩
abbrev ji:Stmt:=top 30
inductive uW(K:W.Frag)(vs:List V)(H:Hp)(Q:VK):Prop
 |mk (x:_) (st:_) (way:_) (said:_) (v:_) (ns:_) (row:_) (n:_) (h0:vs=[x,st,.int way,.int said]) (h1:HT H n x (Val.dv v)) (h2:xW K H st ns row) (h3:v.ok ns.length) (h4:Q (.int (r6 ns row way said v)) H):uW K vs H Q
def yz(K:W.Frag):Sp:=λvs H Q _=>uW K vs H Q
theorem tU(D:dq K mg "plain_worth" "plain_worth" ji ["value","state","way","said"])(T:Tx K mg C CN CR F FD):Def P w K mg base "plain_worth" 1 ["value","state","way","said"] (yz K):=by
 have sc:aE ["value","state","way","said","word"] ["value","state","way","said"] (ay ji):=by walk_at "s"
 symm
 ·obtain⟨x,st,way,g,v,ns,row,n,rfl,k,B,o,q⟩:=h;rfl
 ·nofun;obtain⟨x,st,way,g,v,ns,row,n,rfl,k,B,o,q⟩:=h;ac_rfl;have b:=hr.units;refine⟨_,(aj (bb (i:=4) sc.nd rfl (by grind) (ak b (aq 0) ai))
   (aj (aW (aC (aT b) (aq 4) aD (aG _)) (ao (aI (ak b (aq 0) ai))) aJ)
   (aj (aW (aC (aT b) (aq 4) aD (aG _)) (ao (aI (ak b (ak b (aq 1) ai) (ak b (aq 0) ai)))) aJ)
   (aj (aW (aC (aT b) (aq 4) aD (aG _)) (ao (aI (aq 3))) aJ)
   (aj (aW (aC (aT b) (aq 4) aD (aG _)) (ao (aI (aq 2))) aJ)
   (ao (aI (Fm (aC o8 (bc aP rfl T.cp T' (ag (ak b (aq 1) ai) aa)) ai (aG _)) (ak b (ak b (aq 1) ai) ai) ai)))))))),?_⟩
  nofun;obtain⟨a,L,M,rfl,t,u,G⟩:=B;ac_rfl
  cases v with
  |is z=>
   nofun;obtain⟨p,l,J,m,rfl,c,d,y⟩:=cD k;obtain rfl:=d.bN;obtain rfl:=y.bR;ac_rfl;walk_at "jd";refine cL _ _ (.inr (bI.of c)) rfl ?_;walk_at "jd"
   try rw[if_pos (by decide +kernel)]
   calc⟨_,_,.inr (bI.of c),rfl,q⟩
  |number i=>
   nofun;obtain⟨p,l,J,m,rfl,c,d,y⟩:=cD k;obtain rfl:=d.bN;obtain rfl:=y.bR;obtain⟨j,rfl⟩:=W' o.1;ac_rfl;have I:j<ns.length:=by have:=o.2;lia
   walk_at "jd";refine cL _ _ (.inr (bI.of c)) rfl ?_;walk_at "jd"
   try rw[if_neg (by decide +kernel)]
   left
   try rw[if_pos (by decide +kernel)]
   calc⟨_,_,.inr (bI.of t),rfl,_,_,.inr (bI.of c),rfl,?_⟩;calc⟨_,.int ns[j],u,aA (by rw[List.getElem?_map,cP I];rfl),?_⟩;have e:r6 ns row way g (.number j)=ns[j]:=by
    show ns.getD (j:Int).toNat 0=ns[j];simp[List.getD_eq_getElem?_getD,cP I]
   rw[e]at q;calc q
  |mx=>
   nofun;obtain⟨p,l,m,rfl,c,d⟩:=gw k;obtain rfl:=d.bN;ac_rfl;walk_at "jd";refine cL _ _ (.inr (bI.of c)) rfl ?_;walk_at "jd"
   try rw[if_neg (by decide +kernel)]
   left
   try rw[if_neg (by decide +kernel)]
   left
   try rw[if_pos (by decide +kernel)]
   calc q
  |way=>
   nofun;obtain⟨p,l,m,rfl,c,d⟩:=gw k;obtain rfl:=d.bN;ac_rfl;walk_at "jd";refine cL _ _ (.inr (bI.of c)) rfl ?_;walk_at "jd"
   try rw[if_neg (by decide +kernel)]
   left
   try rw[if_neg (by decide +kernel)]
   left
   try rw[if_neg (by decide +kernel)]
   left
   try rw[if_pos (by decide +kernel)]
   calc q
  |first=>
   nofun;obtain⟨p,l,m,rfl,c,d⟩:=gw k;obtain rfl:=d.bN;ac_rfl;walk_at "jd";refine cL _ _ (.inr (bI.of c)) rfl ?_;walk_at "jd"
   try rw[if_neg (by decide +kernel)]
   left
   try rw[if_neg (by decide +kernel)]
   left
   try rw[if_neg (by decide +kernel)]
   left
   try rw[if_neg (by decide +kernel)]
   calc cL _ _ (.inr (bI.of t)) rfl ?_;refine bH _ (G.elim (λz=>.inl ⟨_,z,rfl⟩) (λz=>.inr ⟨_,z,rfl⟩)) ?_
   cases row with
   |nil=>
    left;rw[if_neg (by simp)];calc q
   |cons r b=>
    left;rw[if_pos (by simp)];calc⟨_,_,.inr (bI.of t),rfl,_,_,G,aA (j:=0) rfl,q⟩
abbrev mM:Stmt:=top 31
inductive uX(K:W.Frag)(vs:List V)(H:Hp)(Q:VK):Prop
 |mk (x:_) (st:_) (way:_) (said:_) (m:_) (v:_) (ns:_) (row:_) (n:_) (h0:vs=[x,st,.int way,.int said,.int m]) (h1:HT H n x (Val.dv v)) (h2:xW K H st ns row) (h3:v.ok ns.length) (h4:0<m) (h5:Q (.int (r6 ns row way said v%m)) H):uX K vs H Q
def yA(K:W.Frag):Sp:=λvs H Q _=>uX K vs H Q
theorem Av(D:dq K mg "worth_of" "worth_of" mM ["value","state","way","said","modulus"])(T:Tx K mg C CN CR F FD)(i:Def P w K mg base "plain_worth" 1 ["value","state","way","said"] (yz K)):Def P w K mg base "worth_of" 2 ["value","state","way","said","modulus"] (yA K):=by
 have sc:aE ["value","state","way","said","modulus"] ["value","state","way","said","modulus"] (ay mM):=by walk_at "s"
 symm
 ·obtain⟨x,st,b,a,m,v,ns,row,n,rfl,c,d,e,g,q⟩:=h;rfl
 ·nofun;obtain⟨x,st,b,a,m,v,ns,row,n,rfl,c,d,e,g,q⟩:=h;ac_rfl;have j:=hr.units;refine⟨_,(ao (aI (aQ cH (aM i hr (ag (aq 0) (ag (aq 1) (ag (aq 2) (ag (aq 3) aa))))) (aq 4)))),?_⟩;walk_at "jd";exact⟨x,st,b,a,v,ns,row,n,rfl,c,d,e,g,q⟩
abbrev kR:Stmt:=top 38
inductive VL(H:Hp)(n:Nat):List V->List Val->Prop
 |nil:VL H n [] []
 |cons {x v xs vs}:HT H n x (Val.dv v)->VL H n xs vs->VL H n (x::xs) (v::vs)
theorem VL.same{H H':Hp}{n:Nat}(s:bS H H'){xs:List V}{vs:List Val}(h:VL H n xs vs):VL H' n xs vs:=by
 induction h with
 |nil=>calc .nil
 |cons a _ b=>calc .cons (a.aL s) b
theorem VL.snoc{H:Hp}{n:Nat}{xs:List V}{vs:List Val}{x:V}{v:Val}(h:VL H n xs vs)(a:HT H n x v.dv):VL H n (xs++[x]) (vs++[v]):=by
 induction h with
 |nil=>calc .cons a .nil
 |cons a _ b=>calc .cons a b
theorem VL.len{H:Hp}{n:Nat}{xs:List V}{vs:List Val}(h:VL H n xs vs):xs.length=vs.length:=by
 induction h with
 |nil=>rfl
 |cons _ _ a=>simp[a]
inductive PL(H:Hp)(n:Nat):List V->List (Option Val)->Prop
 |nil:PL H n [] []
 |str {w xs os}:PL H n xs os->PL H n (.str w::xs) (none::os)
 |int {i xs os}:PL H n xs os->PL H n (.int i::xs) (none::os)
 |val {x v xs os}:HT H n x (Val.dv v)->PL H n xs os->PL H n (x::xs) (some v::os)
theorem PL.get{H:Hp}{n:Nat}{xs:List V}{b:List (Option Val)}(h:PL H n xs b):∀{i:Nat}{x:V},xs[i]?=some x->∃o,b[i]?=some o/\((o=none/\((∃w,x=.str w)\/∃j,x=.int j))\/∃v,o=some v/\HT H n x (Val.dv v)):=by
 induction h with
 |nil=>intro i x h;simp at h
 |str _ a=>
  intro i x h
  cases i with
  |zero=>cases h;calc⟨none,rfl,.inl ⟨rfl,.inl ⟨_,rfl⟩⟩⟩
  |succ i=>calc a h
 |int _ a=>
  intro i x h
  cases i with
  |zero=>cases h;calc⟨none,rfl,.inl ⟨rfl,.inr ⟨_,rfl⟩⟩⟩
  |succ i=>calc a h
 |val c _ a=>
  intro i x h
  cases i with
  |zero=>cases h;calc⟨some _,rfl,.inr ⟨_,rfl,c⟩⟩
  |succ i=>calc a h
theorem PL.len{H:Hp}{n:Nat}{xs:List V}{a:List (Option Val)}(h:PL H n xs a):xs.length=a.length:=by
 induction h with
 |nil=>rfl
 |str _ a=>simp[a]
 |int _ a=>simp[a]
 |val _ _ a=>simp[a]
theorem Cd{H:Hp}{n:Nat}{x:V}{d:bD}(hx:HT H n x d.dv):∃a xs b k0,x=.ref a/\H a=some (.tup xs)/\PL H k0 xs b/\b.filterMap id=d.vals/\xs.length<=4:=by
 cases d with
 |set i v=>
  nofun;walk_at "xg";obtain rfl:=g1.bN;obtain rfl:=g2.bR;ac_rfl;exact⟨a,_,_,k0,rfl,ha,.str (.int (.val g3 .nil)),rfl,by simp⟩
 |add i v=>
  nofun;walk_at "xg";obtain rfl:=g1.bN;obtain rfl:=g2.bR;ac_rfl;exact⟨a,_,_,k0,rfl,ha,.str (.int (.val g3 .nil)),rfl,by simp⟩
 |times i v=>
  nofun;walk_at "xg";obtain rfl:=g1.bN;obtain rfl:=g2.bR;ac_rfl;exact⟨a,_,_,k0,rfl,ha,.str (.int (.val g3 .nil)),rfl,by simp⟩
 |put v=>
  nofun;obtain⟨a,u1,u2,k0,rfl,ha,g1,g2⟩:=cD hx;obtain rfl:=g1.bN;ac_rfl;calc⟨a,_,_,k0,rfl,ha,.str (.val g2 .nil),rfl,by simp⟩
 |drop=>
  nofun;obtain⟨a,u1,k0,rfl,ha,g1⟩:=gw hx;obtain rfl:=g1.bN;ac_rfl;calc⟨a,_,_,k0,rfl,ha,.str (.nil),rfl,by simp⟩
 |send j v=>
  nofun;walk_at "xg";obtain rfl:=g1.bN;obtain rfl:=g2.bR;ac_rfl;exact⟨a,_,_,k0,rfl,ha,.str (.int (.val g3 .nil)),rfl,by simp⟩
 |say v=>
  nofun;obtain⟨a,u1,u2,k0,rfl,ha,g1,g2⟩:=cD hx;obtain rfl:=g1.bN;ac_rfl;calc⟨a,_,_,k0,rfl,ha,.str (.val g2 .nil),rfl,by simp⟩
 |skip v b e=>
  nofun;obtain⟨a,u1,u2,u3,f,k0,rfl,ha,g1,g2,g3,c⟩:=j3 hx;obtain rfl:=g1.bN;obtain rfl:=c.bR;ac_rfl;calc⟨a,_,_,k0,rfl,ha,.str (.val g2 (.val g3 (.int .nil))),rfl,by simp⟩
inductive yB(vs:List V)(H:Hp)(Q:VK):Prop
 |mk (x:_) (n:_) (d:_) (h0:vs=[x]) (h1:HT H n x (bD.dv d)) (h2:∀l zs k0 H',av H H'->H l=none->H' l=some (.lst zs)->VL H' k0 zs d.vals->Q (.ref l) H'):yB vs H Q
def Ce:Sp:=λvs H Q _=>yB vs H Q
theorem yC(D:dq K mg "values_of" "values_of" kR ["deed"])(T:Tx K mg C CN CR F FD):Def P w K mg base "values_of" 1 ["deed"] Ce:=by
 have sc:aE ["deed"] ["deed"] (ay kR):=by walk_at "s"
 symm
 ·obtain⟨x,n,d,rfl,I,q⟩:=h;rfl
 ·nofun;obtain⟨x,n,d,rfl,I,q⟩:=h;ac_rfl;have hu:=hr.units;refine⟨_,(ao (aI (dO (N':=["part"]) (ix:=[none]) (cu (pv 0)) (λ_ _ _ _=>(ba (i:=0) (show(["part"]:List Str).Nodup by decide +kernel) rfl (by grind))) (λ_ _ _ _=>(i3 (bo (bc (uG (K:=K) rfl) rfl T.aR qA (ag (aq 0) (ag (cN (v:=.ty "tuple") rfl T.cB tq rfl) aa)))))) (λ_ _ _ _=>(aq 0))))),?_⟩;nofun;obtain⟨a,k,u,L,rfl,p,M,U,T⟩:=Cd I;ac_rfl;left;refine bT ?_;left;refine .inr ⟨⟨_,bI.of p⟩,λD y=>?_⟩;refine bz (J:=Kq K a) (n:=k.length) (λi ys H'=>av H H'/\VL H' L ys ((u.take i).filterMap id)) (L' (aH (by lia))) ⟨av.new _ y,.nil⟩ ?_ ?_ ?_ ?_
  ·rintro i ys H' z ⟨g,_⟩;exact⟨k,k[i],bI.of (g _ _ p),cP z⟩
  ·rintro ys H' ⟨g,_⟩;exact⟨k,bI.of (g _ _ p),K' _⟩
  ·intro i ys H' z l N X x r Y;nofun;obtain⟨g,m⟩:=X;obtain⟨rfl,n⟩:=Y;have I:=n k (bI.of (g _ _ p));obtain⟨o,T,Z⟩:=M.get I;ac_rfl;have O:u.take (i+1)=u.take i++[o]:=by
    rw[List.take_add_one,T];rfl
   walk_at "xf";left;rcases Z with⟨rfl,hc⟩|⟨v,rfl,B⟩
   ·have G:∃t,gv K r x t/\W.kitOne K t (.type "tuple")=some false:=by
     rcases hc with⟨w,rfl⟩|⟨j,rfl⟩
     ·exact⟨_,.str w,rfl⟩
     ·exact⟨_,.int j,rfl⟩
    obtain⟨t,i,j⟩:=G;refine cL t false i j ?_
    first|calc⟨false,rfl,?_⟩|skip
    left
    try rw[if_neg Bool.false_ne_true]
    exact⟨ys,l,by lia,g,by rw[O];simpa using m⟩
   ·have R:=B.aL g.aV;nofun;obtain⟨b,zs,rfl,i⟩:=BV R;ac_rfl;refine cL _ true (.tup i) rfl ?_
    first|calc⟨true,rfl,?_⟩|skip
    left
    try first|rw[if_pos rfl]|rw[if_pos trivial]
    calc cJ l N z (L' (aH (by lia))) ⟨λc o e=>by rw[az (au e y)];calc g _ _ e,?_⟩;rw[O,List.filterMap_append];have S:bS r (upd r D (.lst (ys++[.ref b]))):=(bS.refl r).upd λzs e=>by rw[l]at e;cases e
    exact(m.same S).snoc (R.aL S)
  ·rintro ys H' l N ⟨g,m⟩;rw[M.len,List.take_length,U]at m;calc q _ ys L _ g y l m
abbrev gA:Stmt:=top 46
inductive Cf(vs:List V)(H:Hp)(Q:VK):Prop
 |mk (an:Addr) (x:V) (l:Addr) (ns ws:List Int) (M:Int) (n:Nat) (d:bD) (h0:vs=[.ref an,x,.ref l,.int M]) (h1:H an=some (.lst (ns.map V.int))) (h2:HT H n x d.dv) (h3:H l=some (.lst (ws.map V.int))) (h4:ws.length=d.vals.length) (h5:d.ok ns.length) (h6:0<M) (h7:M<=1000000000000) (h8:(∀z∈ns,0<=z/\z<M)) (h9:∀H',H' an=some (.lst ((c9 M ns (ws.getD 0 0) d).map V.int))->(∀b o,b≠an->H b=some o->H' b=some o)->Q .bM H'):Cf vs H Q
def HY:Sp:=λvs H Q _=>Cf vs H Q
theorem pJ(D:dq K mg "change_numbers" "change_numbers" gA ["numbers","deed","worths","modulus"])(T:Tx K mg C CN CR F FD):Def P w K mg base "change_numbers" 1 ["numbers","deed","worths","modulus"] HY:=by
 have sc:aE ["numbers","deed","worths","modulus"] ["numbers","deed","worths","modulus"] (ay gA):=by walk_at "s"
 symm
 ·obtain⟨g,x,l,ns,ws,M,n,d,rfl,k,hx,L,u,y,B,N,G,q⟩:=h;rfl
 ·nofun;obtain⟨g,x,l,ns,ws,M,n,d,rfl,k,hx,L,u,y,B,N,G,q⟩:=h;ac_rfl;have g:=hr.units;refine⟨_,(ao (aW (aC (aT g) (ak g (aq 1) ai) aD (aG _)) (ao (fA (ak g (aq 2) ai) (jc (aq 0) (ak g (aq 1) ai) eI))) (ao (aW (aC (aT g) (ak g (aq 1) ai) aD (aG _)) (ao (fA (aQ cH (aQ cC (ak g (aq 0) (ak g (aq 1) ai)) (ak g (aq 2) ai)) (aq 3)) (jc (aq 0) (ak g (aq 1) ai) eI))) (ao (aW (aC (aT g) (ak g (aq 1) ai) aD (aG _)) (ao (fA (aQ cH (aQ lO (ak g (aq 0) (ak g (aq 1) ai)) (ak g (aq 2) ai)) (aq 3)) (jc (aq 0) (ak g (aq 1) ai) eI))) aJ)))))),?_⟩
  cases d with
  |set i v=>
   nofun;walk_at "xg";obtain rfl:=g1.bN;obtain rfl:=g2.bR;obtain⟨j,rfl⟩:=qM u;obtain⟨p,I,_⟩:=y;obtain⟨c,rfl⟩:=W' p;ac_rfl;have m:c<ns.length:=by lia
   have r:qu (ns.map V.int).length (c:Int)=some c:=by
    unfold qu;left;rw[if_pos (by lia)];left;rw[if_pos (by rw[List.length_map];lia)];rfl
   have J:ia (ns.map V.int) (c:Int)=some (.int ns[c]):=aA (by rw[List.getElem?_map,cP m];rfl);have z:ns.getD (c:Int).toNat 0=ns[c]:=by simp[List.getD_eq_getElem?_getD,cP m]
   walk_at "jg";refine cL _ c k r ?_;refine q _ ?_ λb o t e=>by rw[az t];exact e
   rw[af];have:(ns.map V.int).set c (.int j)=(c9 M ns (([j]:List Int).getD 0 0) (.set c v)).map V.int:=by
    rw[<-List.map_set];show List.map V.int (ns.set c j)=List.map V.int (ns.set (c:Int).toNat j);rfl
   rw[<-this]
  |add i v=>
   nofun;walk_at "xg";obtain rfl:=g1.bN;obtain rfl:=g2.bR;obtain⟨j,rfl⟩:=qM u;obtain⟨p,I,_⟩:=y;obtain⟨c,rfl⟩:=W' p;ac_rfl;have m:c<ns.length:=by lia
   have r:qu (ns.map V.int).length (c:Int)=some c:=by
    unfold qu;left;rw[if_pos (by lia)];left;rw[if_pos (by rw[List.length_map];lia)];rfl
   have J:ia (ns.map V.int) (c:Int)=some (.int ns[c]):=aA (by rw[List.getElem?_map,cP m];rfl);have z:ns.getD (c:Int).toNat 0=ns[c]:=by simp[List.getD_eq_getElem?_getD,cP m]
   walk_at "jg";refine⟨B,?_⟩;walk_at "jg";refine cL _ c k r ?_;refine q _ ?_ λb o t e=>by rw[az t];exact e
   rw[af];have:(ns.map V.int).set c (.int ((ns[c]+j)%M))=(c9 M ns (([j]:List Int).getD 0 0) (.add c v)).map V.int:=by
    rw[<-List.map_set];show List.map V.int (ns.set c ((ns[c]+j)%M))=List.map V.int (ns.set (c:Int).toNat ((ns.getD (c:Int).toNat 0+j)%M));rw[z];rfl
   rw[<-this]
  |times i v=>
   nofun;walk_at "xg";obtain rfl:=g1.bN;obtain rfl:=g2.bR;obtain⟨j,rfl⟩:=qM u;obtain⟨p,I,_⟩:=y;obtain⟨c,rfl⟩:=W' p;ac_rfl;have m:c<ns.length:=by lia
   have r:qu (ns.map V.int).length (c:Int)=some c:=by
    unfold qu;left;rw[if_pos (by lia)];left;rw[if_pos (by rw[List.length_map];lia)];rfl
   have J:ia (ns.map V.int) (c:Int)=some (.int ns[c]):=aA (by rw[List.getElem?_map,cP m];rfl);have z:ns.getD (c:Int).toNat 0=ns[c]:=by simp[List.getD_eq_getElem?_getD,cP m]
   walk_at "jg";have g:=G ns[c] (aaf m);refine gW (.inl ⟨by lia,by lia⟩) B ?_;walk_at "jg";refine cL _ c k r ?_;refine q _ ?_ λb o t e=>by rw[az t];exact e
   rw[af];have:(ns.map V.int).set c (.int ((ns[c]*j)%M))=(c9 M ns (([j]:List Int).getD 0 0) (.times c v)).map V.int:=by
    rw[<-List.map_set];show List.map V.int (ns.set c ((ns[c]*j)%M))=List.map V.int (ns.set (c:Int).toNat ((ns.getD (c:Int).toNat 0*j)%M));rw[z];rfl
   rw[<-this]
  |put v=>
   nofun;obtain⟨a,u1,u2,k0,rfl,ha,g1,g2⟩:=cD hx;obtain rfl:=g1.bN;ac_rfl;walk_at "jg";exact q H k λ_ _ _ e=>e
  |drop=>
   nofun;obtain⟨a,u1,k0,rfl,ha,g1⟩:=gw hx;obtain rfl:=g1.bN;ac_rfl;walk_at "jg";exact q H k λ_ _ _ e=>e
  |send j v=>
   nofun;walk_at "xg";obtain rfl:=g1.bN;obtain rfl:=g2.bR;ac_rfl;walk_at "jg";exact q H k λ_ _ _ e=>e
  |say v=>
   nofun;obtain⟨a,u1,u2,k0,rfl,ha,g1,g2⟩:=cD hx;obtain rfl:=g1.bN;ac_rfl;walk_at "jg";exact q H k λ_ _ _ e=>e
  |skip v c g=>
   nofun;obtain⟨a,u1,u2,u3,R,k0,rfl,ha,g1,g2,g3,O⟩:=j3 hx;obtain rfl:=g1.bN;obtain rfl:=O.bR;ac_rfl;walk_at "jg";exact q H k λ_ _ _ e=>e
abbrev j8:Stmt:=top 47
inductive Cg(vs:List V)(H:Hp)(Q:VK):Prop
 |mk (an:Addr) (x:V) (l:Addr) (row ws:List Int) (n:Nat) (d:bD) (h0:vs=[.ref an,x,.ref l]) (h1:H an=some (.lst (row.map V.int))) (h2:HT H n x d.dv) (h3:H l=some (.lst (ws.map V.int))) (h4:ws.length=d.vals.length) (h5:row.length<=12) (h6:∀H',H' an=some (.lst ((f7 row (ws.getD 0 0) d).map V.int))->(∀b o,b≠an->H b=some o->H' b=some o)->Q .bM H'):Cg vs H Q
def HZ:Sp:=λvs H Q _=>Cg vs H Q
theorem wu(D:dq K mg "change_row" "change_row" j8 ["row","deed","worths"])(T:Tx K mg C CN CR F FD):Def P w K mg base "change_row" 1 ["row","deed","worths"] HZ:=by
 have sc:aE ["row","deed","worths"] ["row","deed","worths"] (ay j8):=by walk_at "s"
 symm
 ·obtain⟨t,x,l,row,ws,n,d,rfl,c,hx,u,p,g,q⟩:=h;rfl
 ·nofun;obtain⟨t,x,l,row,ws,n,d,rfl,c,hx,u,p,g,q⟩:=h;ac_rfl;have g:=hr.units;refine⟨_,(ao (aW (PW.pt (pw_and (aC (aT g) (ak g (aq 1) ai) aD (aG _)) (pw_and1 (aC gU (bc aP rfl T.cp T' (ag (aq 0) aa)) (fY T.fG rfl) (aG _))))) (ao (bV (dA nJ qm qo bW (aq 0) (ag (ak g (aq 2) ai) aa)))) (ao (aW (PW.pt (pw_and (aC (aT g) (ak g (aq 1) ai) aD (aG _)) (pw_and1 (aC o8 (bc aP rfl T.cp T' (ag (aq 0) aa)) ai (aG _))))) (ao (K8 (aq 0) ai)) aJ)))),?_⟩
  cases d with
  |set i v=>
   nofun;walk_at "xg";obtain rfl:=g1.bN;obtain rfl:=g2.bR;ac_rfl;walk_at "jg";exact q H c λ_ _ _ e=>e
  |add i v=>
   nofun;walk_at "xg";obtain rfl:=g1.bN;obtain rfl:=g2.bR;ac_rfl;walk_at "jg";exact q H c λ_ _ _ e=>e
  |times i v=>
   nofun;walk_at "xg";obtain rfl:=g1.bN;obtain rfl:=g2.bR;ac_rfl;walk_at "jg";exact q H c λ_ _ _ e=>e
  |put v=>
   nofun;obtain⟨a,u1,u2,k0,rfl,ha,g1,g2⟩:=cD hx;obtain rfl:=g1.bN;obtain⟨j,rfl⟩:=qM p;ac_rfl;walk_at "jg";refine bH _ (.inl ⟨_,aU.of c,rfl⟩) ?_;rw[List.length_map];by_cases k:row.length<12
   ·left;rw[if_pos (by simp;lia)];walk_at "jg";refine⟨.inl ⟨rfl,_,aU.of c⟩,?_⟩;walk_at "jg";refine ik _ c (Nat.lt_of_le_of_lt (by simp;lia) (aH (n:=100) (by lia))) ?_;refine q _ ?_ λb o m e=>by rw[az m];exact e
    rw[af];have:(row.map V.int)++[V.int j]=(f7 row (([j]:List Int).getD 0 0) (.put v)).map V.int:=by
     show _=(if row.length<12 then row++[j] else row).map V.int;rw[if_pos k];simp
    rw[this]
   ·left;rw[if_neg (by simp;lia)];walk_at "jg";refine q H ?_ λ_ _ _ e=>e;have:(f7 row (([j]:List Int).getD 0 0) (.put v))=row:=by
     show(if row.length<12 then row++[j] else row)=row;left;rw[if_neg k]
    rw[this];calc c
  |drop=>
   nofun;obtain⟨a,u1,k0,rfl,ha,g1⟩:=gw hx;obtain rfl:=g1.bN;ac_rfl;walk_at "jg";refine bH _ (.inl ⟨_,aU.of c,rfl⟩) ?_
   cases row with
   |nil=>
    left
    try rw[if_neg (by simp)]
    calc q H c λ_ _ _ e=>e
   |cons r g=>
    left;rw[if_pos (by simp)];walk_at "jg";refine aax _ _ _ 0 rfl rfl c (by decide) (by decide) (by simp[seqIndex?]) ?_;exact q _ af λb o m e=>by rw[az m];exact e
  |send j v=>
   nofun;walk_at "xg";obtain rfl:=g1.bN;obtain rfl:=g2.bR;ac_rfl;walk_at "jg";exact q H c λ_ _ _ e=>e
  |say v=>
   nofun;obtain⟨a,u1,u2,k0,rfl,ha,g1,g2⟩:=cD hx;obtain rfl:=g1.bN;ac_rfl;walk_at "jg";exact q H c λ_ _ _ e=>e
  |skip v g i=>
   nofun;obtain⟨a,u1,u2,u3,z,k0,rfl,ha,g1,g2,g3,y⟩:=j3 hx;obtain rfl:=g1.bN;obtain rfl:=y.bR;ac_rfl;walk_at "jg";exact q H c λ_ _ _ e=>e
abbrev mN:Stmt:=top 48
inductive yF(vs:List V)(H:Hp)(Q:VK):Prop
 |mk (x:V) (l:Addr) (ws:List Int) (n:Nat) (d:bD) (h0:vs=[x,.ref l]) (h1:HT H n x d.dv) (h2:H l=some (.lst (ws.map V.int))) (h3:ws.length=d.vals.length) (h4:Q (.int (gb (ws.getD 0 0) (ws.getD 1 0) d)) H):yF vs H Q
def Ci:Sp:=λvs H Q _=>yF vs H Q
theorem Ax(D:dq K mg "left_out" "left_out" mN ["deed","worths"])(T:Tx K mg C CN CR F FD):Def P w K mg base "left_out" 1 ["deed","worths"] Ci:=by
 have sc:aE ["deed","worths"] ["deed","worths"] (ay mN):=by walk_at "s"
 symm
 ·obtain⟨x,l,ws,n,d,rfl,hx,g,o,q⟩:=h;rfl
 ·nofun;obtain⟨x,l,ws,n,d,rfl,hx,g,o,q⟩:=h;ac_rfl;have g:=hr.units;refine⟨_,(aj (aW (PW.pt (pw_and (aC (aT g) (ak g (aq 0) ai) aD (aG _)) (pw_and1 (aC gU (ak g (aq 1) ai) (ak g (aq 1) ai) (aG _))))) (ao (aI (ak g (aq 0) ai))) aJ)
   (ao (aI ai))),?_⟩
  cases d with
  |set i v=>
   nofun;walk_at "xg";obtain rfl:=g1.bN;obtain rfl:=g2.bR;ac_rfl;walk_at "jg";exact q
  |add i v=>
   nofun;walk_at "xg";obtain rfl:=g1.bN;obtain rfl:=g2.bR;ac_rfl;walk_at "jg";exact q
  |times i v=>
   nofun;walk_at "xg";obtain rfl:=g1.bN;obtain rfl:=g2.bR;ac_rfl;walk_at "jg";exact q
  |put v=>
   nofun;obtain⟨a,u1,u2,k0,rfl,ha,g1,g2⟩:=cD hx;obtain rfl:=g1.bN;ac_rfl;walk_at "jg";exact q
  |drop=>
   nofun;obtain⟨a,u1,k0,rfl,ha,g1⟩:=gw hx;obtain rfl:=g1.bN;ac_rfl;walk_at "jg";exact q
  |send j v=>
   nofun;walk_at "xg";obtain rfl:=g1.bN;obtain rfl:=g2.bR;ac_rfl;walk_at "jg";exact q
  |say v=>
   nofun;obtain⟨a,u1,u2,k0,rfl,ha,g1,g2⟩:=cD hx;obtain rfl:=g1.bN;ac_rfl;walk_at "jg";exact q
  |skip v k e=>
   nofun;obtain⟨a,u1,u2,u3,r,k0,rfl,ha,g1,g2,g3,p⟩:=j3 hx;obtain rfl:=g1.bN;obtain rfl:=p.bR;obtain⟨b,c,rfl⟩:=Vq o;ac_rfl;walk_at "jg";by_cases m:b<c
   ·left;rw[if_pos (by simpa using m)];walk_at "jg";have:gb b c (.skip v k e)=e:=if_pos m;rw[show gb (([b,c]:List Int).getD 0 0) (([b,c]:List Int).getD 1 0) (.skip v k e)=e from this]at q;exact q
   ·left;rw[if_neg (by simpa using m)];have:gb b c (.skip v k e)=0:=if_neg m;rw[show gb (([b,c]:List Int).getD 0 0) (([b,c]:List Int).getD 1 0) (.skip v k e)=0 from this]at q;left;calc q
theorem Ia{d:TT}{f:TS}{D:Ends}(e:St->Hp->Prop)(μ:St->Nat)(h:e σ H)
  (i:∀σ H,e σ H->d σ H λb H1=>if b=true then ∃N:St->Hp->Prop,(∀a H',N a H'->e a H'/\μ a<μ σ)/\f {D with nx:=N,ct:=N,bk:=D.nx} σ H1 else D.nx σ H1)
  (c:∀σ H (Q g:Bool->Hp->Prop),(∀b H1,Q b H1->g b H1)->d σ H Q->d σ H g):vD d f D σ H:=by
 calc⟨λm σ H=>m=μ σ/\e σ H,⟨_,rfl,h⟩,?_⟩;rintro m σ H ⟨rfl,p⟩;refine c σ H _ _ (λb H1 q=>?_) (i σ H p)
 cases b with
 |true=>
  obtain⟨N,c,d⟩:=q;calc⟨N,λa H' n=>⟨_,(c a H' n).2,rfl,(c a H' n).1⟩,d⟩
 |false=>calc q
def SL(H:Hp)(a:List V)(b:List (Int×Int)):Prop:=a.length=b.length/\∀(i:Nat) z p,a[i]?=some z->b[i]?=some p->HT H 1 z (.tup [.int p.1,.int p.2])
theorem SL.aL(s:bS H H'){a:List V}{b:List (Int×Int)}(h:SL H a b):SL H' a b:=⟨h.1,λi z p a b=>(h.2 i z p a b).aL s⟩
theorem SL.snoc{c:List V}{d:List (Int×Int)}{j w:Int}(h:SL H c d)(g:HT H 1 z (.tup [.int j,.int w])):SL H (c++[z]) (d++[(j,w)]):=by
 calc⟨by simp[h.1],λi j p a b=>?_⟩;by_cases e:i<c.length
 ·rw[List.getElem?_append_left e]at a;rw[List.getElem?_append_left (by rw[<-h.1];calc e)]at b;exact h.2 i j p a b
 ·rw[List.getElem?_append_right (by lia)] at a;rw[List.getElem?_append_right (by rw[<-h.1];lia)] at b;rw[h.1] at a
  cases f:i-d.length with
  |zero=>rw[f]at a b;cases a;cases b;calc g
  |succ k=>rw[f]at a;simp at a
structure Res(H H':Hp)(x:V)(s:WS):Prop where
 ex:∃p st l1 l2 zs,x=.ref p/\H' p=some (.tup [st,.ref l1,.ref l2])/\HT H' 2 st (wY s.ns s.row)/\H' l1=some (.lst zs)/\SL H' zs s.cj/\H' l2=some (.lst (s.words.map V.int))/\H l1=none/\H l2=none/\l1≠l2
theorem dD{M w:Int}{d:bD}(e:0<M)(b:∀z∈ns,0<=z/\z<M)(f:0<=w/\w<M):∀z∈c9 M ns w d,0<=z/\z<M:=by
 have a:∀(j:Nat) (y:Int),(0<=y/\y<M)->∀z∈ns.set j y,0<=z/\z<M:=λj y g z i=>by
  rcases List.mem_or_eq_of_mem_set i with h|h
  ·exact b z h
  ·rw[h];exact g
 have c:∀y:Int,0<=y%M/\y%M<M:=λy=>⟨aaK _ (by lia),aaG _ e⟩
 cases d with
 |set i v=>calc a _ _ f
 |add i v=>calc a _ _ (c _)
 |times i v=>calc a _ _ (c _)
 |_=>calc b
theorem kS{w:Int}{row:List Int}{d:bD}(h:row.length<=12):(f7 row w d).length<=12:=by
 cases d with
 |put v=>
  show(if row.length<12 then row++[w] else row).length<=12;split
  ·simp;lia
  ·calc h
 |drop=>show row.tail.length<=12;simp;lia
 |_=>calc h
theorem Ib{m w w':Int}{d:bD}(h:d.ok m):0<=gb w w' d:=by
 cases d with
 |skip v u k=>
  show 0<=(if w<w' then k else 0)
  split
  ·exact Int.le_trans (by decide) h.2.2.1
  ·calc Int.le_refl _
 |_=>calc Int.le_refl _
theorem oA{m:Int}{d:bD}(h:d.ok m):∀v∈d.vals,v.ok m:=by
 intro v a
 cases d<;>simp only[bD.vals,List.mem_cons,List.not_mem_nil,or_false]at a
 case set=>subst a;exact h.2.2
 case add=>subst a;exact h.2.2
 case times=>subst a;exact h.2.2
 case put=>subst a;exact h
 case send=>subst a;exact h.2
 case say=>subst a;exact h
 case skip=>rcases a with rfl|rfl;calc h.1;calc h.2.1
theorem VL.get{H:Hp}{n:Nat}{xs:List V}{vs:List Val}(h:VL H n xs vs):∀{i:Nat}{x:V},xs[i]?=some x->∃v,vs[i]?=some v/\HT H n x (Val.dv v):=by
 induction h with
 |nil=>intro i x h;simp at h
 |cons a _ b=>
  intro i x h
  cases i with
  |zero=>cases h;calc⟨_,rfl,a⟩
  |succ i=>calc b h
theorem yG{d:bD}:d.vals.length<=2:=by cases d<;>simp[bD.vals]
theorem uY{M way said:Int}{ns row:List Int}{vs:List Val}{i:Nat}(a:0<M):0<=(vs.map (f6 M way said ns row)).getD i 0/\(vs.map (f6 M way said ns row)).getD i 0<M:=by
 rw[List.getD_eq_getElem?_getD,List.getElem?_map]
 cases vs[i]? with
 |none=>calc⟨Int.le_refl _,a⟩
 |some v=>calc⟨aaK _ (by lia),aaG _ a⟩
theorem Np{a:Nat}{k:Int}(h:0<=k):(a:Int)+(1+k)=((a+1+k.toNat:Nat):Int):=by lia
theorem Nq{α:Type}{x:α}{xs:List α}{a k f:Nat}(h:(x::xs.drop (a+1)).length<=f+1):(xs.drop (a+1+k)).length<=f:=by
 rw[List.length_drop];rw[List.length_cons,List.length_drop]at h;lia
theorem Nr{n a:Nat}{k:Int}(b:a<n)(h:0<=k):n-((a:Int)+(1+k)).toNat<n-a:=by lia
abbrev gB:Stmt:=(ck (top 49)).getD 4 (.Pass ⟨0,0,0,0⟩)
def muW(n:Nat)(σ:St):Nat:=match σ[8]? with
 |some (some (V.int i))=>n-i.toNat
 |_=>0
inductive sF(K:W.Frag)(C:Addr)(vs:List V)(H:Hp)(Q:VK):Prop
 |mk (m:Addr) (st:V) (way said M:Int) (ns0 DN:List Int) (ds:List bD) (ns row:List Int) (h0:vs=[.ref m,st,.int way,.int said]) (h1:iD C H m M ns0 DN ds) (h2:xW K H st ns row) (h3:2<=M) (h4:M<=1000000000000) (h5:(∀z∈ns,0<=z/\z<M)) (h6:row.length<=12) (h7:ds.length<=24) (h8:(∀d∈ds,d.ok ns.length)) (h9:∀x H',av H H'->Res H H' x (oa M way said ds ns row)->Q x H'):sF K C vs H Q
def uZ(K:W.Frag)(C:Addr):Sp:=λvs H Q _=>sF K C vs H Q
inductive QO(H:Hp)(m:Addr)(st:V)(way said M:Int)(ds:List bD)(ns row:List Int)(σ:St)(H':Hp):Prop
 |mk (an ar fT aw:Addr) (zs:List V) (z9 yH:Option V) (at_:Nat) (s:WS) (f:Nat) (h0:σ=[some (.ref m),some st,some (.int way),some (.int said),some (.ref an),some (.ref ar),some (.ref fT),some (.ref aw),some (.int at_),z9,yH]) (h1:av H H') (h2:H an=none) (h3:H ar=none) (h4:H fT=none) (h5:H aw=none) (h6:an≠ar) (h7:an≠fT) (h8:an≠aw) (h9:ar≠fT) (LH:ar≠aw) (QH:fT≠aw) (h12:H' an=some (.lst (s.ns.map V.int))) (h13:H' ar=some (.lst (s.row.map V.int))) (h14:H' fT=some (.lst zs)) (h15:SL H' zs s.cj) (h16:H' aw=some (.lst (s.words.map V.int))) (h17:s.ns.length=ns.length) (h18:(∀z∈s.ns,0<=z/\z<M)) (h19:s.row.length<=12) (h20:s.cj.length<=at_) (h21:s.words.length<=at_) (h22:xV M way said f (ds.drop at_) s=oa M way said ds ns row) (h23:(ds.drop at_).length<=f):QO H m st way said M ds ns row σ H'
theorem pK(D:gQ K C "worked" "Machine.worked" gB ["self","state","way","said"])(T:Tx K mg C CN CR F FD)(gC:Def P w K mg base "change_numbers" 1 ["numbers","deed","worths","modulus"] HY)(j9:Def P w K mg base "change_row" 1 ["row","deed","worths"] HZ)(mO:Def P w K mg base "left_out" 1 ["deed","worths"] Ci)(kT:Def P w K mg base "values_of" 1 ["deed"] Ce)(mP:Def P w K mg base "worth_of" 2 ["value","state","way","said","modulus"] (yA K)):eV P w K mg base C "worked" 3 ["self","state","way","said"] (uZ K C):=by
  have sc:aE ["self","state","way","said","numbers","row","sent","words","at","deed","worths"] ["self","state","way","said"] (ay gB):=by walk_at "s"
  symm
  · obtain⟨m,st,k,g,M,ns0,DN,l,ns,row,rfl,hm,oN,DY,pF,hb,ou,Nj,aZ,q⟩:=h;rfl
  · nofun;obtain⟨m,st,k,g,M,ns0,DN,l,ns,row,rfl,hm,oN,DY,pF,hb,ou,Nj,aZ,q⟩:=h;ac_rfl;have hu:=hr.units;refine⟨_,(aj (bb (i:=4) sc.nd rfl (by grind) (dQ cK rfl T.e9 ze (ag (ak hu (aq 1) ai) aa)))
      (aj (bb (i:=5) sc.nd rfl (by grind) (dQ cK rfl T.e9 ze (ag (ak hu (aq 1) ai) aa)))
      (aj (bb (i:=6) sc.nd rfl (by grind) (bF aa))
      (aj (bb (i:=7) sc.nd rfl (by grind) (bF aa))
      (aj (bb (i:=8) sc.nd rfl (by grind) ai)
      (aj (Fs PassesOwn.never (Bm gU (pv 8) (bc aP rfl T.cp T' (ag (bJ (pv 0) rfl) aa)) (aG _))
      (aj (bb (i:=9) sc.nd rfl (by grind) (ak hu (bJ (aq 0) rfl) (aq 8)))
      (aj (iy (i:=10) sc.nd rfl (by grind) (N':=["value","way","said","numbers","row","self"]) (ix:=[none,some 2,some 3,some 4,some 5,some 0]) (cu (aM kT hr (ag (aq 9) aa))) (λ_ _ _ _=>(ba (i:=0) (show(["value","way","said","numbers","row","self"]:List Str).Nodup by decide +kernel) rfl (by grind))) qx (λ_ _ _ _=>(aM mP hr (ag (aq 0) (ag (bQ (ag (aq 3) (ag (aq 4) aa))) (ag (aq 1) (ag (aq 2) (ag (Lb (K:=K) rfl (aq 5) rfl) aa))))))))
      (aj (bV (aM gC hr (ag (aq 4) (ag (aq 9) (ag (aq 10) (ag (bJ (aq 0) rfl) aa))))))
      (aj (bV (aM j9 hr (ag (aq 5) (ag (aq 9) (ag (aq 10) aa)))))
      (aj (aW (aC (aT hu) (ak hu (aq 9) ai) aD (aG _)) (ao (bV (dA nJ qm qo bW (aq 6) (ag (bQ (ag (ak hu (aq 9) ai) (ag (ak hu (aq 10) ai) aa))) aa)))) (ao (aW (aC (aT hu) (ak hu (aq 9) ai) aD (aG _)) (ao (bV (dA nJ qm qo bW (aq 7) (ag (ak hu (aq 10) ai) aa)))) aJ)))
      (ao (OQ (i:=8) sc.nd rfl (by grind) (aQ cC ai (aM mO hr (ag (aq 9) (ag (aq 10) aa)))) OS))))))))
      (ao (aI (bQ (ag (bQ (ag (dQ cR rfl T.cB tq (ag (aq 4) aa)) (ag (dQ cR rfl T.cB tq (ag (aq 5) aa)) aa))) (ag (aq 6) (ag (aq 7) aa)))))))))))),?_⟩
    nofun;obtain⟨dx,stm,dd,J4,hm2,hm3⟩:=hm;obtain⟨ad,xs,rfl,Vr,tQ⟩:=Vf hm3;obtain⟨sa,sb,Vs,rfl,Vt,hsb,Sf⟩:=oN;ac_rfl;left;calc cL _ _ (.inr (bI.of Vt)) rfl ?_;left;calc bH _ hsb (λu QP=>?_);have s1:=av.new (.lst (ns.map V.int)) QP;left;calc cL _ _ (.inr (bI.of (s1 _ _ Vt))) rfl ?_;left;have QQ:aU K (upd H u (.lst (ns.map V.int))) Vs (row.map V.int)\/bI K (upd H u (.lst (ns.map V.int))) Vs (row.map V.int):=Sf.elim (λz=>.inl (s1.seq z)) (λz=>.inr (s1.R1 z));calc bH _ QQ (λG Ec=>?_);have s2:=av.new (.lst (row.map V.int)) Ec;left;calc⟨aal _,λt pL=>?_⟩;have I:=av.new (.lst []) pL;left;calc⟨aal _,λB mI=>?_⟩;have s4:=av.new (.lst []) mI;left;have nra:G≠u:=λz=>by subst z;rw[af]at Ec;cases Ec
    have hrH:H G=none:=s1.free Ec;have hsH:H t=none:=(s1.trans s2).free pL;have hwH:H B=none:=(s1.trans (s2.trans I)).free mI;have nsa:t≠u:=λz=>by subst z;rw[s2 _ _ af]at pL;cases pL
    have nsr:t≠G:=λz=>by subst z;rw[af]at pL;cases pL
    have nwa:B≠u:=λz=>by subst z;rw[I _ _ (s2 _ _ af)]at mI;cases mI
    have nwr:B≠G:=λz=>by subst z;rw[I _ _ af]at mI;cases mI
    have nws:B≠t:=λz=>by subst z;rw[af]at mI;cases mI
    have Ic:=s1.trans (s2.trans (I.trans s4));have W:0<M:=by lia
    refine Ia (QO H m (.ref sa) k g M l ns row) (muW l.length) ?_ ?_ ?_
    · refine⟨u,G,t,B,[],none,none,0,⟨ns,row,[],[]⟩,l.length,rfl,Ic,QP,hrH,hsH,hwH,Ne.symm nra,Ne.symm nsa,Ne.symm nwa,Ne.symm nsr,Ne.symm nwr,Ne.symm nws,s4 _ _ (I _ _ (s2 _ _ af)),s4 _ _ (I _ _ af),s4 _ _ af,⟨rfl,λi z p e=>by simp at e⟩,af,rfl,hb,ou,K' _,K' _,rfl,K' _⟩
    · intro σ H1 j4;nofun;obtain⟨u,G,t,B,zs,z9,yH,c,s,f,rfl,sH,a1,a2,a3,a4,X,n2,n3,n4,n5,Y,e1,e2,e3,LQ,e5,rj,qL,mQ,LR,hwn,L,Z⟩:=j4;ac_rfl;have LS:=sH _ _ J4;have Vu:=sH _ _ Vr;have aa0:=tQ.aL sH.aV;left;calc fE LS T.cW T.Nh Ve ?_;left;calc bH _ (.inr ⟨_,bI.of Vu,rfl⟩) ?_;by_cases lU:c < l.length
      · have Vv:c < xs.length:=by rw[tQ.1];exact lU
        left;rw[if_pos (by simpa using Vv)];calc⟨λσ' H'=>QO H m (.ref sa) k g M l ns row σ' H'/\muW l.length σ'<l.length-c,λσ' H' h=>h,?_⟩;have rm:=aZ l[c] (aaf lU);have hx:=aa0.2 c xs[c] l[c] (cP Vv) (cP lU);have Sg:l.drop c=l[c]::l.drop (c+1):=List.drop_eq_getElem_cons lU;nofun;generalize hdd:l[c]=d at rm hx Sg;generalize hxx:xs[c]=x at hx;have exx:xs[c]?=some x:=by rw[cP Vv,hxx]
        obtain⟨f',rfl⟩:∃f',f=f'+1:=⟨f-1,by rw[Sg]at Z;simp at Z;lia⟩
        rw[Sg]at L Z
        replace L:xV M k g f' ((l.drop (c+1)).drop (me M k g d s).toNat) (gc M k g d s)=oa M k g l ns row:=L
        ac_rfl;rw[List.drop_drop]at L;left;calc fE LS T.cW T.Nh Ve ?_;left;calc cL _ x (.inr (bI.of Vu)) (aA exx) ?_;left;calc bT ?_;left;calc⟨x,3,d,rfl,hx,λl zv k0 H2 s2 Vw hl Nm=>?_⟩;calc .inl ⟨⟨_,aU.of hl⟩,λD hD=>?_⟩;have J8:=Nm.len;have Dk:=yG (d:=d);refine bz (J:=wU K l) (n:=zv.length) (λi ys H'=>ys=((d.vals.take i).map (f6 M k g s.ns s.row)).map V.int/\av H2 H') (L' (aH (by lia))) ⟨rfl,av.new _ hD⟩ ?_ ?_ ?_ ?_
        · rintro i ys H' hi ⟨_,I⟩;exact⟨_,zv[i],aU.of (I _ _ hl),cP hi⟩
        · rintro ys H' ⟨_,I⟩;exact⟨_,aU.of (I _ _ hl),K' _⟩
        · intro i ys H3 hi bL yy j5 y H4 pD;nofun;obtain⟨rfl,I⟩:=j5;obtain⟨rfl,l⟩:=pD;have ey:=l _ (aU.of (I _ _ hl));obtain⟨v,ev,hv⟩:=Nm.get ey;ac_rfl;have jf:=oA rm v (X' ev);walk_at "xf";left;rw[if_pos trivial];refine⟨du,λp hp=>?_⟩;have s4:=av.new (.tup [.ref u,.ref G]) hp;have l:=s2.trans (I.trans s4);refine fE (l _ _ LS) T.cW T.Ng Vd ?_;refine⟨y,.ref p,k,g,M,v,s.ns,s.row,k0,rfl,(hv.aL (I.trans s4).aV),⟨p,u,G,rfl,af,.inl (aU.of (l _ _ e1)),.inl (aU.of (l _ _ e2))⟩,by rw[rj];exact jf,W,?_⟩;refine cJ (s4 _ _ bL) yy hi (L' (aH (by lia))) ⟨?_,λb o e=>?_⟩
          · rw[List.take_add_one,ev];simp[f6]
          · rw[az (au e hD)];exact s4 _ _ (I _ _ e)
        rintro ys H3 bL yy ⟨rfl,I⟩;rw[J8,List.take_length]at bL;have mh:=s2.trans I;have Ed:H1 D=none:=s2.free hD;generalize l:d.vals.map (f6 M k g s.ns s.row)=ws at bL;have U:ws.length=d.vals.length:=by rw[<-l];simp
        have va:0<=ws.getD 0 0/\ws.getD 0 0<M:=by rw[<-l];exact uY W
        have y:gc M k g d s=⟨c9 M s.ns (ws.getD 0 0) d,f7 s.row (ws.getD 0 0) d,s.cj++bC (ws.getD 0 0) d,s.words++aY (ws.getD 0 0) d⟩:=by rw[<-l];rfl
        have I:me M k g d s=gb (ws.getD 0 0) (ws.getD 1 0) d:=by rw[<-l];rfl
        rw[y,I]at L;have Ka:∀{b:Addr} {o:HO},H1 b=some o->b≠D:=λe=>au e Ed;left;calc fE (mh _ _ LS) T.cW T.Ng Vd ?_;calc⟨u,x,D,s.ns,ws,M,3,d,rfl,mh _ _ e1,hx.aL mh.aV,bL,U,by rw[rj];calc rm,W,pF,qL,λH4 e14 k4=>?_⟩;have t4:bS H3 H4:=λb ys e=>k4 b _ (λz=>by subst z;rw[mh _ _ e1]at e;cases e) e;left;calc⟨G,x,D,s.row,ws,3,d,rfl,k4 _ _ (Ne.symm X) (mh _ _ e2),hx.aL (mh.aV.trans t4),k4 _ _ (Ne.symm (Ka e1)) bL,U,mQ,λS Kb k5=>?_⟩;have t5:bS H4 S:=λb ys e=>k5 b _ (λz=>by subst z;rw[k4 _ _ (Ne.symm X) (mh _ _ e2)]at e;cases e) e;have g:bS H1 S:=mh.aV.trans (t4.trans t5);have kk:∀b o,b≠u->b≠G->H1 b=some o->S b=some o:=λb o k l e=>k5 b o l (k4 b o k (mh _ _ e));have Nt:=k5 _ _ X e14;have Ih:=kk _ _ (Ne.symm n2) (Ne.symm n4) e3;have Kc:=kk _ _ (Ne.symm n3) (Ne.symm n5) e5;have ym:S D=some (.lst (ws.map V.int)):=k5 _ _ (Ne.symm (Ka e2)) (k4 _ _ (Ne.symm (Ka e1)) bL);have yI:=LQ.aL g;have ET:av H S:=λb o e=>kk b o (au e a1) (au e a2) (sH _ _ e);have N:=hx.aL g;have O:=Ib (w:=ws.getD 0 0) (w':=ws.getD 1 0) rm
        cases d with
        |set i v=>
          nofun;obtain⟨a,u1,u2,u3,k0,rfl,ha,R,g2,g3⟩:=bY N;obtain rfl:=R.bN;obtain rfl:=g2.bR;ac_rfl;walk_at "jg";refine⟨.ref a,D,ws,_,_,rfl,N,ym,U,?_⟩;left;refine cL _ _ rfl rfl ?_;refine⟨⟨u,G,t,B,_,some (.ref a),some (.ref D),c+1+(gb (ws.getD 0 0) (ws.getD 1 0) (.set i v)).toNat,⟨c9 M s.ns (ws.getD 0 0) (.set i v),f7 s.row (ws.getD 0 0) (.set i v),s.cj++bC (ws.getD 0 0) (.set i v),s.words++aY (ws.getD 0 0) (.set i v)⟩,f',?_,ET,a1,a2,a3,a4,X,n2,n3,n4,n5,Y,Nt,Kb,Ih,(by simpa[bC] using yI),(by simpa[aY] using Kc),by rw[bX];exact rj,dD (d:=(.set i v)) W qL va,kS (w:=ws.getD 0 0) (d:=(.set i v)) mQ,(by simp[bC];lia),(by simp[aY];lia),L,?_⟩,?_⟩
          · first|rfl|rw[Np O]
          · exact Nq Z
          · calc Nr (by assumption) O
        |add i v=>
          nofun;obtain⟨a,u1,u2,u3,k0,rfl,ha,R,g2,g3⟩:=bY N;obtain rfl:=R.bN;obtain rfl:=g2.bR;ac_rfl;walk_at "jg";refine⟨.ref a,D,ws,_,_,rfl,N,ym,U,?_⟩;left;refine cL _ _ rfl rfl ?_;refine⟨⟨u,G,t,B,_,some (.ref a),some (.ref D),c+1+(gb (ws.getD 0 0) (ws.getD 1 0) (.add i v)).toNat,⟨c9 M s.ns (ws.getD 0 0) (.add i v),f7 s.row (ws.getD 0 0) (.add i v),s.cj++bC (ws.getD 0 0) (.add i v),s.words++aY (ws.getD 0 0) (.add i v)⟩,f',?_,ET,a1,a2,a3,a4,X,n2,n3,n4,n5,Y,Nt,Kb,Ih,(by simpa[bC] using yI),(by simpa[aY] using Kc),by rw[bX];exact rj,dD (d:=(.add i v)) W qL va,kS (w:=ws.getD 0 0) (d:=(.add i v)) mQ,(by simp[bC];lia),(by simp[aY];lia),L,?_⟩,?_⟩
          · first|rfl|rw[Np O]
          · exact Nq Z
          · calc Nr (by assumption) O
        |times i v=>
          nofun;obtain⟨a,u1,u2,u3,k0,rfl,ha,R,g2,g3⟩:=bY N;obtain rfl:=R.bN;obtain rfl:=g2.bR;ac_rfl;walk_at "jg";refine⟨.ref a,D,ws,_,_,rfl,N,ym,U,?_⟩;left;refine cL _ _ rfl rfl ?_;refine⟨⟨u,G,t,B,_,some (.ref a),some (.ref D),c+1+(gb (ws.getD 0 0) (ws.getD 1 0) (.times i v)).toNat,⟨c9 M s.ns (ws.getD 0 0) (.times i v),f7 s.row (ws.getD 0 0) (.times i v),s.cj++bC (ws.getD 0 0) (.times i v),s.words++aY (ws.getD 0 0) (.times i v)⟩,f',?_,ET,a1,a2,a3,a4,X,n2,n3,n4,n5,Y,Nt,Kb,Ih,(by simpa[bC] using yI),(by simpa[aY] using Kc),by rw[bX];exact rj,dD (d:=(.times i v)) W qL va,kS (w:=ws.getD 0 0) (d:=(.times i v)) mQ,(by simp[bC];lia),(by simp[aY];lia),L,?_⟩,?_⟩
          · first|rfl|rw[Np O]
          · exact Nq Z
          · calc Nr (by assumption) O
        |put v=>
          nofun;obtain⟨a,u1,u2,k0,rfl,ha,R,g2⟩:=cD N;obtain rfl:=R.bN;ac_rfl;walk_at "jg";refine⟨.ref a,D,ws,_,_,rfl,N,ym,U,?_⟩;left;refine cL _ _ rfl rfl ?_;refine⟨⟨u,G,t,B,_,some (.ref a),some (.ref D),c+1+(gb (ws.getD 0 0) (ws.getD 1 0) (.put v)).toNat,⟨c9 M s.ns (ws.getD 0 0) (.put v),f7 s.row (ws.getD 0 0) (.put v),s.cj++bC (ws.getD 0 0) (.put v),s.words++aY (ws.getD 0 0) (.put v)⟩,f',?_,ET,a1,a2,a3,a4,X,n2,n3,n4,n5,Y,Nt,Kb,Ih,(by simpa[bC] using yI),(by simpa[aY] using Kc),by rw[bX];exact rj,dD (d:=(.put v)) W qL va,kS (w:=ws.getD 0 0) (d:=(.put v)) mQ,(by simp[bC];lia),(by simp[aY];lia),L,?_⟩,?_⟩
          · first|rfl|rw[Np O]
          · exact Nq Z
          · calc Nr (by assumption) O
        |drop=>
          nofun;obtain⟨a,u1,k0,rfl,ha,R⟩:=gw N;obtain rfl:=R.bN;ac_rfl;walk_at "jg";refine⟨.ref a,D,ws,_,_,rfl,N,ym,U,?_⟩;left;refine cL _ _ rfl rfl ?_;refine⟨⟨u,G,t,B,_,some (.ref a),some (.ref D),c+1+(gb (ws.getD 0 0) (ws.getD 1 0) .drop).toNat,⟨c9 M s.ns (ws.getD 0 0) .drop,f7 s.row (ws.getD 0 0) .drop,s.cj++bC (ws.getD 0 0) .drop,s.words++aY (ws.getD 0 0) .drop⟩,f',?_,ET,a1,a2,a3,a4,X,n2,n3,n4,n5,Y,Nt,Kb,Ih,(by simpa[bC] using yI),(by simpa[aY] using Kc),by rw[bX];exact rj,dD (d:=.drop) W qL va,kS (w:=ws.getD 0 0) (d:=.drop) mQ,(by simp[bC];lia),(by simp[aY];lia),L,?_⟩,?_⟩
          · first|rfl|rw[Np O]
          · exact Nq Z
          · calc Nr (by assumption) O
        |send j v=>
          nofun;obtain⟨a,u1,u2,u3,k0,rfl,ha,R,g2,g3⟩:=bY N;obtain rfl:=R.bN;obtain rfl:=g2.bR;obtain⟨r,rfl⟩:=qM U;ac_rfl;walk_at "jg";refine⟨.inl ⟨rfl,_,aU.of Ih⟩,?_⟩;walk_at "jg";refine⟨du,λtp BJ=>?_⟩;have s6:=av.new (.tup [.int j,.int r]) BJ;refine ik _ (s6 _ _ Ih) (Nat.lt_of_le_of_lt (by have:=LQ.1;lia) (aH (n:=100) (by lia))) ?_;have htn:tp≠t:=λz=>by subst z;rw[Ih]at BJ;cases BJ
          have t6:bS (upd S tp (.tup [.int j,.int r])) (upd (upd S tp (.tup [.int j,.int r])) t (.lst (zs++[.ref tp]))):=(bS.refl _).upd λys e=>by rw[s6 _ _ Ih]at e;cases e
          have q6:∀b o,b≠t->S b=some o->upd (upd S tp (.tup [.int j,.int r])) t (.lst (zs++[.ref tp])) b=some o:=λb o ne e=>by rw[az ne];exact s6 _ _ e
          walk_at "jg";refine⟨.ref a,D,[r],_,_,rfl,(N.aL (s6.aV.trans t6)),(q6 _ _ (Ne.symm (Ka e3)) ym),U,?_⟩;left;refine cL _ _ rfl rfl ?_;refine⟨⟨u,G,t,B,_,some (.ref a),some (.ref D),c+1+(gb (([r]:List Int).getD 0 0) (([r]:List Int).getD 1 0) (.send j v)).toNat,⟨c9 M s.ns (([r]:List Int).getD 0 0) (.send j v),f7 s.row (([r]:List Int).getD 0 0) (.send j v),s.cj++bC (([r]:List Int).getD 0 0) (.send j v),s.words++aY (([r]:List Int).getD 0 0) (.send j v)⟩,f',?_,(λb o e=>q6 b o (au e a3) (ET _ _ e)),a1,a2,a3,a4,X,n2,n3,n4,n5,Y,(q6 _ _ n2 Nt),(q6 _ _ n4 Kb),af,((yI.aL (s6.aV.trans t6)).snoc (eu (n:=0) (by rw[az htn];exact af) (.int _) (.int _))),(by simpa[aY] using q6 _ _ (Ne.symm Y) Kc),by rw[bX];exact rj,dD (d:=(.send j v)) W qL va,kS (w:=([r]:List Int).getD 0 0) (d:=(.send j v)) mQ,(by simp[bC];lia),(by simp[aY];lia),L,?_⟩,?_⟩
          · first|rfl|rw[Np O]
          · exact Nq Z
          · calc Nr (by assumption) O
        |say v=>
          nofun;obtain⟨a,u1,u2,k0,rfl,ha,R,g2⟩:=cD N;obtain rfl:=R.bN;obtain⟨r,rfl⟩:=qM U;ac_rfl;walk_at "jg";refine⟨.inl ⟨rfl,_,aU.of Kc⟩,?_⟩;walk_at "jg";refine ik _ Kc (Nat.lt_of_le_of_lt (by simp;lia) (aH (n:=100) (by lia))) ?_;have t6:bS S (upd S B (.lst (s.words.map V.int++[.int r]))):=(bS.refl _).upd λys e=>by rw[Kc]at e;cases e
          have q6:∀b o,b≠B->S b=some o->upd S B (.lst (s.words.map V.int++[.int r])) b=some o:=λb o ne e=>by rw[az ne];exact e
          walk_at "jg";refine⟨.ref a,D,[r],_,_,rfl,(N.aL t6),(q6 _ _ (Ne.symm (Ka e5)) ym),U,?_⟩;left;refine cL _ _ rfl rfl ?_;refine⟨⟨u,G,t,B,_,some (.ref a),some (.ref D),c+1+(gb (([r]:List Int).getD 0 0) (([r]:List Int).getD 1 0) (.say v)).toNat,⟨c9 M s.ns (([r]:List Int).getD 0 0) (.say v),f7 s.row (([r]:List Int).getD 0 0) (.say v),s.cj++bC (([r]:List Int).getD 0 0) (.say v),s.words++aY (([r]:List Int).getD 0 0) (.say v)⟩,f',?_,(λb o e=>q6 b o (au e a4) (ET _ _ e)),a1,a2,a3,a4,X,n2,n3,n4,n5,Y,(q6 _ _ n3 Nt),(q6 _ _ n5 Kb),(q6 _ _ Y Ih),(by simpa[bC] using yI.aL t6),(by rw[af];simp[aY]),by rw[bX];exact rj,dD (d:=(.say v)) W qL va,kS (w:=([r]:List Int).getD 0 0) (d:=(.say v)) mQ,(by simp[bC];lia),(by simp[aY];lia),L,?_⟩,?_⟩
          · first|rfl|rw[Np O]
          · exact Nq Z
          · calc Nr (by assumption) O
        |skip v w2 kk=>
          nofun;obtain⟨a,u1,u2,u3,u4,k0,rfl,ha,R,g2,g3,g4⟩:=j3 N;obtain rfl:=R.bN;obtain rfl:=g4.bR;ac_rfl;walk_at "jg";refine⟨.ref a,D,ws,_,_,rfl,N,ym,U,?_⟩;left;refine cL _ _ rfl rfl ?_;refine⟨⟨u,G,t,B,_,some (.ref a),some (.ref D),c+1+(gb (ws.getD 0 0) (ws.getD 1 0) (.skip v w2 kk)).toNat,⟨c9 M s.ns (ws.getD 0 0) (.skip v w2 kk),f7 s.row (ws.getD 0 0) (.skip v w2 kk),s.cj++bC (ws.getD 0 0) (.skip v w2 kk),s.words++aY (ws.getD 0 0) (.skip v w2 kk)⟩,f',?_,ET,a1,a2,a3,a4,X,n2,n3,n4,n5,Y,Nt,Kb,Ih,(by simpa[bC] using yI),(by simpa[aY] using Kc),by rw[bX];exact rj,dD (d:=(.skip v w2 kk)) W qL va,kS (w:=ws.getD 0 0) (d:=(.skip v w2 kk)) mQ,(by simp[bC];lia),(by simp[aY];lia),L,?_⟩,?_⟩
          · first|rfl|rw[Np O]
          · exact Nq Z
          · exact Nr (by assumption) O
      · have Vv:¬c < xs.length:=by rw[tQ.1];exact lU
        left;rw[if_neg (by simpa using Vv)];rw[List.drop_eq_nil_of_le (by lia),BU]at L;left;calc .inl ⟨_,aU.of e1,λc g=>?_⟩;have i:=av.new (.tup (s.ns.map V.int)) g;left;calc .inl ⟨_,aU.of (i _ _ e2),λk l=>?_⟩;have j:=av.new (.tup (s.row.map V.int)) l;left;calc⟨du,λr u=>?_⟩;have g:=av.new (.tup [.ref c,.ref k]) u;left;calc⟨by show 3<=sizeLine;decide,λt4 l=>?_⟩;have k:=av.new (.tup [.ref r,.ref t,.ref B]) l;have c:=i.trans (j.trans (g.trans k));refine q _ _ (sH.trans c) ⟨_,_,t,B,zs,rfl,af,?_,c _ _ e3,?_,?_,a3,a4,Y⟩
        · rw[<-L];exact(eu af (n0 (g _ _ (j _ _ af))) (n0 (g _ _ af))).aL k.aV
        · rw[<-L];exact LQ.aL c.aV
        · rw[<-L];exact c _ _ e5
    · intro σ H1 Q I hq c;nofun;obtain⟨x,g,i,j,a,k,l,q,v,r,t,u,y,B,n,G,h8⟩:=c;ac_rfl;refine⟨x,g,i,j,a,k,l,q,v,r,t,u,y,B,n,G,?_⟩
      cases x<;>first
        |calc(show False from h8).elim
        | (obtain⟨c,g,i⟩:=h8
           calc⟨c,g,hq _ _ i⟩)
abbrev kU:Stmt:=top 67
inductive Ii(vs:List V)(H:Hp)(Q:VK):Prop
 |mk (x:V) (st an ar:Addr) (way said M:Int) (v:Val) (ns row:List Int) (n:Nat) (h0:vs=[x,.ref st,.int way,.int said,.int M]) (h1:HT H n x (Val.dv v)) (h2:H st=some (.tup [.ref an,.ref ar])) (h3:H an=some (.lst (ns.map V.int))) (h4:H ar=some (.lst (row.map V.int))) (h5:v.ok ns.length) (h6:0<M) (h7:row.length<=12) (h8:∀H',av H H'->Q (.int (f6 M way said ns row v)) H'):Ii vs H Q
def Cj:Sp:=λvs H Q _=>Ii vs H Q
theorem yJ(D:dq K mg "_law_worth" "_law_worth" kU ["_law_value_here","_law_state","_law_way","_law_said","_law_modulus"])(T:Tx K mg C CN CR F FD):Def P w K mg base "_law_worth" 1 ["_law_value_here","_law_state","_law_way","_law_said","_law_modulus"] Cj:=by
 have sc:aE ["_law_value_here","_law_state","_law_way","_law_said","_law_modulus","_law_worth_here"] ["_law_value_here","_law_state","_law_way","_law_said","_law_modulus"] (ay kU):=by walk_at "s"
 symm
 ·obtain⟨x,st,a,Y,way,c,M,v,ns,row,n,rfl,g,R,Z,I,S,k,ou,q⟩:=h;rfl
 ·nofun;obtain⟨x,st,a,Y,way,c,M,v,ns,row,n,rfl,g,R,Z,I,S,k,ou,q⟩:=h;ac_rfl;have a:=hr.units;refine⟨_,(aj (bb (i:=5) sc.nd rfl (by grind) (aq 2))
   (aj (aW (aC (aT a) (ak a (aq 0) ai) aD (aG _)) (ao (bb (i:=5) sc.nd rfl (by grind) (ak a (aq 0) ai))) aJ)
   (aj (aW (aC (aT a) (ak a (aq 0) ai) aD (aG _)) (ao (bb (i:=5) sc.nd rfl (by grind) (ak a (ak a (aq 1) ai) (ak a (aq 0) ai)))) aJ)
   (aj (aW (aC (aT a) (ak a (aq 0) ai) aD (aG _)) (ao (bb (i:=5) sc.nd rfl (by grind) (aq 3))) aJ)
   (aj (aW (aC (aT a) (ak a (aq 0) ai) aD (aG _)) (ao (bb (i:=5) sc.nd rfl (by grind) (ak a (aQ cC (dO (N':=["_law_k","_law_state"]) (ix:=[none,some 1]) (dw rfl T.ff (ag (bc aP rfl T.cp T' (ag (ak a (aq 1) ai) aa)) aa)) (λ_ _ _ _=>(ba (i:=0) (show(["_law_k","_law_state"]:List Str).Nodup by decide +kernel) rfl (by grind))) qx (λ_ _ _ _=>(fZ (K:=K) rfl a (fZ (K:=K) rfl a (aq 1) ai) (aq 0)))) (bF (ag ai aa))) ai))) aJ)
   (ao (aI (aQ cH (aq 5) (aq 4))))))))),?_⟩
  left
  cases v with
  |is z=>
   nofun;obtain⟨p,t,w2,u,rfl,y,d,L⟩:=cD g;obtain rfl:=d.bN;obtain rfl:=L.bR;ac_rfl;walk_at "jg";exact⟨k,q H (av.refl H)⟩
  |number i=>
   nofun;obtain⟨p,t,w2,u,rfl,y,d,L⟩:=cD g;obtain rfl:=d.bN;obtain rfl:=L.bR;obtain⟨Aw,a⟩:=S;obtain⟨j,rfl⟩:=W' Aw;ac_rfl;have U:j<ns.length:=by lia
   have a:ia (ns.map V.int) (j:Int)=some (.int ns[j]):=aA (by rw[List.getElem?_map,cP U];rfl);walk_at "jg";have a:=q H (av.refl H);have N:f6 M way c ns row (.number j)=ns[j]%M:=by
    show ns.getD (j:Int).toNat 0%M=_;simp[List.getD_eq_getElem?_getD,cP U]
   rw[N]at a;calc⟨k,a⟩
  |first=>
   nofun;obtain⟨p,t,u,rfl,y,d⟩:=gw g;obtain rfl:=d.bN;ac_rfl;walk_at "jg"
   skip
   walk_at "jg";refine bH _ (.inl ⟨_,aU.of I,rfl⟩) ?_;left;have a:(row.map V.int).length=row.length:=by simp
   rw[a];calc gW (by lia) (by lia) (λD W=>?_);refine bz (J:=Bg 0 row.length) (n:=row.length) (λi ys H'=>ys=(row.take i).map V.int/\av H H') (L' (aH (by lia))) ⟨rfl,av.new _ W⟩ (λi ys H' l _=>l) (λys H' _=>K' _) ?_ ?_
   ·intro i ys H' l B G j4 x H2 j5;nofun;obtain⟨rfl,m⟩:=j4;obtain⟨rfl,rfl⟩:=j5;ac_rfl;walk_at "xf";have a:=m _ _ R;have O:=m _ _ I;walk_at "jg"
    try rw[if_pos trivial]
    calc bu O (show ia (row.map V.int) (0+(i:Int))=some (.int row[i]) from by rw[Int.zero_add];calc aA (by rw[List.getElem?_map,cP l];rfl)) ?_;calc cJ B G l (L' (aH (by lia))) ⟨?_,λb o e=>by rw[az (au e W)];calc m _ _ e⟩;rw[List.take_succ,cP l,List.map_append];rfl
   rintro ys H1 B G ⟨rfl,m⟩;rw[List.take_length]at B;walk_at "jg";refine⟨by decide,λl G=>?_⟩;have X:=av.new (.lst [.int 0]) G;walk_at "jg";refine .inl ⟨_,_,X _ _ B,af,L' (aH (by simp;lia)),λi a=>?_⟩;have s3:=av.new (.lst (row.map V.int++[.int 0])) a;have N:ia (row.map V.int++[.int 0]) 0=some (.int (r6 ns row way c .first)):=by
    cases row with
    |nil=>calc aA (j:=0) rfl
    |cons r a=>exact aA (j:=0) rfl
   left;refine bu af N ?_;walk_at "jg";exact⟨k,q _ (m.trans (X.trans s3))⟩
  |mx=>
   nofun;obtain⟨p,t,u,rfl,y,d⟩:=gw g;obtain rfl:=d.bN;ac_rfl;walk_at "jg";exact⟨k,q _ (av.refl H)⟩
  |way=>
   nofun;obtain⟨p,t,u,rfl,y,d⟩:=gw g;obtain rfl:=d.bN;ac_rfl;walk_at "jg";exact⟨k,q _ (av.refl H)⟩
abbrev Ij:Stmt:=(ck (top 58)).getD 0 (.Pass ⟨0,0,0,0⟩)
def LV(a b c:V):List (Str×V):=bt "own_letters" c (bt "own_ways" b (bt "own_machines" a []))
theorem Vy{a b c:V}:(LV a b c).lookup ("own_machines":Str)=some a:=by
 unfold LV;rw[bx,if_neg (by decide +kernel),bx,if_neg (by decide +kernel),bx,if_pos rfl]
theorem Vz{a b c:V}:(LV a b c).lookup ("own_ways":Str)=some b:=by
 unfold LV;rw[bx,if_neg (by decide +kernel),bx,if_pos rfl]
theorem aa3{a b c:V}:(LV a b c).lookup ("own_letters":Str)=some c:=by
 unfold LV;rw[bx,if_pos rfl]
theorem eU{a b c:V}(d:f≠"own_machines")(e:f≠"own_ways")(g:f≠"own_letters"):(LV a b c).lookup f=none:=by
 unfold LV;rw[bx,if_neg g,bx,if_neg e,bx,if_neg d];rfl
def pM(CN:Addr)(H:Hp)(x:Addr)(d:List Addr)(e f:List V):Prop:=∃g a b c,H x=some (.ins CN g (LV (.ref a) (.ref b) (.ref c)))/\H a=some (.tup (d.map V.ref))/\H b=some (.tup e)/\H c=some (.tup f)
theorem pM.same{CN:Addr}{x:Addr}{d:List Addr}{e f:List V}(s:av H H')(h:pM CN H x d e f):pM CN H' x d e f:=by
 obtain⟨d,a,b,c,e,f,g,i⟩:=h;calc⟨d,a,b,c,s _ _ e,s _ _ f,s _ _ g,s _ _ i⟩
def yK(C CN:Addr):Sp:=λvs H Q _=>∃(x e f g h:Addr) (a:List Addr) (c d:List V) (ws:List (Int×Int×Str)) (ls:List (Int×Int)),vs=[.ref x,.ref f,.ref g,.ref h]/\H x=some (.ins CN e [])/\H f=some (.lst (a.map V.ref))/\H g=some (.lst c)/\H h=some (.lst d)/\1<=a.length/\a.length<=5/\c.length<=10/\d.length<=20/\(∀m∈a,∃e i,H m=some (.ins C e i))/\iF H 1 c (ws.map lW)/\iF H 1 d (ls.map qK)/\(∀w∈ws,uU a.length w)/\(∀l∈ls,uV c.length l)/\∀H',pM CN H' x a c d->(∀b o,b≠x->H b=some o->H' b=some o)->Q .bM H'
theorem VA(D:DB K mg "Net" CN "Net.__init__" Ij ["self","machines","ways","letters"])(T:Tx K mg C CN CR F FD)(kb:Def P w K mg base "refuse_net" 4 ["machines","ways","letters"] (Ca C)):xO P w K mg base "Net" CN 7 ["self","machines","ways","letters"] (yK C CN):=by
 have sc:aE ["self","machines","ways","letters"] ["self","machines","ways","letters"] (ay Ij):=by walk_at "s"
 symm
 ·obtain⟨x,a,y,B,G,W,X,Y,ws,ls,rfl,g,j,k,l,Z,J5,wt,yq,Vg,pI,QB,LC,uB,q⟩:=h;rfl
 ·nofun;obtain⟨x,a,y,B,G,W,X,Y,ws,ls,rfl,g,j,k,l,Z,J5,wt,yq,Vg,pI,QB,LC,uB,q⟩:=h;ac_rfl;have hu:=hr.units;refine⟨_,(aj (bV (aM kb hr (ag (aq 1) (ag (aq 2) (ag (aq 3) aa)))))
   (aj (fW (aq 0) (dQ cR rfl T.cB tq (ag (aq 1) aa)) (gL rfl))
   (aj (fW (aq 0) (dQ cR rfl T.cB tq (ag (aq 2) aa)) (gL rfl))
   (ao (fW (aq 0) (dQ cR rfl T.cB tq (ag (aq 3) aa)) (gL rfl)))))),?_⟩
  try walk_at "rt"
  calc⟨y,B,G,W,X,Y,ws,ls,rfl,j,k,l,Z,J5,wt,yq,Vg,pI,QB,LC,uB,λH1 I=>?_⟩;have W:=I _ _ g;have W:y≠x:=λz=>by subst z;rw[g]at j;cases j
  have VB:B≠x:=λz=>by subst z;rw[g]at k;cases k
  have QR:G≠x:=λz=>by subst z;rw[g]at l;cases l
  try walk_at "rt"
  refine jV (.inl (I _ _ j)) λc H2 s2 J=>?_
  try walk_at "rt"
  have m:=I.trans s2;have D7:=m _ _ g;calc⟨x,CN,a,[],rfl,D7,T.da,T.yg,by decide,?_⟩;have L:c≠x:=λz=>by subst z;rw[D7]at J;cases J
  have p:∀b o,b≠x->H2 b=some o->upd H2 x (.ins CN a (bt "own_machines" (.ref c) [])) b=some o:=λb o d e=>by rw[az d];exact e
  have Az:upd H2 x (.ins CN a (bt "own_machines" (.ref c) [])) x=some (.ins CN a (bt "own_machines" (.ref c) [])):=af;generalize QS:upd H2 x (.ins CN a (bt "own_machines" (.ref c) []))=G3 at *;have M:=p _ _ L J;have D8:=p _ _ VB (m _ _ k);have N:=p _ _ QR (m _ _ l)
  try walk_at "rt"
  refine jV (.inl D8) λi r t O=>?_
  try walk_at "rt"
  have QT:=t _ _ Az;calc qJ x CN a _ rfl QT T.da T.yh (bU (n:=999) (by decide)) ?_;have n2:i≠x:=λz=>by subst z;rw[QT]at O;cases O
  have u:∀b o,b≠x->r b=some o->upd r x (.ins CN a (bt "own_ways" (.ref i) (bt "own_machines" (.ref c) []))) b=some o:=λb o d e=>by rw[az d];exact e
  have sG:upd r x (.ins CN a (bt "own_ways" (.ref i) (bt "own_machines" (.ref c) []))) x=some (.ins CN a (bt "own_ways" (.ref i) (bt "own_machines" (.ref c) []))):=af;generalize QU:upd r x (.ins CN a (bt "own_ways" (.ref i) (bt "own_machines" (.ref c) [])))=G5 at *;have R:=u _ _ L (t _ _ M);have S:=u _ _ n2 O;have D9:=u _ _ QR (t _ _ N)
  try walk_at "rt"
  refine jV (.inl D9) λt3 g v U=>?_
  try walk_at "rt"
  have Ik:=v _ _ sG;calc qJ x CN a _ rfl Ik T.da T.Ak (bU (n:=999) (bU (n:=998) (by decide))) ?_;have n3:t3≠x:=λz=>by subst z;rw[Ik]at U;cases U
  refine q _ ⟨a,c,i,t3,af,?_,?_,?_⟩ λb o d e=>?_
  ·rw[az L];exact v _ _ R
  ·rw[az n2];exact v _ _ S
  ·rw[az n3];exact U
  ·rw[az d];calc v _ _ (u _ _ d (t _ _ (p _ _ d (m _ _ e))))
abbrev iG:Stmt:=(ck (top 58)).getD 1 (.Pass ⟨0,0,0,0⟩)
def kd(CN:Addr):Sp:=λvs H Q _=>∃(x:Addr) (a:List Addr) (b c:List V),vs=[.ref x]/\pM CN H x a b c/\∀l,H l=none->Q (.ref l) (upd H l (.lst (a.map V.ref)))
theorem sI(D:gQ K CN "machines" "Net.machines" iG ["self"])(T:Tx K mg C CN CR F FD):eV P w K mg base CN "machines" 1 ["self"] (kd CN):=by
 have sc:aE ["self"] ["self"] (ay iG):=by walk_at "s"
 symm
 ·obtain⟨x,e,g,i,rfl,⟨j,a,b,k,c,d,l,m⟩,q⟩:=h;rfl
 ·nofun;obtain⟨x,e,g,i,rfl,⟨j,a,b,k,c,d,l,m⟩,q⟩:=h;ac_rfl;have e:=hr.units;calc⟨_,(ao (aI (dQ cK rfl T.e9 ze (ag (bJ (aq 0) rfl) aa)))),?_⟩;calc fld c T.da T.yg Vy ?_;right;calc⟨_,.inr (bI.of d),λl e=>q l e⟩
abbrev mR:Stmt:=(ck (top 58)).getD 2 (.Pass ⟨0,0,0,0⟩)
def oB(CN:Addr):Sp:=λvs H Q _=>∃(x:Addr) (b:List Addr) (a c:List V),vs=[.ref x]/\pM CN H x b a c/\∀l,H l=none->Q (.ref l) (upd H l (.lst a))
theorem AA(D:gQ K CN "ways" "Net.ways" mR ["self"])(T:Tx K mg C CN CR F FD):eV P w K mg base CN "ways" 1 ["self"] (oB CN):=by
 have sc:aE ["self"] ["self"] (ay mR):=by walk_at "s"
 symm
 ·obtain⟨x,e,g,i,rfl,⟨j,a,b,k,c,l,d,m⟩,q⟩:=h;rfl
 ·nofun;obtain⟨x,e,g,i,rfl,⟨j,a,b,k,c,l,d,m⟩,q⟩:=h;ac_rfl;have e:=hr.units;calc⟨_,(ao (aI (dQ cK rfl T.e9 ze (ag (bJ (aq 0) rfl) aa)))),?_⟩;calc fld c T.da T.yh Vz ?_;right;calc⟨_,.inr (bI.of d),λl e=>q l e⟩
abbrev jk:Stmt:=(ck (top 58)).getD 3 (.Pass ⟨0,0,0,0⟩)
def qy(CN:Addr):Sp:=λvs H Q _=>∃(x:Addr) (b:List Addr) (c a:List V),vs=[.ref x]/\pM CN H x b c a/\∀l,H l=none->Q (.ref l) (upd H l (.lst a))
theorem tW(D:gQ K CN "letters" "Net.letters" jk ["self"])(T:Tx K mg C CN CR F FD):eV P w K mg base CN "letters" 1 ["self"] (qy CN):=by
 have sc:aE ["self"] ["self"] (ay jk):=by walk_at "s"
 symm
 ·obtain⟨x,e,g,i,rfl,⟨j,a,b,k,c,l,m,d⟩,q⟩:=h;rfl
 ·nofun;obtain⟨x,e,g,i,rfl,⟨j,a,b,k,c,l,m,d⟩,q⟩:=h;ac_rfl;have e:=hr.units;calc⟨_,(ao (aI (dQ cK rfl T.e9 ze (ag (bJ (aq 0) rfl) aa)))),?_⟩;calc fld c T.da T.Ak aa3 ?_;right;calc⟨_,.inr (bI.of d),λl e=>q l e⟩
def Nu(M way said:Int):Nat->List bD->WS->WS
 |_,[],s=>s
 |l+1,_::r,s=>Nu M way said l r s
 |0,d::r,s=>Nu M way said (me M way said d s).toNat r (gc M way said d s)
theorem wx{M way said:Int}:∀(b:List bD) (l:Nat) (s:WS) (f:Nat),b.length<=f->Nu M way said l b s=xV M way said f (b.drop l) s
 | [],l,s,f,_=>by rw[List.drop_nil,BU];cases l<;>rfl
 |d::r,l+1,s,f,h=>by
  show Nu M way said l r s=xV M way said f (r.drop l) s;calc wx r l s f (by simp at h;lia)
 |d::r,0,s,f,h=>by
  obtain⟨a,rfl⟩:∃a,f=a+1:=⟨f-1,by simp at h;lia⟩
  show Nu M way said (me M way said d s).toNat r (gc M way said d s)=xV M way said a (r.drop (me M way said d s).toNat) (gc M way said d s);calc wx r _ _ a (by simp at h;lia)
theorem Il{M way said:Int}{a:List bD}:Nu M way said 0 a ⟨ns,row,[],[]⟩=oa M way said a ns row:=wx a 0 _ _ (K' _)
inductive VC(H:Hp)(mt:Addr)(st:V)(way said M:Int)(ds:List bD)(ns row:List Int)(i:Nat)(σ:St)(H':Hp):Prop
 |mk (an ar fT aw:Addr) (zs:List V) (z9 yH:Option V) (l:Nat) (s:WS) (h0:σ=[some (.ref mt),some st,some (.int way),some (.int said),some (.ref an),some (.ref ar),some (.ref fT),some (.ref aw),some (.int ((l:Nat):Int)),z9,yH]) (h1:av H H') (a1:H an=none) (a2:H ar=none) (a3:H fT=none) (a4:H aw=none) (n1:an≠ar) (n2:an≠fT) (n3:an≠aw) (n4:ar≠fT) (n5:ar≠aw) (n6:fT≠aw) (e1:H' an=some (.lst (s.ns.map V.int))) (e2:H' ar=some (.lst (s.row.map V.int))) (e3:H' fT=some (.lst zs)) (LQ:SL H' zs s.cj) (e5:H' aw=some (.lst (s.words.map V.int))) (rj:s.ns.length=ns.length) (qL:∀z∈s.ns,0<=z/\z<M) (mQ:s.row.length<=12) (LR:s.cj.length<=i) (hwn:s.words.length<=i) (i4:Nu M way said l (ds.drop i) s=oa M way said ds ns row):VC H mt st way said M ds ns row i σ H'
inductive Im(K:W.Frag)(vs:List V)(H:Hp)(Q:VK):Prop
 |mk (mt ln lr ld:Addr) (st:V) (way said M:Int) (xs:List V) (ds:List bD) (ns row:List Int) (h0:vs=[.ref mt,st,.int way,.int said]) (VD:H mt=some (.tup [.int M,.ref ln,.ref lr,.ref ld])) (h1:H ld=some (.lst xs)) (h2:iF H 2 xs (ds.map bD.dv)) (h3:xW K H st ns row) (h5:2<=M) (h6:M<=1000000000000) (h7:∀z∈ns,0<=z/\z<M) (h9:row.length<=12) (LH:ds.length<=24) (QH:∀d∈ds,d.ok ns.length) (h13:∀x H',av H H'->Res H H' x (oa M way said ds ns row)->Q x H'):Im K vs H Q
theorem QV{xs:List V}:dj xs none (some 12)=xs.take 12:=by
 unfold dj;have a:HT.eG xs.length 0 none=0:=rfl;rw[a];have b:HT.eG xs.length xs.length (some 12)=min 12 xs.length:=by
  unfold HT.eG;simp
 rw[b,List.drop_zero,Nat.sub_zero];by_cases h:xs.length<=12
 ·rw[Nat.min_eq_right h,List.take_length,List.take_of_length_le h]
 ·rw[Nat.min_eq_left (by lia)]
theorem VE{xs:List V}:dj xs (some 1) none=xs.tail:=by
 unfold dj;have b:HT.eG xs.length xs.length none=xs.length:=rfl;rw[b]
 cases xs with
 |nil=>simp
 |cons a r=>
  have b:HT.eG (a::r).length 0 (some 1)=1:=by
   unfold HT.eG;simp
  rw[b];simp
theorem sJ{n k:Nat}(h:k<n):qu n (k:Int)=some k:=by
 unfold qu;rw[if_pos (by lia),if_pos (by lia)];simp
abbrev ke:Stmt:=top 68
def Ck(K:W.Frag):Sp:=λvs H Q _=>Im K vs H Q
theorem wz(D:dq K mg "_law_worked" "_law_worked" ke ["_law_machine_here","_law_state","_law_way","_law_said"])(T:Tx K mg C CN CR F FD)(kW:Def P w K mg base "_law_worth" 1 ["_law_value_here","_law_state","_law_way","_law_said","_law_modulus"] Cj):Def P w K mg base "_law_worked" 2 ["_law_machine_here","_law_state","_law_way","_law_said"] (Ck K):=by
 have sc:aE ["_law_machine_here","_law_state","_law_way","_law_said","_law_numbers","_law_row","_law_sent","_law_words","_law_left","_law_deed_here","_law_worths"] ["_law_machine_here","_law_state","_law_way","_law_said"] (ay ke):=by walk_at "s"
 symm
 ·obtain⟨mt,u,lr,ld,st,I,m,M,xs,ds,ns,row,rfl,VD,Vr,tQ,oN,DY,pF,hb,ou,Nj,aZ,q⟩:=h;rfl
 ·nofun;obtain⟨mt,u,lr,ld,st,I,m,M,xs,ds,ns,row,rfl,VD,Vr,tQ,oN,DY,pF,hb,ou,Nj,aZ,q⟩:=h;ac_rfl;have u:=hr.units;refine⟨_,(aj (bb (i:=4) sc.nd rfl (by grind) (dQ cK rfl T.e9 ze (ag (ak u (aq 1) ai) aa)))
   (aj (bb (i:=5) sc.nd rfl (by grind) (dQ cK rfl T.e9 ze (ag (ak u (aq 1) ai) aa)))
   (aj (bb (i:=6) sc.nd rfl (by grind) (bF aa))
   (aj (bb (i:=7) sc.nd rfl (by grind) (bF aa))
   (aj (bb (i:=8) sc.nd rfl (by grind) ai)
   (aj (fm PassesOwn.never rfl (cu (ak u (aq 0) ai)) (ba (i:=9) sc.nd rfl (by grind))
   (aj (iy (i:=10) sc.nd rfl (by grind) (N':=["_law_one","_law_way","_law_said","_law_numbers","_law_row","_law_machine_here"]) (ix:=[none,some 2,some 3,some 4,some 5,some 0]) (cu (pv 9)) (λ_ _ _ _=>(ba (i:=0) (show(["_law_one","_law_way","_law_said","_law_numbers","_law_row","_law_machine_here"]:List Str).Nodup by decide +kernel) rfl (by grind))) (λ_ _ _ _=>(i3 (bo (bc (uG (K:=K) rfl) rfl T.aR qA (ag (aq 0) (ag (cN (v:=.ty "tuple") rfl T.cB tq rfl) aa)))))) (λ_ _ _ _=>(aM kW hr (ag (aq 0) (ag (bQ (ag (aq 3) (ag (aq 4) aa))) (ag (aq 1) (ag (aq 2) (ag (fZ (K:=K) rfl u (aq 5) ai) aa))))))))
   (ao (aW (aC o8 (aq 8) ai (aG _)) (ao (bb (i:=8) sc.nd rfl (by grind) (aQ ei (aq 8) ai))) (ao (aW (aC (aT u) (ak u (aq 9) ai) aD (aG _)) (ao (fA (ak u (aq 10) ai) (jc (aq 4) (ak u (aq 9) ai) eI))) (ao (aW (aC (aT u) (ak u (aq 9) ai) aD (aG _)) (ao (fA (aQ cH (aQ cC (ak u (aq 4) (ak u (aq 9) ai)) (ak u (aq 10) ai)) (ak u (aq 0) ai)) (jc (aq 4) (ak u (aq 9) ai) eI))) (ao (aW (aC (aT u) (ak u (aq 9) ai) aD (aG _)) (ao (fA (aQ cH (aQ lO (ak u (aq 4) (ak u (aq 9) ai)) (ak u (aq 10) ai)) (ak u (aq 0) ai)) (jc (aq 4) (ak u (aq 9) ai) eI))) (ao (aW (aC (aT u) (ak u (aq 9) ai) aD (aG _)) (ao (bb (i:=5) sc.nd rfl (by grind) (rS (aQ cC (aq 5) (aq 10)) nO (ig ai)))) (ao (aW (aC (aT u) (ak u (aq 9) ai) aD (aG _)) (ao (bb (i:=5) sc.nd rfl (by grind) (rS (aq 5) (ig ai) nO))) (ao (aW (aC (aT u) (ak u (aq 9) ai) aD (aG _)) (ao (bV (dA nJ qm qo bW (aq 6) (ag (bQ (ag (ak u (aq 9) ai) (ag (ak u (aq 10) ai) aa))) aa)))) (ao (aW (aC (aT u) (ak u (aq 9) ai) aD (aG _)) (ao (bV (dA nJ qm qo bW (aq 7) (ag (ak u (aq 10) ai) aa)))) (ao (aW (aC gU (ak u (aq 10) ai) (ak u (aq 10) ai) (aG _)) (ao (bb (i:=8) sc.nd rfl (by grind) (ak u (aq 9) ai))) aJ))))))))))))))))))))
   (ao (aI (bQ (ag (bQ (ag (dQ cR rfl T.cB tq (ag (aq 4) aa)) (ag (dQ cR rfl T.cB tq (ag (aq 5) aa)) aa))) (ag (aq 6) (ag (aq 7) aa)))))))))))),?_⟩
  nofun;obtain⟨sa,sb,Vs,rfl,T,u,Sf⟩:=oN;ac_rfl;have qN:0<M:=by lia
  left;calc eL T rfl ?_;left;calc bH _ u (λr QP=>?_);have s1:=av.new (.lst (ns.map V.int)) QP;left;calc eL (s1 _ _ T) rfl ?_;left;have u:aU K (upd H r (.lst (ns.map V.int))) Vs (row.map V.int)\/bI K (upd H r (.lst (ns.map V.int))) Vs (row.map V.int):=Sf.elim (λz=>.inl (s1.seq z)) (λz=>.inr (s1.R1 z));calc bH _ u (λX Ec=>?_);have s2:=av.new (.lst (row.map V.int)) Ec;left;calc⟨aal _,λL pL=>?_⟩;have G:=av.new (.lst []) pL;left;calc⟨aal _,λN mI=>?_⟩;have s4:=av.new (.lst []) mI;left;have nra:X≠r:=λz=>by subst z;rw[af]at Ec;cases Ec
  have hrH:H X=none:=s1.free Ec;have hsH:H L=none:=(s1.trans s2).free pL;have hwH:H N=none:=(s1.trans (s2.trans G)).free mI;have nsa:L≠r:=λz=>by subst z;rw[s2 _ _ af]at pL;cases pL
  have nsr:L≠X:=λz=>by subst z;rw[af]at pL;cases pL
  have nwa:N≠r:=λz=>by subst z;rw[G _ _ (s2 _ _ af)]at mI;cases mI
  have nwr:N≠X:=λz=>by subst z;rw[G _ _ af]at mI;cases mI
  have nws:N≠L:=λz=>by subst z;rw[af]at mI;cases mI
  have u:=s1.trans (s2.trans (G.trans s4));have exs:xs.length=ds.length:=by simpa using tQ.1
  refine eL (u _ _ VD) (aA (j:=3) rfl) (.inl ⟨⟨_,aU.of (u _ _ Vr)⟩,ir (K:=K) (xs:=xs) (VC H mt (.ref sa) I m M ds ns row) ?_ ?_ ?_ ?_⟩)
  ·refine⟨r,X,L,N,[],none,none,0,⟨ns,row,[],[]⟩,rfl,u,QP,hrH,hsH,hwH,Ne.symm nra,Ne.symm nsa,Ne.symm nwa,Ne.symm nsr,Ne.symm nwr,Ne.symm nws,s4 _ _ (G _ _ (s2 _ _ af)),s4 _ _ (G _ _ af),s4 _ _ af,⟨rfl,λi z p e=>by simp at e⟩,af,rfl,hb,ou,K' _,K' _,Il⟩
  ·intro i σ H1 hi j4;nofun;obtain⟨r,X,L,N,zs,z9,yH,l,s,rfl,sH,_⟩:=j4;ac_rfl;exact aU.of (sH _ _ Vr)
  ·intro i x σ H1 hxi j5;nofun;obtain⟨r,X,L,N,zs,z9,yH,l,s,rfl,sH,a1,a2,a3,a4,n1,n2,n3,n4,n5,n6,S,Z,U,LQ,Y,rj,qL,mQ,LR,hwn,R⟩:=j5;have Cc:i < ds.length:=by rw[<-exs];exact(List.getElem?_eq_some_iff.mp hxi).1
   have rm:=aZ ds[i] (aaf Cc);have hx:=(tQ.2 i x (bD.dv ds[i]) hxi (by rw[List.getElem?_map,cP Cc];rfl)).aL sH.aV;have Sg:ds.drop i=ds[i]::ds.drop (i+1):=List.drop_eq_getElem_cons Cc;generalize hdd:ds[i]=d at rm hx Sg;rw[Sg]at R;obtain⟨pa,xp,os,k0,rfl,Yp,vF,QW,Ee⟩:=Cd hx;ac_rfl;left;calc bT ?_;left;calc .inr ⟨⟨_,bI.of Yp⟩,λD hD=>?_⟩;have Dk:=yG (d:=d);refine bz (J:=Kq K pa) (n:=xp.length) (λi ys H'=>ys=(((os.take i).filterMap id).map (f6 M I m s.ns s.row)).map V.int/\av H1 H') (L' (aH (by lia))) ⟨rfl,av.new _ hD⟩ ?_ ?_ ?_ ?_
   ·rintro i ys H' hi ⟨_,G⟩;exact⟨_,xp[i],bI.of (G _ _ Yp),cP hi⟩
   ·rintro ys H' ⟨_,G⟩;exact⟨_,bI.of (G _ _ Yp),K' _⟩
   ·intro i ys B hi bL yy pD y H4 tP;nofun;obtain⟨rfl,G⟩:=pD;obtain⟨rfl,u⟩:=tP;have x:=u _ (bI.of (G _ _ Yp));obtain⟨o,ho,oz⟩:=vF.get x;ac_rfl;have yD:os.take (i+1)=os.take i++[o]:=by
     rw[List.take_add_one,ho];rfl
    walk_at "xf";left;rcases oz with⟨rfl,hc⟩|⟨v,rfl,hvx⟩
    ·have ety:∃t,gv K H4 y t/\W.kitOne K t (.type "tuple")=some false:=by
      rcases hc with⟨w,rfl⟩|⟨j,rfl⟩
      ·exact⟨_,.str w,rfl⟩
      ·exact⟨_,.int j,rfl⟩
     obtain⟨t,h1,h2⟩:=ety;refine cL t false h1 h2 ?_
     first|calc⟨false,rfl,?_⟩|skip
     left
     try rw[if_neg Bool.false_ne_true]
     exact⟨_,bL,by lia,by rw[yD];simp,G⟩
    ·have HX:=hvx.aL G.aV;nofun;obtain⟨b,zs',rfl,t⟩:=BV HX;ac_rfl;refine cL _ true (.tup t) rfl ?_
     first|calc⟨true,rfl,?_⟩|skip
     left
     try first|rw[if_pos rfl]|rw[if_pos trivial]
     have x:v.ok ns.length:=oA rm v (by rw[<-QW];calc List.mem_filterMap.mpr ⟨some v,X' ho,rfl⟩);left;calc⟨du,λy u=>?_⟩;have t:=av.new (.tup [.ref r,.ref X]) u;calc eL (t _ _ (G _ _ (sH _ _ VD))) (aA (j:=0) rfl) ?_;calc⟨.ref b,y,r,X,I,m,M,v,s.ns,s.row,k0,rfl,HX.aL t.aV,af,t _ _ (G _ _ S),t _ _ (G _ _ Z),by rw[rj];calc x,qN,mQ,λT u=>?_⟩;calc cJ (u _ _ (t _ _ bL)) yy hi (L' (aH (by lia))) ⟨?_,λc o e=>by rw[az (au e hD)];calc u _ _ (t _ _ (G _ _ e))⟩;rw[yD,List.filterMap_append,List.map_append,List.map_append];rfl
   rintro ys B bL yy ⟨rfl,G⟩;rw[vF.len,List.take_length,QW]at bL;have Ed:H1 D=none:=hD;nofun;generalize t:d.vals.map (f6 M I m s.ns s.row)=ws at bL;have gs:ws.length=d.vals.length:=by rw[<-t];simp
   have va:0<=ws.getD 0 0/\ws.getD 0 0<M:=by rw[<-t];exact uY qN
   have Ie:gc M I m d s=⟨c9 M s.ns (ws.getD 0 0) d,f7 s.row (ws.getD 0 0) d,s.cj++bC (ws.getD 0 0) d,s.words++aY (ws.getD 0 0) d⟩:=by rw[<-t];rfl
   have Ig:me M I m d s=gb (ws.getD 0 0) (ws.getD 1 0) d:=by rw[<-t];rfl
   have t:∀{b:Addr} {o:HO},H1 b=some o->b≠D:=λe=>au e Ed;have nL:av H B:=sH.trans G;have Az:=hx.aL G.aV;have tX:=LQ.aL G.aV;have u:r≠D:=t S;have u:X≠D:=t Z;have u:L≠D:=t U;have u:N≠D:=t Y;have u:∀{b:Addr} {ys zs:List V},B b=some (.tup ys)->∀{c:Addr},B c=some (.lst zs)->b≠c:=λh1 _ h2 z=>by subst z;rw[h1]at h2;cases h2
   have t:=nL _ _ VD
   replace S:=G _ _ S
   replace Z:=G _ _ Z
   replace U:=G _ _ U
   replace Y:=G _ _ Y
   ac_rfl;clear vF QW Ee Dk yy hx
   cases l with
   |succ l=>
    left;rw[if_pos (by simp)];left;calc⟨r,X,L,N,zs,some (.ref pa),some (.ref D),l,s,?_,nL,a1,a2,a3,a4,n1,n2,n3,n4,n5,n6,S,Z,U,tX,Y,rj,qL,mQ,by lia,by lia,R⟩;have:((l+1:Nat):Int)-1=((l:Nat):Int):=by lia
    rw[this]
   |zero=>
   replace R:Nu M I m (me M I m d s).toNat (ds.drop (i+1)) (gc M I m d s)=oa M I m ds ns row:=R
   rw[Ie,Ig]at R;left
   try rw[if_neg (by simp)]
   cases d with
   |set i' v=>
    nofun;obtain⟨a,u1,u2,u3,k1,ea,ha,g1,g2,g3⟩:=bY Az
    cases ea;obtain rfl:=g1.bN;obtain rfl:=g2.bR;obtain⟨g,rfl⟩:=qM gs;obtain⟨Aw,QN,_⟩:=rm;obtain⟨k,rfl⟩:=W' Aw;ac_rfl;have hj:k<s.ns.length:=by lia
    have yE:qu (s.ns.map V.int).length (k:Int)=some k:=sJ (by simpa using hj);have Se:ia (s.ns.map V.int) (k:Int)=some (.int s.ns[k]):=aA (by rw[List.getElem?_map,cP hj];rfl);have LP:s.ns.getD (k:Int).toNat 0=s.ns[k]:=by simp[List.getD_eq_getElem?_getD,cP hj]
    walk_at "jg"
    skip
    calc cL _ k S yE ?_;have O:∀b o,b≠r->B b=some o->upd B r (.lst ((s.ns.map V.int).set k (.int (g)))) b=some o:=λb o ne e=>by rw[az ne];exact e
    have VG:upd B r (.lst ((s.ns.map V.int).set k (.int (g)))) r=some (.lst ((c9 M s.ns (([g]:List Int).getD 0 0) (.set k v)).map V.int)):=by
     rw[af,<-List.map_set];show some (HO.lst (List.map V.int (s.ns.set k (g))))=some (HO.lst (List.map V.int (s.ns.set (k:Int).toNat (g))))
     skip
     rfl
    have t6:bS B (upd B r (.lst ((s.ns.map V.int).set k (.int (g))))):=(bS.refl _).upd λys e=>by rw[S]at e;cases e
    walk_at "jg";refine⟨r,X,L,N,_,some (.ref pa),some (.ref D),0,⟨c9 M s.ns (([g]:List Int).getD 0 0) (.set k v),f7 s.row (([g]:List Int).getD 0 0) (.set k v),s.cj++bC (([g]:List Int).getD 0 0) (.set k v),s.words++aY (([g]:List Int).getD 0 0) (.set k v)⟩,?_,(λb o e=>O b o (au e a1) (nL _ _ e)),a1,a2,a3,a4,n1,n2,n3,n4,n5,n6,VG,(O _ _ (Ne.symm n1) Z),(O _ _ (Ne.symm n2) U),(by simpa[bC] using tX.aL t6),(by simpa[aY] using O _ _ (Ne.symm n3) Y),(by simp only[bX];exact rj),dD (d:=(.set k v)) qN qL va,mQ,(by simp[bC];lia),(by simp[aY];lia),R⟩;rfl
   |add i' v=>
    nofun;obtain⟨a,u1,u2,u3,k1,ea,ha,g1,g2,g3⟩:=bY Az
    cases ea;obtain rfl:=g1.bN;obtain rfl:=g2.bR;obtain⟨g,rfl⟩:=qM gs;obtain⟨Aw,QN,_⟩:=rm;obtain⟨k,rfl⟩:=W' Aw;ac_rfl;have hj:k<s.ns.length:=by lia
    have yE:qu (s.ns.map V.int).length (k:Int)=some k:=sJ (by simpa using hj);have Se:ia (s.ns.map V.int) (k:Int)=some (.int s.ns[k]):=aA (by rw[List.getElem?_map,cP hj];rfl);have LP:s.ns.getD (k:Int).toNat 0=s.ns[k]:=by simp[List.getD_eq_getElem?_getD,cP hj]
    walk_at "jg";refine⟨qN,?_⟩;walk_at "jg";refine cL _ k S yE ?_;have O:∀b o,b≠r->B b=some o->upd B r (.lst ((s.ns.map V.int).set k (.int ((s.ns[k]+g)%M)))) b=some o:=λb o ne e=>by rw[az ne];exact e
    have VG:upd B r (.lst ((s.ns.map V.int).set k (.int ((s.ns[k]+g)%M)))) r=some (.lst ((c9 M s.ns (([g]:List Int).getD 0 0) (.add k v)).map V.int)):=by
     rw[af,<-List.map_set];show some (HO.lst (List.map V.int (s.ns.set k ((s.ns[k]+g)%M))))=some (HO.lst (List.map V.int (s.ns.set (k:Int).toNat ((s.ns.getD (k:Int).toNat 0+g)%M))));rw[LP];rfl
    have t6:bS B (upd B r (.lst ((s.ns.map V.int).set k (.int ((s.ns[k]+g)%M))))):=(bS.refl _).upd λys e=>by rw[S]at e;cases e
    walk_at "jg";refine⟨r,X,L,N,_,some (.ref pa),some (.ref D),0,⟨c9 M s.ns (([g]:List Int).getD 0 0) (.add k v),f7 s.row (([g]:List Int).getD 0 0) (.add k v),s.cj++bC (([g]:List Int).getD 0 0) (.add k v),s.words++aY (([g]:List Int).getD 0 0) (.add k v)⟩,?_,(λb o e=>O b o (au e a1) (nL _ _ e)),a1,a2,a3,a4,n1,n2,n3,n4,n5,n6,VG,(O _ _ (Ne.symm n1) Z),(O _ _ (Ne.symm n2) U),(by simpa[bC] using tX.aL t6),(by simpa[aY] using O _ _ (Ne.symm n3) Y),(by simp only[bX];exact rj),dD (d:=(.add k v)) qN qL va,mQ,(by simp[bC];lia),(by simp[aY];lia),R⟩;rfl
   |times i' v=>
    nofun;obtain⟨a,u1,u2,u3,k1,ea,ha,g1,g2,g3⟩:=bY Az
    cases ea;obtain rfl:=g1.bN;obtain rfl:=g2.bR;obtain⟨g,rfl⟩:=qM gs;obtain⟨Aw,QN,_⟩:=rm;obtain⟨k,rfl⟩:=W' Aw;ac_rfl;have hj:k<s.ns.length:=by lia
    have yE:qu (s.ns.map V.int).length (k:Int)=some k:=sJ (by simpa using hj);have Se:ia (s.ns.map V.int) (k:Int)=some (.int s.ns[k]):=aA (by rw[List.getElem?_map,cP hj];rfl);have LP:s.ns.getD (k:Int).toNat 0=s.ns[k]:=by simp[List.getD_eq_getElem?_getD,cP hj]
    walk_at "jg";have i:=qL _ (aaf hj);refine⟨.inl ⟨by lia,by lia⟩,?_⟩;walk_at "jg";refine⟨qN,?_⟩;walk_at "jg";refine cL _ k S yE ?_;have O:∀b o,b≠r->B b=some o->upd B r (.lst ((s.ns.map V.int).set k (.int ((s.ns[k]*g)%M)))) b=some o:=λb o ne e=>by rw[az ne];exact e
    have VG:upd B r (.lst ((s.ns.map V.int).set k (.int ((s.ns[k]*g)%M)))) r=some (.lst ((c9 M s.ns (([g]:List Int).getD 0 0) (.times k v)).map V.int)):=by
     rw[af,<-List.map_set];show some (HO.lst (List.map V.int (s.ns.set k ((s.ns[k]*g)%M))))=some (HO.lst (List.map V.int (s.ns.set (k:Int).toNat ((s.ns.getD (k:Int).toNat 0*g)%M))));rw[LP];rfl
    have t6:bS B (upd B r (.lst ((s.ns.map V.int).set k (.int ((s.ns[k]*g)%M))))):=(bS.refl _).upd λys e=>by rw[S]at e;cases e
    walk_at "jg";refine⟨r,X,L,N,_,some (.ref pa),some (.ref D),0,⟨c9 M s.ns (([g]:List Int).getD 0 0) (.times k v),f7 s.row (([g]:List Int).getD 0 0) (.times k v),s.cj++bC (([g]:List Int).getD 0 0) (.times k v),s.words++aY (([g]:List Int).getD 0 0) (.times k v)⟩,?_,(λb o e=>O b o (au e a1) (nL _ _ e)),a1,a2,a3,a4,n1,n2,n3,n4,n5,n6,VG,(O _ _ (Ne.symm n1) Z),(O _ _ (Ne.symm n2) U),(by simpa[bC] using tX.aL t6),(by simpa[aY] using O _ _ (Ne.symm n3) Y),(by simp only[bX];exact rj),dD (d:=(.times k v)) qN qL va,mQ,(by simp[bC];lia),(by simp[aY];lia),R⟩;rfl
   |put v=>
    nofun;obtain⟨a,u1,u2,k1,ea,ha,g1,g2⟩:=cD Az
    cases ea;obtain rfl:=g1.bN;obtain⟨g,rfl⟩:=qM gs;ac_rfl;walk_at "jg";refine .inl ⟨_,_,Z,bL,L' (aH (by simp;lia)),λl2 Dm=>?_⟩;have s6:=av.new (.lst (s.row.map V.int++[g].map V.int)) Dm;walk_at "jg";refine .inl ⟨_,af,λl3 Ke=>?_⟩;have s7:=av.new (.lst (dj (s.row.map V.int++[g].map V.int) none (some 12))) Ke;have tY:=s6.trans s7;have e26:upd (upd B l2 (.lst (s.row.map V.int++[g].map V.int))) l3 (.lst (dj (s.row.map V.int++[g].map V.int) none (some 12))) l3=some (.lst ((f7 s.row (([g]:List Int).getD 0 0) (.put v)).map V.int)):=by
     rw[af,QV];show _=some (HO.lst ((if s.row.length<12 then s.row++[g] else s.row).map V.int));congr 2;rw[<-List.map_append,<-List.map_take];congr 1;split
     ·rw[List.take_of_length_le (by simp;lia)]
     ·rw[List.take_append_of_le_length (by lia),List.take_of_length_le mQ]
    have f3:B l3=none:=s6.free Ke;walk_at "jg";refine⟨r,l3,L,N,_,some (.ref pa),some (.ref D),0,⟨c9 M s.ns (([g]:List Int).getD 0 0) (.put v),f7 s.row (([g]:List Int).getD 0 0) (.put v),s.cj++bC (([g]:List Int).getD 0 0) (.put v),s.words++aY (([g]:List Int).getD 0 0) (.put v)⟩,?_,(nL.trans tY),a1,(nL.free f3),a3,a4,(au S f3),n2,n3,(Ne.symm (au U f3)),(Ne.symm (au Y f3)),n6,(tY _ _ S),e26,(tY _ _ U),(by simpa[bC] using tX.aL tY.aV),(by simpa[aY] using tY _ _ Y),(by simp only[bX];exact rj),dD (d:=(.put v)) qN qL va,(by show(if s.row.length<12 then s.row++[_] else s.row).length<=12;split<;>first|exact mQ|(simp;lia)),(by simp[bC];lia),(by simp[aY];lia),R⟩;rfl
   |drop=>
    nofun;obtain⟨a,u1,k1,ea,ha,g1⟩:=gw Az
    cases ea;obtain rfl:=g1.bN;ac_rfl;walk_at "jg";refine .inl ⟨_,Z,λl3 Ke=>?_⟩;have s7:=av.new (.lst (dj (s.row.map V.int) (some 1) none)) Ke;have e26:upd B l3 (.lst (dj (s.row.map V.int) (some 1) none)) l3=some (.lst ((f7 s.row (ws.getD 0 0) .drop).map V.int)):=by
     rw[af,VE];show _=some (HO.lst (s.row.tail.map V.int));rw[List.map_tail]
    walk_at "jg";refine⟨r,l3,L,N,_,some (.ref pa),some (.ref D),0,⟨c9 M s.ns (ws.getD 0 0) .drop,f7 s.row (ws.getD 0 0) .drop,s.cj++bC (ws.getD 0 0) .drop,s.words++aY (ws.getD 0 0) .drop⟩,?_,(nL.trans s7),a1,(nL.free Ke),a3,a4,(au S Ke),n2,n3,(Ne.symm (au U Ke)),(Ne.symm (au Y Ke)),n6,(s7 _ _ S),e26,(s7 _ _ U),(by simpa[bC] using tX.aL s7.aV),(by simpa[aY] using s7 _ _ Y),(by simp only[bX];exact rj),dD (d:=.drop) qN qL va,(by show s.row.tail.length<=12;rw[List.length_tail];lia),(by simp[bC];lia),(by simp[aY];lia),R⟩;rfl
   |send j v=>
    nofun;obtain⟨a,u1,u2,u3,k1,ea,ha,g1,g2,g3⟩:=bY Az
    cases ea;obtain rfl:=g1.bN;obtain rfl:=g2.bR;obtain⟨g,rfl⟩:=qM gs;ac_rfl;walk_at "jg";refine⟨.inl ⟨rfl,_,aU.of U⟩,?_⟩;walk_at "jg";refine⟨du,λtp BJ=>?_⟩;have s6:=av.new (.tup [.int j,.int g]) BJ;walk_at "jg";refine ik _ (s6 _ _ U) (Nat.lt_of_le_of_lt (by have:=LQ.1;lia) (aH (n:=100) (by lia))) ?_;have i:tp≠L:=λz=>by subst z;rw[U]at BJ;cases BJ
    have t6:bS (upd B tp (.tup [.int j,.int g])) (upd (upd B tp (.tup [.int j,.int g])) L (.lst (zs++[.ref tp]))):=(bS.refl _).upd λys e=>by rw[s6 _ _ U]at e;cases e
    have O:∀b o,b≠L->B b=some o->upd (upd B tp (.tup [.int j,.int g])) L (.lst (zs++[.ref tp])) b=some o:=λb o ne e=>by rw[az ne];exact s6 _ _ e
    walk_at "jg";refine⟨r,X,L,N,_,some (.ref pa),some (.ref D),0,⟨c9 M s.ns (([g]:List Int).getD 0 0) (.send j v),f7 s.row (([g]:List Int).getD 0 0) (.send j v),s.cj++bC (([g]:List Int).getD 0 0) (.send j v),s.words++aY (([g]:List Int).getD 0 0) (.send j v)⟩,?_,(λb o e=>O b o (au e a3) (nL _ _ e)),a1,a2,a3,a4,n1,n2,n3,n4,n5,n6,(O _ _ n2 S),(O _ _ n4 Z),af,((tX.aL (s6.aV.trans t6)).snoc (eu (n:=0) (t6 _ _ af) (.int _) (.int _))),(by simpa[aY] using O _ _ (Ne.symm n6) Y),(by simp only[bX];exact rj),dD (d:=(.send j v)) qN qL va,mQ,(by simp[bC];lia),(by simp[aY];lia),R⟩;rfl
   |say v=>
    nofun;obtain⟨a,u1,u2,k1,ea,ha,g1,g2⟩:=cD Az
    cases ea;obtain rfl:=g1.bN;obtain⟨g,rfl⟩:=qM gs;ac_rfl;walk_at "jg";refine⟨.inl ⟨rfl,_,aU.of Y⟩,?_⟩;walk_at "jg";refine ik _ Y (Nat.lt_of_le_of_lt (by simp;lia) (aH (n:=100) (by lia))) ?_;have t6:bS B (upd B N (.lst (s.words.map V.int++[.int g]))):=(bS.refl _).upd λys e=>by rw[Y]at e;cases e
    have O:∀b o,b≠N->B b=some o->upd B N (.lst (s.words.map V.int++[.int g])) b=some o:=λb o ne e=>by rw[az ne];exact e
    walk_at "jg";refine⟨r,X,L,N,_,some (.ref pa),some (.ref D),0,⟨c9 M s.ns (([g]:List Int).getD 0 0) (.say v),f7 s.row (([g]:List Int).getD 0 0) (.say v),s.cj++bC (([g]:List Int).getD 0 0) (.say v),s.words++aY (([g]:List Int).getD 0 0) (.say v)⟩,?_,(λb o e=>O b o (au e a4) (nL _ _ e)),a1,a2,a3,a4,n1,n2,n3,n4,n5,n6,(O _ _ n3 S),(O _ _ n5 Z),(O _ _ n6 U),(by simpa[bC] using tX.aL t6),(by rw[af];simp[aY]),(by simp only[bX];exact rj),dD (d:=(.say v)) qN qL va,mQ,(by simp[bC];lia),(by simp[aY];lia),R⟩;rfl
   |skip v w2 kk=>
    nofun;obtain⟨a,u1,u2,u3,i,k1,ea,ha,g1,g2,g3,g4⟩:=j3 Az
    cases ea;obtain rfl:=g1.bN;obtain rfl:=g4.bR;obtain⟨g,w1,rfl⟩:=Vq gs;ac_rfl;walk_at "jg";by_cases LW:g<w1
    ·left;rw[if_pos (by simpa using LW)];have esk:gb (([g,w1]:List Int).getD 0 0) (([g,w1]:List Int).getD 1 0) (.skip v w2 kk)=kk:=if_pos LW;rw[esk]at R;have i:=rm.2.2.1;walk_at "jg";refine⟨r,X,L,N,_,some (.ref pa),some (.ref D),kk.toNat,⟨c9 M s.ns (([g,w1]:List Int).getD 0 0) (.skip v w2 kk),f7 s.row (([g,w1]:List Int).getD 0 0) (.skip v w2 kk),s.cj++bC (([g,w1]:List Int).getD 0 0) (.skip v w2 kk),s.words++aY (([g,w1]:List Int).getD 0 0) (.skip v w2 kk)⟩,?_,nL,a1,a2,a3,a4,n1,n2,n3,n4,n5,n6,S,Z,U,(by simpa[bC] using tX),(by simpa[aY] using Y),(by simp only[bX];exact rj),dD (d:=(.skip v w2 kk)) qN qL va,mQ,(by simp[bC];lia),(by simp[aY];lia),R⟩;rw[Int.toNat_of_nonneg (by lia)]
    ·left;rw[if_neg (by simpa using LW)];have esk:gb (([g,w1]:List Int).getD 0 0) (([g,w1]:List Int).getD 1 0) (.skip v w2 kk)=0:=if_neg LW;rw[esk]at R;walk_at "jg";refine⟨r,X,L,N,_,some (.ref pa),some (.ref D),0,⟨c9 M s.ns (([g,w1]:List Int).getD 0 0) (.skip v w2 kk),f7 s.row (([g,w1]:List Int).getD 0 0) (.skip v w2 kk),s.cj++bC (([g,w1]:List Int).getD 0 0) (.skip v w2 kk),s.words++aY (([g,w1]:List Int).getD 0 0) (.skip v w2 kk)⟩,?_,nL,a1,a2,a3,a4,n1,n2,n3,n4,n5,n6,S,Z,U,(by simpa[bC] using tX),(by simpa[aY] using Y),(by simp only[bX];exact rj),dD (d:=(.skip v w2 kk)) qN qL va,mQ,(by simp[bC];lia),(by simp[aY];lia),R⟩;rfl
  ·intro σ H1 tR;nofun;obtain⟨r,X,L,N,zs,z9,yH,l,s,rfl,sH,a1,a2,a3,a4,n1,n2,n3,n4,n5,n6,S,Z,U,LQ,Y,rj,qL,mQ,LR,hwn,R⟩:=tR;ac_rfl;rw[exs,List.drop_length] at R;have R:s=oa M I m ds ns row:=by rw[<-R];cases l <;> rfl
   left;calc .inl ⟨_,aU.of S,λg i=>?_⟩;have j:=av.new (.tup (s.ns.map V.int)) i;left;calc .inl ⟨_,aU.of (j _ _ Z),λl m=>?_⟩;have k:=av.new (.tup (s.row.map V.int)) m;left;calc⟨du,λr t=>?_⟩;have i:=av.new (.tup [.ref g,.ref l]) t;left;calc⟨by show 3<=sizeLine;decide,λu m=>?_⟩;have l:=av.new (.tup [.ref r,.ref L,.ref N]) m;have g:=j.trans (k.trans (i.trans l));refine q _ _ (sH.trans g) ⟨_,_,L,N,zs,rfl,af,?_,g _ _ U,?_,?_,a3,a4,n6⟩
   ·rw[<-R];exact(eu af (n0 (i _ _ (k _ _ af))) (n0 (i _ _ af))).aL l.aV
   ·rw[<-R];exact LQ.aL g.aV
   ·rw[<-R];calc g _ _ Y
def iH(n:Nat->Nat)(ad:Nat->Nat->Addr)(t:Nat):List V:=(List.range (n t)).map λi=>V.ref (ad t i)
theorem oC{n:Nat->Nat}{t:Nat}:(iH n ad t).length=n t:=by simp[iH]
theorem aX{n:Nat->Nat}{t i:Nat}(h:i<n t):ia (iH n ad t) (i:Int)=some (.ref (ad t i)):=aA (by simp[iH,h])
def EU(a:V)(p:Addr)(o:Nat->Addr):List (Str×V):=[("own_net",a),("picks_done",.ref p),("states_had",.ref (o 1)),("words_had",.ref (o 2)),("words_said",.ref (o 3)),("letters_say",.ref (o 4)),("senders",.ref (o 5)),("workers",.ref (o 6))]
section
variable {bG:V}{p:Addr}{o:Nat->Addr}
theorem sL:(EU bG p o).lookup ("own_net":Str)=some bG:=by kernel_rfl
theorem aba:(EU bG p o).lookup ("picks_done":Str)=some (.ref p):=by kernel_rfl
theorem AB:(EU bG p o).lookup ("states_had":Str)=some (.ref (o 1)):=by kernel_rfl
theorem VH:(EU bG p o).lookup ("words_had":Str)=some (.ref (o 2)):=by kernel_rfl
theorem LX:(EU bG p o).lookup ("words_said":Str)=some (.ref (o 3)):=by kernel_rfl
theorem LY:(EU bG p o).lookup ("letters_say":Str)=some (.ref (o 4)):=by kernel_rfl
theorem abb:(EU bG p o).lookup ("senders":Str)=some (.ref (o 5)):=by kernel_rfl
theorem LZ:(EU bG p o).lookup ("workers":Str)=some (.ref (o 6)):=by kernel_rfl
end
structure wA(C CN:Addr)(H:Hp)(bG:Addr)(nt:NT):Prop where
 ex:∃ms wv lv,pM CN H bG ms wv lv/\ms.length=nt.ms.length/\(∀(i:Nat) m d,ms[i]?=some m->nt.ms[i]?=some d->R9 C H m d)/\iF H 1 wv (nt.ws.map lW)
 ok:nt.Ok
theorem R9.fr{C:Addr}{d:MD}(f:Fr Z H H')(h:R9 C H m d):R9 C H' m d:=by
 obtain⟨a,st,dd,b,c,e⟩:=h;calc⟨a,st,dd,f.lV b id,c.aL f.aV,e.aL f.aV⟩
theorem pM.fr{CN:Addr}{x:Addr}{d:List Addr}{e g:List V}(f:Fr Z H H')(h:pM CN H x d e g):pM CN H' x d e g:=by
 obtain⟨d,a,b,c,e,g,i,j⟩:=h;calc⟨d,a,b,c,f.lV e id,f.lV g id,f.lV i id,f.lV j id⟩
theorem wA.fr{C CN:Addr}{c:Addr}{nt:NT}(f:Fr Z H H')(h:wA C CN H c nt):wA C CN H' c nt:=by
 obtain⟨⟨c,e,g,j,k,l,n⟩,o⟩:=h;calc⟨⟨c,e,g,j.fr f,k,λi m d a b=>(l i m d a b).fr f,n.aL f.aV⟩,o⟩
structure cV(C CN CR:Addr)(F:Addr->Prop)(H:Hp)(x bG:Addr)(nt:NT)(r:RS)(ad:Nat->Nat->Addr):Prop where
 ins:∃dx o,H x=some (.ins CR dx (EU (.ref bG) (ad 0 0) o))/\∀t,1<=t->t<=6->H (o t)=some (.lst (iH nt.n ad t))/\¬F (o t)/\¬FP nt.n ad (o t)
 cE:ee F H nt.n ad r.ct
 VI:wA C CN H bG nt
section
variable {C CN CR:Addr}{F:Addr->Prop}{H H':Hp}{x bG:Addr}{nt:NT}{r:RS}{ad:Nat->Nat->Addr}
theorem cV.keep(h:cV C CN CR F H x bG nt r ad)(f:Fr F H H'):cV C CN CR F H' x bG nt r ad:=by
 obtain⟨⟨d,o,e,c⟩,g,i⟩:=h;calc⟨⟨d,o,f.lV e id,λt a b=>⟨f.at (c t a b).1 (c t a b).2.1,(c t a b).2⟩⟩,g.keep f,i.fr f⟩
theorem cV.same(h:cV C CN CR F H x bG nt r ad)(s:av H H'):cV C CN CR F H' x bG nt r ad:=h.keep s.fr
theorem cV.own{c:RS}(h:cV C CN CR F H x bG nt r ad)(f:Fr (FP nt.n ad) H H')(b:ee F H' nt.n ad c.ct):cV C CN CR F H' x bG nt c ad:=by
 obtain⟨⟨d,o,e,c⟩,i,g⟩:=h;calc⟨⟨d,o,f.lV e id,λt a b=>⟨f.at (c t a b).1 (c t a b).2.2,(c t a b).2⟩⟩,b,g.fr f⟩
end
abbrev jl:Stmt:=(ck (top 58)).getD 6 (.Pass ⟨0,0,0,0⟩)
def oF(nt:NT)(e j:Nat):Int:=if e=0 then(nt.w j).1 else(nt.w j).2.1
def sM(nt:NT)(e m:Nat):List Nat:=(List.range nt.ws.length).filter λj=>decide (oF nt e j=m)
def AD(C CN:Addr):Sp:=λvs H Q _=>∃(x:Addr) (nt:NT) (m e:Nat),vs=[.ref x,.int m,.int e]/\wA C CN H x nt/\m<nt.ms.length/\e<2/\∀l H',av H H'->H l=none->H' l=some (.lst ((sM nt e m).map λi=>.int (i:Nat)))->Q (.ref l) H'
theorem tZ(D:gQ K CN "ways_at" "Net.ways_at" jl ["self","m","end"])(T:Tx K mg C CN CR F FD)(W:Def P w K mg base "is_within" 2 ["thing","low","beyond"] cm):eV P w K mg base CN "ways_at" 3 ["self","m","end"] (AD C CN):=by
 have sc:aE ["self","m","end"] ["self","m","end"] (ay jl):=by walk_at "s"
 symm
 ·obtain⟨x,d,m,e,rfl,L,M,N,q⟩:=h;rfl
 ·nofun;obtain⟨x,d,m,e,rfl,L,M,N,q⟩:=h;ac_rfl;have N:=hr.units;refine⟨_,(aj (aW (bP (bo (aM W hr (ag (aq 1) (ag ai (ag (bc aP rfl T.cp T' (ag (bJ (aq 0) rfl) aa)) aa)))))) (ao dN) aJ)
   (ao (aI (dO (N':=["number","way","m","end"]) (ix:=[none,none,some 1,some 2]) (lP rfl T.fb (ag (bJ (aq 0) rfl) aa)) (λ_ _ _ _=>(nZ (K:=K) rfl (i:=0) (j:=1) rfl (show(["number","way","m","end"]:List Str).Nodup by decide +kernel) rfl rfl (by grind) (by grind))) (λ_ _ _ _=>(i3 (aC (om (K:=K) rfl N) (fZ (K:=K) rfl N (aq 1) (aq 3)) (aq 2) (aG _)))) (λ_ _ _ _=>(aq 0)))))),?_⟩
  nofun;obtain⟨⟨W,k,N,X,Y,zr,O⟩,Z⟩:=id L;obtain⟨dx,a,b,cc,N,h2,p,h4⟩:=id X;ac_rfl;left;calc⟨x,CN,dx,_,_,rfl,N,T.da,T.yg,Vy,_,.inr ⟨_,bI.of h2,rfl⟩,?_⟩;calc fS (.int m) _ 0 _ rfl (.int _) ?_;rw[show inR 0 (((W.map V.ref).length:Nat):Int) (.int (m:Int))=true by simp[inR,Y,M]];calc jT ?_;rw[if_neg (by decide)];left;calc bT ?_;left;calc fE N T.da T.yh Vz ?_;left;calc Hv false k (Sq.t p) (λD u=>?_);have gs:k.length=d.ws.length:=by simpa using O.1
  have x:=Z.Ht;refine bz (J:=M6 false K b) (n:=k.length) (λi ys H'=>av H H'/\ys=((List.range i).filter λj=>decide (oF d e j=m)).map λj=>V.int (j:Nat)) (L' (aH (by lia))) ⟨av.new _ u,rfl⟩ ?_ ?_ ?_ ?_
  ·rintro i ys H' v ⟨g,_⟩;exact⟨k,k[i],Sq.t (g _ _ p),cP v⟩
  ·rintro ys H' ⟨g,_⟩;exact⟨k,Sq.t (g _ _ p),rfl⟩
  ·intro i ys H' v r R j4 xx H4 j5;nofun;obtain⟨g,rfl⟩:=j4;obtain⟨t,ht,rfl,y⟩:=j5;obtain⟨l,ex,rfl⟩:=y k (Sq.t (g _ _ p));have x:i < d.ws.length:=by lia
   have B:=(O.2 i l (lW (d.w i)) ex (by rw[List.getElem?_map,show d.ws[i]?=some (d.w i) from bA x];rfl)).aL g.aV;have I:=av.new (.tup [.int (i:Nat),l]) ht
   replace B:=B.aL I.aV
   have nK:upd H' t (.tup [.int (i:Nat),l]) t=some (.tup [.int (i:Nat),l]):=af;have S:=I _ _ r;have U:=g.trans I;generalize hG:upd H' t (.tup [.int (i:Nat),l])=G at *;obtain⟨ta,u1,u2,u3,kk,rfl,AF,g1,g2,g3⟩:=bY B;obtain rfl:=g1.bR;obtain rfl:=g2.bR;obtain rfl:=g3.bN;ac_rfl;calc zo (bI.of nK) ⟨Ext.set (Ext.set (Ext.refl _) rfl) rfl,?_⟩;left;have yE:ia [V.int (d.w i).1,V.int (d.w i).2.1,V.str (d.w i).2.2] (e:Int)=some (.int (oF d e i)):=by
    have:e=0\/e=1:=by lia
    rcases this with rfl|rfl
    ·exact aA (j:=0) rfl
    ·exact aA (j:=1) rfl
   calc eL AF yE ?_;left;have k:(List.range (i+1)).filter (λj=>decide (oF d e j=m))=(List.range i).filter (λj=>decide (oF d e j=m))++(if oF d e i=m then[i] else[]):=by
    rw[List.range_succ,List.filter_append];congr 1;by_cases z:oF d e i=m<;>simp[z]
   by_cases z:oF d e i=m
   ·rw[if_pos (by simp[z])];calc cJ S R v (L' (aH (by lia))) ⟨λc o e=>by rw[az (au e u)];calc U _ _ e,?_⟩;rw[k,if_pos z,List.map_append];rfl
   ·rw[if_neg (by simp[z])];exact⟨_,S,by lia,U,by rw[k,if_neg z,List.append_nil]⟩
  ·rintro ys H' r R ⟨g,rfl⟩;rw[gs]at r;calc q _ _ g u r
abbrev iI:Stmt:=(ck (top 58)).getD 4 (.Pass ⟨0,0,0,0⟩)
def qz(C CN:Addr):Sp:=λvs H Q _=>∃(x:Addr) (nt:NT) (m:Nat),vs=[.ref x,.int m]/\wA C CN H x nt/\m<nt.ms.length/\∀l H',av H H'->H l=none->H' l=some (.lst ((sM nt 0 m).map λi=>.int (i:Nat)))->Q (.ref l) H'
theorem sO(D:gQ K CN "ways_out" "Net.ways_out" iI ["self","m"])(T:Tx K mg C CN CR F FD)(g:eV P w K mg base CN "ways_at" 3 ["self","m","end"] (AD C CN)):eV P w K mg base CN "ways_out" 4 ["self","m"] (qz C CN):=by
 have sc:aE ["self","m"] ["self","m"] (ay iI):=by walk_at "s"
 symm
 ·obtain⟨x,d,m,rfl,c,e,q⟩:=h;rfl
 ·nofun;obtain⟨x,d,m,rfl,c,e,q⟩:=h;ac_rfl;have i:=hr.units;calc⟨_,(ao (aI (kq g T.da hr (aq 0) (ag (aq 1) (ag ai aa))))),?_⟩;nofun;obtain⟨⟨j,k,l,i,n,o,p⟩,r⟩:=id c;obtain⟨j,a,b,k,g,l,n,o⟩:=id i;ac_rfl;left;calc dU g (eU (by decide +kernel) (by decide +kernel) (by decide +kernel)) ?_;calc⟨x,d,m,0,rfl,c,e,by decide,q⟩
abbrev jm:Stmt:=(ck (top 58)).getD 5 (.Pass ⟨0,0,0,0⟩)
def sQ(C CN:Addr):Sp:=λvs H Q _=>∃(x:Addr) (nt:NT) (m:Nat),vs=[.ref x,.int m]/\wA C CN H x nt/\m<nt.ms.length/\∀l H',av H H'->H l=none->H' l=some (.lst ((sM nt 1 m).map λi=>.int (i:Nat)))->Q (.ref l) H'
theorem t9(D:gQ K CN "ways_in" "Net.ways_in" jm ["self","m"])(T:Tx K mg C CN CR F FD)(g:eV P w K mg base CN "ways_at" 3 ["self","m","end"] (AD C CN)):eV P w K mg base CN "ways_in" 4 ["self","m"] (sQ C CN):=by
 have sc:aE ["self","m"] ["self","m"] (ay jm):=by walk_at "s"
 symm
 ·obtain⟨x,d,m,rfl,c,e,q⟩:=h;rfl
 ·nofun;obtain⟨x,d,m,rfl,c,e,q⟩:=h;ac_rfl;have i:=hr.units;calc⟨_,(ao (aI (kq g T.da hr (aq 0) (ag (aq 1) (ag ai aa))))),?_⟩;nofun;obtain⟨⟨j,k,l,i,n,o,p⟩,r⟩:=id c;obtain⟨j,a,b,k,g,l,n,o⟩:=id i;ac_rfl;left;calc dU g (eU (by decide +kernel) (by decide +kernel) (by decide +kernel)) ?_;calc⟨x,d,m,1,rfl,c,e,by decide,q⟩
def FS(F:Addr->Prop)(H:Hp):Prop:=∀b,F b->∃o,H b=some o/\soft o
theorem FS.fr{F:Addr->Prop}(h:FS F H)(f:Fr Z H H')(c:∀b,F b->¬Z b):FS F H':=λb a=>by
 obtain⟨o,e,s⟩:=h b a;calc⟨o,f.at e (c b a),s⟩
theorem _root_.DD.ee.sR{F:Addr->Prop}{n:Nat->Nat}{ct:Nat->Nat->CO}(h:ee F H n ad ct):∀b,F b->¬FP n ad b:=λb a ⟨t,i,c,e⟩=>h.out t i c (e▸a)
theorem small{n:Nat}(h:n<=20000):n<sizeLine:=by rw[sizeLine_eq];lia
theorem QX{r:RS}{n:NT}{w:Nat}{x:Int}{s:Option (Int×Int)}:∀t i,i<n.n t->setC (setC (setC r.ct 4 w (.l ((r.ww w).say.map .int++[.int x]))) 5 w (.l ((r.ww w).snd.map wd++[wd s]))) 6 w (.l ((r.ww w).ky.map wd++[.bM])) t i=(r.put w x s).ct t i:=by
 intro t i a;unfold setC
 match t,a with
 |0,_=>simp[RS.ct,RS.put]
 |1,_=>simp[RS.ct,RS.put]
 |2,_=>simp[RS.ct,RS.put]
 |3,_=>simp[RS.ct,RS.put]
 |4,_=>by_cases e:i=w<;>simp[RS.ct,RS.put,e]
 |5,_=>by_cases e:i=w<;>simp[RS.ct,RS.put,e]
 |6,_=>by_cases e:i=w<;>simp[RS.ct,RS.put,e,wd]
 |(t+7),a=>calc absurd a (aao i)
abbrev gD:Stmt:=(ck (top 27)).getD 1 (.Pass ⟨0,0,0,0⟩)
inductive Cm(C CN CR:Addr)(vs:List V)(H:Hp)(Q:VK):Prop
 |mk (F:Addr->Prop) (x bG:Addr) (nt:NT) (r:RS) (ad:Nat->Nat->Addr) (wy:Nat) (said:Int) (sv:V) (s:Option (Int×Int)) (h0:vs=[.ref x,.int (wy:Nat),.int said,sv]) (h1:cV C CN CR F H x bG nt r ad) (h2:FS F H) (h3:wy<nt.ws.length) (h4:HT H 4 sv (wd s)) (h5:r.tx nt 19999) (h6:∀H',Fr (FP nt.n ad) H H'->cV C CN CR F H' x bG nt (r.put wy said s) ad->Q .bM H'):Cm C CN CR vs H Q
def sS(C CN CR:Addr):Sp:=λvs H Q _=>Cm C CN CR vs H Q
theorem pN(D:gQ K CR "put_letter" "Run.put_letter" gD ["self","way","said","sender"])(T:Tx K mg C CN CR F FD):eV P w K mg base CR "put_letter" 1 ["self","way","said","sender"] (sS C CN CR):=by
 have sc:aE ["self","way","said","sender"] ["self","way","said","sender"] (ay gD):=by walk_at "s"
 symm
 ·obtain⟨F,x,N,g,r,ad,a,c,v,s,rfl,j,I,b,J,k,q⟩:=h;rfl
 ·nofun;obtain⟨F,x,N,g,r,ad,a,c,v,s,rfl,j,I,b,J,k,q⟩:=h;ac_rfl;have x:=hr.units;refine⟨_,(aj (bV (dA nJ qm qo bW (ak x (bJ (aq 0) rfl) (aq 1)) (ag (aq 2) aa)))
   (aj (bV (dA nJ qm qo bW (ak x (bJ (aq 0) rfl) (aq 1)) (ag (aq 3) aa)))
   (ao (bV (dA nJ qm qo bW (ak x (bJ (aq 0) rfl) (aq 1)) (ag mi aa)))))),?_⟩
  nofun;obtain⟨x,o,y,d⟩:=j.ins;have z:=j.cE;have x:=(d 4 (by decide) (by decide)).1;have O:=(d 5 (by decide) (by decide)).2.2;have R:=(d 6 (by decide) (by decide)).2.2;have N:=k.bs a b;have N:=k.ls a b;have N:=k.lk a b;obtain⟨l,m,N⟩:=z.lst (t:=4) (i:=a) b rfl;ac_rfl;have k:l.length=(r.ww a).say.length:=by simpa using N.1
  left;calc fE y T.aS T.cf LY ?_;left;calc bu x (aX b) ?_;calc⟨.inl ⟨rfl,_,aU.of m⟩,?_⟩;left;calc ik l m (small (by lia)) ?_;have B:=z.app (t:=4) (i:=a) b rfl m (dM.one (.int c));have e:Fr (FP g.n ad) H (upd H (ad 4 a) (.lst (l++[.int c]))):=Fr.refl.upd ⟨4,a,b,rfl⟩ m trivial;generalize U:upd H (ad 4 a) (.lst (l++[.int c]))=L at *;have x:=e.lV y id;have c:=e.at (d 5 (by decide) (by decide)).1 O;obtain⟨p,u,k⟩:=B.lst (t:=5) (i:=a) b rfl;have l:p.length=(r.ww a).snd.length:=by simpa using k.1
  have k:=I.fr e z.sR;left;calc fE x T.aS T.fH abb ?_;left;calc bu c (aX b) ?_;calc⟨.inl ⟨rfl,_,aU.of u⟩,?_⟩;left;calc ik p u (small (by lia)) ?_;have M:=B.app (t:=5) (i:=a) b rfl u (dM.one (B.ht k (J.aL e.aV)));have G:Fr (FP g.n ad) H (upd L (ad 5 a) (.lst (p++[v]))):=e.upd ⟨5,a,b,rfl⟩ u trivial;generalize W:upd L (ad 5 a) (.lst (p++[v]))=S at *;have l:=G.lV y id;have e:=G.at (d 6 (by decide) (by decide)).1 R;obtain⟨k,c,m⟩:=M.lst (t:=6) (i:=a) b rfl;have d:k.length=(r.ww a).ky.length:=by simpa using m.1
  left;calc fE l T.aS T.dH LZ ?_;left;calc bu e (aX b) ?_;calc⟨.inl ⟨rfl,_,aU.of c⟩,?_⟩;left;calc ik k c (small (by lia)) ?_;have m:=M.app (t:=6) (i:=a) b rfl c (dM.one (.bM));have d:Fr (FP g.n ad) H (upd S (ad 6 a) (.lst (k++[.bM]))):=G.upd ⟨6,a,b,rfl⟩ c trivial;calc q _ d (j.own d (m.congr QX))
abbrev fI:Stmt:=(ck (top 27)).getD 2 (.Pass ⟨0,0,0,0⟩)
def yM(C CN CR:Addr)(c:Nat->Addr):Sp:=λvs H Q E=>∃(F:Addr->Prop) (x b:Addr) (nt:NT) (r:RS) (ad:Nat->Nat->Addr) (m:Int),vs=[.ref x,.int m]/\cV C CN CR F H x b nt r ad/\(0<=m/\m<(nt.ms.length:Int)->Q .bM H)/\(¬(0<=m/\m<(nt.ms.length:Int))->∀a H',av H H'->H' a=some (XO a (c 11) none false)->E (.ref a) none H')
theorem mS(D:gQ K CR "need_machine" "Run.need_machine" fI ["self","m"])(T:Tx K mg C CN CR F FD)(e:DI K mg B c)(k:Def P w K mg base "is_within" 2 ["thing","low","beyond"] cm):dR P w K mg base CR "need_machine" 3 ["self","m"] (yM C CN CR c):=by
 have d:aE ["self","m"] ["self","m"] (ay fI):=by walk_at "s"
 refine D.Li d (λl H Q E h=>?_) (λf t A d s H l Q E g h=>?_)
 ·obtain⟨F,x,p,b,r,ad,m,rfl,i,q,j⟩:=h;rfl
 ·nofun;obtain⟨F,x,p,b,r,ad,m,rfl,i,q,j⟩:=h;ac_rfl;have d:=g.units;calc⟨_,(ao (aW (bP (bo (aM k g (ag (aq 1) (ag ai (ag (bc aP rfl T.cp T' (ag (bJ (aq 0) rfl) aa)) aa)))))) (ao (xT rfl BR (M4 e.qw (ag aD aa)))) aJ)),?_⟩;obtain⟨h,o,l,p⟩:=i.ins;have g:=(p 1 (by decide) (by decide)).1;left;calc⟨x,CR,h,_,_,rfl,l,T.aS,T.bO,AB,_,.inl ⟨_,aU.of g,rfl⟩,?_⟩;calc fS (.int m) _ 0 _ rfl (.int _) ?_;rw[oC];by_cases d:0<=m/\m < ((b.n 1:Nat):Int)
  ·rw[show inR 0 ((b.n 1:Nat):Int) (.int m)=true by simp only[inR];rw[Bool.and_eq_true,decide_eq_true_eq,decide_eq_true_eq];calc d];calc jT ?_;rw[if_neg (by decide)];left;exact q d
  ·rw[show inR 0 ((b.n 1:Nat):Int) (.int m)=false by rw[<-Bool.not_eq_true];simp only[inR];rw[Bool.and_eq_true,decide_eq_true_eq,decide_eq_true_eq];calc d];calc jT ?_;rw[if_pos (by decide)];left;calc yi (D:=⟨λ_ _=>True,λ_ _=>True,λ_ _=>True,λ_ _=>True⟩) (σ:=[]) (e.cl 11 (by decide)) λa b=>j d a _ (sr b) af
abbrev iJ:Stmt:=(ck (top 27)).getD 4 (.Pass ⟨0,0,0,0⟩)
def Nv(C CN CR:Addr):Sp:=λvs H Q _=>∃(F:Addr->Prop) (x b:Addr) (nt:NT) (r:RS) (ad:Nat->Nat->Addr) (m:Nat) (a:V),vs=[.ref x,.int m,a]/\cV C CN CR F H x b nt r ad/\m<nt.ws.length/\Q .bM H
theorem sT(D:gQ K CR "need_way" "Run.need_way" iJ ["self","way","at"])(T:Tx K mg C CN CR F FD)(e:Def P w K mg base "is_within" 2 ["thing","low","beyond"] cm):eV P w K mg base CR "need_way" 3 ["self","way","at"] (Nv C CN CR):=by
 have sc:aE ["self","way","at"] ["self","way","at"] (ay iJ):=by walk_at "s"
 symm
 ·obtain⟨F,x,g,b,r,ad,m,a,rfl,c,d,q⟩:=h;rfl
 ·nofun;obtain⟨F,x,g,b,r,ad,m,a,rfl,c,d,q⟩:=h;ac_rfl;have g:=hr.units;calc⟨_,(ao (aW (bP (bo (aM e hr (ag (aq 1) (ag ai (ag (bc aP rfl T.cp T' (ag (bJ (aq 0) rfl) aa)) aa)))))) (ao dN) aJ)),?_⟩;obtain⟨g,o,i,j⟩:=c.ins;have e:=(j 4 (by decide) (by decide)).1;left;calc⟨x,CR,g,_,_,rfl,i,T.aS,T.cf,LY,_,.inl ⟨_,aU.of e,rfl⟩,?_⟩;calc fS (.int m) _ 0 _ rfl (.int _) ?_;rw[oC];rw[show inR 0 ((b.n 4:Nat):Int) (.int (m:Int))=true by simp[inR];calc d];calc jT ?_;rw[if_neg (by decide)];left;calc q
abbrev gj:Stmt:=(ck (top 27)).getD 5 (.Pass ⟨0,0,0,0⟩)
theorem dZ{a:V}{o:Nat->Addr}(h:f∉(["own_net","picks_done","states_had","words_had","words_said","letters_say","senders","workers"]:List Str)):(EU a p o).lookup f=none:=by
 simp only[List.mem_cons,List.not_mem_nil,or_false,not_or]at h;unfold EU;simp[List.lookup,beq_eq_false_iff_ne.mpr h.1,beq_eq_false_iff_ne.mpr h.2.1,beq_eq_false_iff_ne.mpr h.2.2.1,beq_eq_false_iff_ne.mpr h.2.2.2.1,beq_eq_false_iff_ne.mpr h.2.2.2.2.1,beq_eq_false_iff_ne.mpr h.2.2.2.2.2.1,beq_eq_false_iff_ne.mpr h.2.2.2.2.2.2.1,beq_eq_false_iff_ne.mpr h.2.2.2.2.2.2.2]
def Nw(C CN CR:Addr):Sp:=λvs H Q _=>∃(F:Addr->Prop) (x b:Addr) (nt:NT) (r:RS) (ad:Nat->Nat->Addr) (m k:Nat) (a:V),vs=[.ref x,.int m,.int k,a]/\cV C CN CR F H x b nt r ad/\m<nt.ws.length/\k<(r.ww m).say.length/\Q .bM H
theorem oG(D:gQ K CR "need_letter" "Run.need_letter" gj ["self","way","number","at"])(T:Tx K mg C CN CR F FD)(g:Def P w K mg base "is_within" 2 ["thing","low","beyond"] cm)(j:eV P w K mg base CR "need_way" 3 ["self","way","at"] (Nv C CN CR)):eV P w K mg base CR "need_letter" 4 ["self","way","number","at"] (Nw C CN CR):=by
 have sc:aE ["self","way","number","at"] ["self","way","number","at"] (ay gj):=by walk_at "s"
 symm
 ·obtain⟨F,x,d,e,r,ad,m,k,a,rfl,b,c,l,q⟩:=h;rfl
 ·nofun;obtain⟨F,x,d,e,r,ad,m,k,a,rfl,b,c,l,q⟩:=h;ac_rfl;have l:=hr.units;refine⟨_,(aj (bV (kq j T.aS hr (aq 0) (ag (aq 1) (ag (aq 3) aa))))
   (ao (aW (bP (bo (aM g hr (ag (aq 2) (ag ai (ag (bc aP rfl T.cp T' (ag (ak l (bJ (aq 0) rfl) (aq 1)) aa)) aa)))))) (ao dN) aJ))),?_⟩
  nofun;obtain⟨j,o,g,l⟩:=b.ins;have n:=(l 4 (by decide) (by decide)).1;obtain⟨j,p,u⟩:=b.cE.lst (t:=4) (i:=m) c rfl;ac_rfl;have l:j.length=(r.ww m).say.length:=by simpa using u.1
  left;calc dU g (dZ (by decide +kernel)) ?_;calc⟨_,x,d,e,r,ad,m,_,rfl,b,c,?_⟩;left;calc fE g T.aS T.cf LY ?_;left;calc bu n (aX c) ?_;calc bH _ (.inl ⟨_,aU.of p,rfl⟩) ?_;calc fS (.int k) _ 0 _ rfl (.int _) ?_;rw[show inR 0 ((j.length:Nat):Int) (.int (k:Int))=true by simp[inR];lia];calc jT ?_;rw[if_neg (by decide)];left;calc q
structure _root_.DD.RS.VJ(nt:NT)(r:RS)(w k:Nat):Prop where
 lt:w<nt.ws.length
 lies:(r.ww w).ky[k]?=some none
 row:(nt.w w).2.2="row"->0<k->∃e,(r.ww w).ky[k-1]?=some (some e)
theorem Ip{n:Nat}{v:V}(h:HD H n v (wd none)):v=.bM:=by
 have h:HD H n v .bM:=h
 cases h;rfl
theorem Cn{H:Hp}{n:Nat}{v:V}{e:Int×Int}(h:HD H n v (wd (some e))):∃a,v=.ref a/\H a=some (.tup [.int e.1,.int e.2]):=by
 have h:HD H n v (.tup [.int e.1,.int e.2]):=h
 cases h with
 | @tup n a d _ e l i=>
  obtain⟨u,v,rfl⟩:=ln2 l;have b:=i 0 u _ rfl rfl;have c:=i 1 v _ rfl rfl;obtain rfl:=b.bR;obtain rfl:=c.bR;calc⟨a,rfl,e⟩
theorem oH{vs:List V}{v:V}(h:1<=vs.length)(e:vs[vs.length-1]?=some v):ia vs (-1)=some v:=by
 obtain⟨ys,z,rfl⟩:∃ys z,vs=ys++[z]:=⟨vs.dropLast,vs.getLast (by intro a;rw[a]at h;simp at h),(List.dropLast_concat_getLast _).symm⟩
 rw[jM];simpa using e
abbrev gY:Stmt:=(ck (top 27)).getD 6 (.Pass ⟨0,0,0,0⟩)
def Nx(C CN CR:Addr):Sp:=λvs H Q _=>∃(F:Addr->Prop) (x b:Addr) (nt:NT) (r:RS) (ad:Nat->Nat->Addr) (m k:Nat) (a:V),vs=[.ref x,.int m,.int k,a]/\cV C CN CR F H x b nt r ad/\r.Ok nt/\r.VJ nt m k/\∀H',av H H'->Q .bM H'
theorem qO(D:gQ K CR "need_pick" "Run.need_pick" gY ["self","way","number","at"])(T:Tx K mg C CN CR F FD)(df:eV P w K mg base CN "ways" 1 ["self"] (oB CN))(gk:eV P w K mg base CR "need_letter" 4 ["self","way","number","at"] (Nw C CN CR)):eV P w K mg base CR "need_pick" 5 ["self","way","number","at"] (Nx C CN CR):=by
 have sc:aE ["self","way","number","at","sort"] ["self","way","number","at"] (ay gY):=by walk_at "s"
 symm
 ·obtain⟨F,x,I,g,r,ad,m,k,a,rfl,p,S,y,q⟩:=h;rfl
 ·nofun;obtain⟨F,x,I,g,r,ad,m,k,a,rfl,p,S,y,q⟩:=h;ac_rfl;have b:=hr.units;refine⟨_,(aj (bV (kq gk T.aS hr (aq 0) (ag (aq 1) (ag (aq 2) (ag (aq 3) aa)))))
   (aj (aW (aC uE (ak b (ak b (bJ (aq 0) rfl) (aq 1)) (aq 2)) mi (aG _)) (ao dN) aJ)
   (aj (bb (i:=4) sc.nd rfl (by grind) (ak b (ak b (iA df T.da hr (bJ (aq 0) rfl)) (aq 1)) ai))
   (ao (aW (PW.pt (pw_and (aC (aT b) (aq 4) aD (aG _)) (pw_and (aC o8 (aq 2) ai (aG _)) (pw_and1 (aC Gf (ak b (ak b (bJ (aq 0) rfl) (aq 1)) (aQ ei (aq 2) ai)) mi (aG _)))))) (ao dN) aJ))))),?_⟩
  nofun;obtain⟨dx,o,z,b⟩:=p.ins;obtain⟨⟨ms,c,lv,U,mJ,zr,W⟩,aZ⟩:=p.VI;have X:=(b 6 (by decide) (by decide)).1;have n:=y.lt;obtain⟨v6,Y,Z⟩:=p.cE.lst (t:=6) (i:=m) n rfl;have b:=y.lies;have BS:k<(r.ww m).ky.length:=(List.getElem?_eq_some_iff.mp b).1;obtain⟨v,ev,dv⟩:=Z.get (i:=k) (d:=wd none) (by rw[List.getElem?_map,b];rfl);have:=Ip dv;subst this;ac_rfl;left;calc dU z (dZ (by decide +kernel)) ?_;calc⟨_,x,I,g,r,ad,m,k,a,rfl,p,n,by rw[S.lk m n];calc BS,?_⟩;left;calc fE z T.aS T.dH LZ ?_;left;calc bu X (aX n) ?_;calc bu Y (aA ev) ?_;left
  try rw[if_neg (by decide)]
  left;calc fE z T.aS T.de sL ?_;nofun;obtain⟨p,x,S,c1,b,g2,g3,g4⟩:=id U;ac_rfl;left;calc dU b (eU (by decide +kernel) (by decide +kernel) (by decide +kernel)) ?_;calc fS I ms c lv rfl U (λl p=>?_);have u:=av.new (.lst c) p;have el:upd H l (.lst c) l=some (.lst c):=af;generalize hG:upd H l (.lst c)=G at *;left;have b:g.ws[m]?=some (g.w m):=bA n;have l:m<c.length:=by have:=W.1;simp at this;lia
  have AE:=(W.2 m c[m] (lW (g.w m)) (by simp) (by rw[List.getElem?_map,b];rfl)).aL u.aV;nofun;obtain⟨ta,l,p,x,I,J,AF,q1,q2,q3⟩:=bY AE;obtain rfl:=q1.bR;obtain rfl:=q2.bR;obtain rfl:=q3.bN;ac_rfl;calc bu el (aA (j:=m) (v:=.ref ta) (by rw[<-J];simp)) ?_;calc eL AF (aA (j:=2) rfl) ?_;left;have D7:=u _ _ z;have L:=u _ _ X;have M:=u _ _ Y;have N:=q _ u;have b:=y.row;by_cases B:(g.w m).2.2="row"
  ·by_cases c:0 < k
   ·nofun;obtain⟨e,he⟩:=b B c;obtain⟨g,O,R⟩:=Z.get (i:=k - 1) (d:=wd (some e)) (by rw[List.getElem?_map,he];rfl);obtain⟨ae,rfl,b⟩:=Cn R;ac_rfl;rw[if_pos (by simp[B]),if_pos (by simp;lia)];calc fE D7 T.aS T.dH LZ ?_;left;calc bu L (aX n) ?_;calc bu M (show ia v6 ((k:Int) - 1)=some (.ref ae) from by rw[show(k:Int) - 1=((k - 1:Nat):Int) by lia];calc aA O) ?_;left
    try rw[if_neg (by decide)]
    left;exact N
   ·rw[if_pos (by simp[B]),if_neg (by simp;lia),if_neg (by decide)];left;exact N
  ·rw[if_neg (by simp[B]),if_neg (by decide)];left;calc N
abbrev kX:Stmt:=(ck (top 27)).getD 11 (.Pass ⟨0,0,0,0⟩)
theorem Co{H:Hp}{n:Nat}{v:V}{s:List Int×List Int}(h:HD H n v (mC s)):HT H 2 v (wY s.1 s.2):=by
 have h:HD H n v (.tup [.tup (s.1.map .int),.tup (s.2.map .int)]):=h
 cases h with
 | @tup n a c _ e l i=>
  obtain⟨u,v,rfl⟩:=ln2 l;have d:=i 0 u _ rfl rfl;have f:=i 1 v _ rfl rfl;have b:∀{n:Nat} {u:V} {ns:List Int},HD H n u (.tup (ns.map .int))->HT H 1 u (.tup (ns.map .int)):=λ{n u ns} h=>by
   cases h with
   | @tup n a c _ e l i=>exact n0 (n:=0) (by rw[e,show c=ns.map V.int from dM.mB ⟨l,i⟩])
  calc eu e (b d) (b f)
def Cp(C CN CR:Addr)(c:Nat->Addr):Sp:=λvs H Q E=>∃(F:Addr->Prop) (x b:Addr) (nt:NT) (r:RS) (ad:Nat->Nat->Addr) (m:Int),vs=[.ref x,.int m]/\cV C CN CR F H x b nt r ad/\r.Ok nt/\(∀k:Nat,m=k->k<nt.ms.length->∀v,HT H 2 v (wY ((r.mm k).di.bE ([],[])).1 ((r.mm k).di.bE ([],[])).2)->Q v H)/\(¬(0<=m/\m<(nt.ms.length:Int))->∀a H',av H H'->H' a=some (XO a (c 11) none false)->E (.ref a) none H')
theorem yN(D:gQ K CR "state" "Run.state" kX ["self","m"])(T:Tx K mg C CN CR F FD)(s:DI K mg B c)(v:dR P w K mg base CR "need_machine" 3 ["self","m"] (yM C CN CR c)):dR P w K mg base CR "state" 4 ["self","m"] (Cp C CN CR c):=by
 have e:aE ["self","m"] ["self","m"] (ay kX):=by walk_at "s"
 refine D.Li e (λy H Q E h=>?_) (λf M A e s H y Q E j h=>?_)
 ·obtain⟨F,x,l,g,r,ad,m,rfl,b,n,q,p⟩:=h;rfl
 ·nofun;obtain⟨F,x,l,g,r,ad,m,rfl,b,n,q,p⟩:=h;ac_rfl;have e:=j.units;refine⟨_,(aj (bV (fF v lQ T.aS j (aq 0) (ag (aq 1) aa)))
   (ao (aI (ak e (ak e (bJ (aq 0) rfl) (aq 1)) (jI gu ai))))),?_⟩
  obtain⟨h,o,u,e⟩:=b.ins;have z:=(e 1 (by decide) (by decide)).1;left;calc dU u (dZ (by decide +kernel)) ?_;calc⟨_,x,l,g,r,ad,m,rfl,b,λG=>?_,λI a H' J L=>p I a H' J L⟩;obtain⟨k,rfl⟩:=W' G.1;have e:k<g.ms.length:=by lia
  left;nofun;obtain⟨h,j,g⟩:=b.cE.lst (t:=1) (i:=k) e rfl;have b:h.length=(r.mm k).di.length:=by simpa using g.1
  have h:=n.we e;obtain⟨v,l,p⟩:=g.get (i:=(r.mm k).di.length-1) (d:=mC ((r.mm k).di.bE ([],[]))) (by rw[List.getElem?_map,jS (d:=([],[])) h];rfl);ac_rfl;calc fE u T.aS T.bO AB ?_;left;calc bu z (aX e) ?_;calc bu j (oH (by lia) (by rw[b];calc l)) ?_;calc q k rfl e _ (Co (p.cv fC))
abbrev kY:Stmt:=(ck (top 27)).getD 10 (.Pass ⟨0,0,0,0⟩)
def AG(C CN CR:Addr)(c:Nat->Addr):Sp:=λvs H Q E=>∃(F:Addr->Prop) (x b:Addr) (nt:NT) (r:RS) (ad:Nat->Nat->Addr) (m:Int),vs=[.ref x,.int m]/\cV C CN CR F H x b nt r ad/\(∀k:Nat,m=k->k<nt.ms.length->Q (.int (((r.mm k).di.length:Nat)-1)) H)/\(¬(0<=m/\m<(nt.ms.length:Int))->∀a H',av H H'->H' a=some (XO a (c 11) none false)->E (.ref a) none H')
theorem yO(D:gQ K CR "count" "Run.count" kY ["self","m"])(T:Tx K mg C CN CR F FD)(s:DI K mg B c)(p:dR P w K mg base CR "need_machine" 3 ["self","m"] (yM C CN CR c)):dR P w K mg base CR "count" 4 ["self","m"] (AG C CN CR c):=by
 have d:aE ["self","m"] ["self","m"] (ay kY):=by walk_at "s"
 refine D.Li d (λu H Q E h=>?_) (λf J A d s H u Q E g h=>?_)
 ·obtain⟨F,x,j,e,r,ad,m,rfl,b,q,l⟩:=h;rfl
 ·nofun;obtain⟨F,x,j,e,r,ad,m,rfl,b,q,l⟩:=h;ac_rfl;have d:=g.units;refine⟨_,(aj (bV (fF p lQ T.aS g (aq 0) (ag (aq 1) aa)))
   (ao (aI (aQ ei (bc aP rfl T.cp T' (ag (ak d (bJ (aq 0) rfl) (aq 1)) aa)) ai)))),?_⟩
  obtain⟨g,o,n,d⟩:=b.ins;have v:=(d 1 (by decide) (by decide)).1;left;calc dU n (dZ (by decide +kernel)) ?_;calc⟨_,x,j,e,r,ad,m,rfl,b,λy=>?_,λz a H' G I=>l z a H' G I⟩;obtain⟨k,rfl⟩:=W' y.1;have d:k<e.ms.length:=by lia
  left;obtain⟨e,g,h⟩:=b.cE.lst (t:=1) (i:=k) d rfl;have b:e.length=(r.mm k).di.length:=by simpa using h.1
  calc fE n T.aS T.bO AB ?_;left;calc bu v (aX d) ?_;calc bH _ (.inl ⟨_,aU.of g,rfl⟩) ?_;left;rw[b];calc q k rfl d
abbrev kZ:Stmt:=(ck (top 27)).getD 12 (.Pass ⟨0,0,0,0⟩)
def AH(C CN CR:Addr)(c:Nat->Addr):Sp:=λvs H Q E=>∃(F:Addr->Prop) (x b:Addr) (nt:NT) (r:RS) (ad:Nat->Nat->Addr) (m:Int),vs=[.ref x,.int m]/\cV C CN CR F H x b nt r ad/\(∀k:Nat,m=k->k<nt.ms.length->∀l,H l=none->Q (.ref l) (upd H l (.lst (((r.mm k).wp.bE []).map V.int))))/\(¬(0<=m/\m<(nt.ms.length:Int))->∀a H',av H H'->H' a=some (XO a (c 11) none false)->E (.ref a) none H')
theorem yP(D:gQ K CR "words" "Run.words" kZ ["self","m"])(T:Tx K mg C CN CR F FD)(s:DI K mg B c)(u:dR P w K mg base CR "need_machine" 3 ["self","m"] (yM C CN CR c)):dR P w K mg base CR "words" 4 ["self","m"] (AH C CN CR c):=by
 have d:aE ["self","m"] ["self","m"] (ay kZ):=by walk_at "s"
 refine D.Li d (λv H Q E h=>?_) (λf O A d s H v Q E j h=>?_)
 ·obtain⟨F,x,l,e,r,ad,m,rfl,b,q,n⟩:=h;rfl
 ·nofun;obtain⟨F,x,l,e,r,ad,m,rfl,b,q,n⟩:=h;ac_rfl;have d:=j.units;refine⟨_,(aj (bV (fF u lQ T.aS j (aq 0) (ag (aq 1) aa)))
   (ao (aI (dQ cK rfl T.e9 ze (ag (ak d (bJ (aq 0) rfl) (aq 1)) aa))))),?_⟩
  obtain⟨h,o,p,d⟩:=b.ins;have y:=(d 3 (by decide) (by decide)).1;left;calc dU p (dZ (by decide +kernel)) ?_;calc⟨_,x,l,e,r,ad,m,rfl,b,λz=>?_,λG a H' I J=>n G a H' I J⟩;obtain⟨k,rfl⟩:=W' z.1;have g:k<e.ms.length:=by lia
  left;nofun;obtain⟨d,L,M⟩:=b.cE.lst (t:=3) (i:=k) g rfl;have N:=M.mB;subst N;ac_rfl;calc fE p T.aS T.cA LX ?_;left;calc bu y (aX g) ?_;left;calc⟨_,.inl (aU.of L),λl b=>q k rfl g l b⟩
theorem sU{w:Nat}:∀{l:List Nat},w∈l->l[l.idxOf w]?=some w/\∀i y,i<l.idxOf w->l[i]?=some y->y≠w
 | [],h=>by simp at h
 |a::r,h=>by
  by_cases e:a=w
  ·subst e;rw[List.idxOf_cons_self];exact⟨rfl,λi y c=>absurd c (aao i)⟩
  ·have hr:w∈r:=by
    rcases List.mem_cons.mp h with h|h
    ·exact absurd h.symm e
    ·exact h
   obtain⟨d,g⟩:=sU hr;have j:(a::r).idxOf w=r.idxOf w+1:=by rw[List.idxOf_cons,beq_eq_false_iff_ne.mpr e];rfl
   rw[j];refine⟨by simpa using d,λi y c b=>?_⟩
   cases i with
   |zero=>simp at b;subst b;calc e
   |succ i=>calc g i y (by lia) (by simpa using b)
theorem Cq{n k:Nat}(h:k<n):qu n (k:Int)=some k:=by
 unfold qu;rw[if_pos (by lia),if_pos (by lia)];simp
theorem rq{nt:NT}(h:nt.Ok){w:Nat}(a:w<nt.ws.length):(nt.w w).2.1=((nt.goal w:Nat):Int):=by
 have:=h.wy a;unfold NT.goal;lia
theorem Iq{nt:NT}(h:nt.Ok){w:Nat}(a:w<nt.ws.length):w∈sM nt 1 (nt.goal w):=by
 unfold sM;rw[List.mem_filter];calc⟨List.mem_range.mpr a,?_⟩;rw[decide_eq_true_eq];calc rq h a
theorem oI{nt:NT}(h:nt.Ok){w:Nat}(a:w<nt.ws.length):(sM nt 1 (nt.goal w)).idxOf w=nt.place w:=by
 unfold NT.place;rw[rq h a];rfl
theorem vb{l:List Nat}:(l.map λi=>V.int (i:Nat))=(l.map λi=>((i:Nat):Int)).map V.int:=by simp[List.map_map]
theorem L3{r:RS}{n:NT}{w k:Nat}:∀t i,i<n.n t->setC (setC (setC (setC (setC r.ct 0 0 (.l (r.picks.map pairD++[pairD ((w:Int),(k:Int))]))) 6 w (.l (((r.ww w).ky.map wd).set k (wd (some (n.ev r w)))))) 1 (n.goal w) (.l ((r.mm (n.goal w)).di.map mC++[mC ((n.work r w k).ns,(n.work r w k).row)]))) 3 (n.goal w) (.l (((r.mm (n.goal w)).wp.bE []).map .int++(n.work r w k).words.map .int))) 2 (n.goal w) (.l (((r.mm (n.goal w)).wp.map λu=>DV.int (u.length:Nat))++[.int ((((r.mm (n.goal w)).wp.bE []++(n.work r w k).words).length:Nat))])) t i=(r.step n w k).ct t i:=by
 intro t i a;unfold setC
 match t,a with
 |0,a=>
  have:i=0:=by have:i<1:=a;lia
  subst this;simp[RS.ct,RS.step]
 |1,_=>by_cases e:i=n.goal w<;>simp[RS.ct,RS.step,e]
 |2,_=>by_cases e:i=n.goal w<;>simp[RS.ct,RS.step,e]
 |3,_=>by_cases e:i=n.goal w<;>simp[RS.ct,RS.step,e,si]
 |4,_=>by_cases e:i=w<;>simp[RS.ct,RS.step,e]
 |5,_=>by_cases e:i=w<;>simp[RS.ct,RS.step,e]
 |6,_=>by_cases e:i=w<;>simp[RS.ct,RS.step,e,List.map_set]
 |(t+7),a=>calc absurd a (aao i)
theorem Cr{nt:NT}(d:nt.Ok)(h:r.Ok nt){w k:Nat}(f:w<nt.ws.length):∀a c,some (nt.ev r w)=some (a,c)->0<=a/\a<nt.ms.length/\1<=c/\c<=((r.step nt w k).mm a.toNat).hr.length:=by
 have b:=d.i5 f;intro a c e
 cases e;refine⟨by lia,by lia,?_,?_⟩
 ·have:=h.we b;lia
 ·have d:(r.step nt w k).mm (nt.goal w)=⟨(r.mm (nt.goal w)).di++[((nt.work r w k).ns,(nt.work r w k).row)],(r.mm (nt.goal w)).wp++[(r.mm (nt.goal w)).wp.bE []++(nt.work r w k).words],(r.mm (nt.goal w)).hr++[nt.ij r w k]⟩:=if_pos rfl;rw[show((nt.goal w:Nat):Int).toNat=nt.goal w from Int.toNat_natCast _,d,h.lh _ b];simp
theorem pO{outs:List Nat}{ev:Int×Int}:∀(a:List (Int×Int)) {r:RS}{p:Int×Int},r.send outs ev (a++[p])=(r.send outs ev a).send outs ev [p]
 | [],r,p=>rfl
 |q::a,r,p=>pO a
abbrev jo:Stmt:=(ck (top 27)).getD 7 (.Pass ⟨0,0,0,0⟩)
inductive Ir(C CN CR:Addr)(vs:List V)(H:Hp)(Q:VK):Prop
 |mk (F:Addr->Prop) (x bG:Addr) (nt:NT) (r:RS) (ad:Nat->Nat->Addr) (wy k:Nat) (a:V) (h0:vs=[.ref x,.int (wy:Nat),.int (k:Nat),a]) (h1:cV C CN CR F H x bG nt r ad) (h2:FS F H) (h3:r.Ok nt) (h4:r.VJ nt wy k) (h5:r.picks.length<=400) (h6:∀t H',Fr (FP nt.n ad) H H'->cV C CN CR F H' x bG nt (r.pick nt wy k) ad->HT H' 1 t (pairD (nt.ev r wy))->Q t H'):Ir C CN CR vs H Q
def Cs(C CN CR:Addr):Sp:=λvs H Q _=>Ir C CN CR vs H Q
theorem ub(D:gQ K CR "pick_at" "Run.pick_at" jo ["self","way","number","at"])(T:Tx K mg C CN CR F FD)(gE:eV P w K mg base C "worked" 3 ["self","state","way","said"] (uZ K C))(cU:eV P w K mg base CN "machines" 1 ["self"] (kd CN))(df:eV P w K mg base CN "ways" 1 ["self"] (oB CN))(jq:eV P w K mg base CN "ways_in" 4 ["self","m"] (sQ C CN))(iL:eV P w K mg base CN "ways_out" 4 ["self","m"] (qz C CN))(g9:eV P w K mg base CR "need_pick" 5 ["self","way","number","at"] (Nx C CN CR))(cY:eV P w K mg base CR "put_letter" 1 ["self","way","said","sender"] (sS C CN CR))(dE:dR P w K mg base CR "state" 4 ["self","m"] (Cp C CN CR c)):eV P w K mg base CR "pick_at" 6 ["self","way","number","at"] (Cs C CN CR):=by
 have sc:aE ["self","way","number","at","m","place","machine","state","sent","words","event","ways_out","j","said"] ["self","way","number","at"] (ay jo):=by walk_at "s"
 symm
 ·obtain⟨F,x,N,g,r,ad,m,k,a,rfl,I,lS,J,hc,O,q⟩:=h;rfl
 ·nofun;obtain⟨F,x,N,g,r,ad,m,k,a,rfl,I,lS,J,hc,O,q⟩:=h;ac_rfl;have O:=hr.units;refine⟨_,(aj (bV (kq g9 T.aS hr (aq 0) (ag (aq 1) (ag (aq 2) (ag (aq 3) aa)))))
   (aj (bb (i:=4) sc.nd rfl (by grind) (ak O (ak O (iA df T.da hr (bJ (aq 0) rfl)) (aq 1)) ai))
   (aj (bb (i:=5) sc.nd rfl (by grind) (dA nJ PySem.F.slot_list_index PySem.F.type_list_index uQ (kq jq T.da hr (bJ (aq 0) rfl) (ag (aq 4) aa)) (ag (aq 1) aa)))
   (aj (bb (i:=6) sc.nd rfl (by grind) (ak O (iA cU T.da hr (bJ (aq 0) rfl)) (aq 4)))
   (aj (fA (kq gE T.cW hr (aq 6) (ag (fF dE oo T.aS hr (aq 0) (ag (aq 4) aa)) (ag (aq 5) (ag (ak O (ak O (bJ (aq 0) rfl) (aq 1)) (aq 2)) aa)))) (ye (i:=7) (j:=8) (l:=9) rfl sc.nd rfl rfl rfl (by grind) (by grind) (by grind)))
   (aj (bb (i:=10) sc.nd rfl (by grind) (bQ (ag (aq 4) (ag (bc aP rfl T.cp T' (ag (ak O (bJ (aq 0) rfl) (aq 4)) aa)) aa))))
   (aj (bV (dA nJ qm qo bW (bJ (aq 0) rfl) (ag (bQ (ag (aq 1) (ag (aq 2) aa))) aa)))
   (aj (fA (aq 10) (jc (ak O (bJ (aq 0) rfl) (aq 1)) (aq 2) eI))
   (aj (bV (dA nJ qm qo bW (ak O (bJ (aq 0) rfl) (aq 4)) (ag (aq 7) aa)))
   (aj (bV (dA nJ PySem.F.slot_list_extend PySem.F.type_list_extend K7 (ak O (bJ (aq 0) rfl) (aq 4)) (ag (aq 9) aa)))
   (aj (bV (dA nJ qm qo bW (ak O (bJ (aq 0) rfl) (aq 4)) (ag (bc aP rfl T.cp T' (ag (ak O (bJ (aq 0) rfl) (aq 4)) aa)) aa)))
   (aj (bb (i:=11) sc.nd rfl (by grind) (kq iL T.da hr (bJ (aq 0) rfl) (ag (aq 4) aa)))
   (aj (fm PassesOwn.never rfl (cu (pv 8)) (iB (i:=12) (j:=13) rfl sc.nd rfl rfl (by grind) (by grind))
   (ao (aW (aC gU (aq 12) (bc aP rfl T.cp T' (ag (aq 11) aa)) (aG _)) (ao (bV (kq cY T.aS hr (aq 0) (ag (ak O (aq 11) (aq 12)) (ag (aq 13) (ag (aq 10) aa)))))) aJ)))
   (ao (aI (aq 10)))))))))))))))),?_⟩
  nofun;obtain⟨O,o,L,ho⟩:=I.ins;have hn:=I.VI;have U:=hn.ok;have G:=hc.lt;have B:=U.i5 G;obtain⟨⟨ms,Y,lv,hf,O,zr,Ny⟩,_⟩:=id hn;obtain⟨O,a1,b1,c1,g1,g2,g3,g4⟩:=id hf;obtain⟨O,wk2,wk3,wk4⟩:=q8 U J G k;ac_rfl;left;calc dU L (dZ (by decide +kernel)) ?_;calc⟨_,x,N,g,r,ad,m,k,a,rfl,I,J,hc,λH1 O=>?_⟩;left;calc fE (O _ _ L) T.aS T.de sL ?_;left;calc dU (O _ _ g1) (eU (by decide +kernel) (by decide +kernel) (by decide +kernel)) ?_;calc fS N ms Y lv rfl (hf.same O) (λl hl=>?_);have s2:av H (upd H1 l (.lst Y)):=O.trans (av.new _ hl);have el:upd H1 l (.lst Y) l=some (.lst Y):=af;nofun;generalize J1:upd H1 l (.lst Y)=H2 at *;have O:g.ws[m]?=some (g.w m):=bA G;have gs:m<Y.length:=by have:=Ny.1;simp at this;lia
  have AE:=(Ny.2 m Y[m] (lW (g.w m)) (by simp) (by rw[List.getElem?_map,O];rfl)).aL s2.aV;obtain⟨ta,u1,u2,u3,kk,eta,AF,q1,q2,q3⟩:=bY AE;obtain rfl:=q1.bR;obtain rfl:=q2.bR;obtain rfl:=q3.bN;ac_rfl;left;calc bu el (aA (j:=m) (v:=.ref ta) (by rw[<-eta];simp)) ?_;calc eL AF (show ia _ 1=some (.int ((g.goal m:Nat):Int)) from by rw[<-rq U G];calc aA (j:=1) rfl) ?_;left;calc fE (s2 _ _ L) T.aS T.de sL ?_;left;calc dU (s2 _ _ g1) (eU (by decide +kernel) (by decide +kernel) (by decide +kernel)) ?_;calc⟨N,g,g.goal m,rfl,hn.fr (Z:=λ_=>False) s2.fr,B,λl2 H3 Yq fl2 O=>?_⟩;have s3:=s2.trans Yq;calc⟨.inl ⟨rfl,_,aU.of O⟩,?_⟩;obtain⟨ix1,ix2⟩:=sU (Iq U G);refine⟨l2,_,g.place m,m,rfl,rfl,by rw[O,vb],?_,?_,?_⟩
  ·rw[List.getElem?_map,<-oI U G,ix1];rfl
  ·intro i y hi hy;rw[List.getElem?_map]at hy;nofun;obtain⟨z,hz,rfl⟩:=Option.map_eq_some_iff.mp hy;ac_rfl;have:=ix2 i z (by rw[oI U G];calc hi) hz;lia
  left;calc fE (s3 _ _ L) T.aS T.de sL ?_;left;calc dU (s3 _ _ g1) (eU (by decide +kernel) (by decide +kernel) (by decide +kernel)) ?_;calc fS N ms Y lv rfl (hf.same s3) (λl4 y=>?_);have W:av H (upd H3 l4 (.lst (ms.map V.ref))):=s3.trans (av.new _ y);have el4:upd H3 l4 (.lst (ms.map V.ref)) l4=some (.lst (ms.map V.ref)):=af;generalize VN:upd H3 l4 (.lst (ms.map V.ref))=H4 at *;have Ay:g.goal m<ms.length:=by lia
  have y:g.ms[g.goal m]?=some (g.ms.getD (g.goal m) default):=bA B;have Ct:=(zr (g.goal m) ms[g.goal m] _ (cP Ay) y).same W;have Ef:=U.gd B;left;calc bu el4 (aA (j:=g.goal m) (v:=.ref ms[g.goal m]) (by rw[List.getElem?_map,cP Ay];rfl)) ?_;left;nofun;generalize ms[g.goal m]=mch at *;obtain⟨dm,y,O,Y,hm2,hm3⟩:=id Ct;ac_rfl;calc dU Y (B8 (by decide +kernel) (by decide +kernel) (by decide +kernel)) ?_;calc dU (W _ _ L) (dZ (by decide +kernel)) ?_;calc⟨_,x,N,g,r,ad,((g.goal m:Nat):Int),rfl,I.same W,J,λkk y O sv Io=>?_,λno=>absurd ⟨by lia,by lia⟩ no⟩;nofun;obtain rfl:g.goal m=kk:=by lia
  have l4':=W _ _ (ho 4 (by decide) (by decide)).1;obtain⟨y,e4,d4⟩:=(I.cE.same W).lst (t:=4) (i:=m) G rfl;have z4:=d4.mB;subst z4;ac_rfl;have BS:k<(r.ww m).say.length:=by rw[J.lk m G];exact(List.getElem?_eq_some_iff.mp hc.lies).1
  left;calc fE (W _ _ L) T.aS T.cf LY ?_;left;calc bu l4' (aX G) ?_;calc bu e4 (aA (j:=k) (v:=.int ((r.ww m).say.getD k 0)) (by rw[List.getElem?_map,bA (d:=0) BS];rfl)) ?_;have y:=J.last B;calc⟨mch,sv,_,_,_,_,_,_,_,_,rfl,Ct,xW.of Io,Ef.m2,Ef.m12,y.bn,y.lr,Ef.Yl,by rw[y.ln];calc Ef.ok,λO M L4 QZ=>?_⟩;have s5:=W.trans L4;nofun;obtain⟨rp,AI,Sh,Nz,zs,rfl,y,AJ,Q0,lX,AK,fl1,abl,O⟩:=QZ.ex
  replace AJ:HT M 2 AI (wY (g.work r m k).ns (g.work r m k).row):=AJ
  replace lX:SL M zs (g.work r m k).cj:=lX
  replace AK:M Nz=some (.lst ((g.work r m k).words.map V.int)):=AK
  ac_rfl;calc un3 (bI.of y) ?_;left;calc fE (s5 _ _ L) T.aS T.bO AB ?_;have b5:=I.cE.same s5;have i0:0<g.n 0:=by show 0<1;decide
  obtain⟨y,O,d1⟩:=b5.lst (t:=1) (i:=g.goal m) B rfl;have Y:y.length=(r.mm (g.goal m)).di.length:=by simpa using d1.1
  left;calc bu (s5 _ _ (ho 1 (by decide) (by decide)).1) (aX B) ?_;calc ik _ (.inl ⟨_,aU.of O,rfl⟩) du (λev y=>?_);rw[Y];have s6:av H (upd M ev (.tup [.int ((g.goal m:Nat):Int),.int (((r.mm (g.goal m)).di.length:Nat):Int)])):=s5.trans (av.new _ y);have Ys:av M (upd M ev (.tup [.int ((g.goal m:Nat):Int),.int (((r.mm (g.goal m)).di.length:Nat):Int)])):=av.new _ y;have abn:HT (upd M ev (.tup [.int ((g.goal m:Nat):Int),.int (((r.mm (g.goal m)).di.length:Nat):Int)])) 1 (.ref ev) (pairD (g.ev r m)):=eu (n:=0) af (.int _) (.int _);generalize J2:upd M ev (.tup [.int ((g.goal m:Nat):Int),.int (((r.mm (g.goal m)).di.length:Nat):Int)])=H6 at *;have b6:=I.cE.same s6;left;calc fE (s6 _ _ L) T.aS T.dG aba ?_;obtain⟨v0,e0,d0⟩:=b6.lst (t:=0) (i:=0) i0 rfl;have y:v0.length=r.picks.length:=by simpa using d0.1
  left;calc gW (.inl ⟨rfl,_,aU.of e0⟩) du (λtp y=>?_);left;have s7:av H (upd H6 tp (.tup [.int ((m:Nat):Int),.int ((k:Nat):Int)])):=s6.trans (av.new _ y);have tY:av H6 (upd H6 tp (.tup [.int ((m:Nat):Int),.int ((k:Nat):Int)])):=av.new _ y;have abo:HT (upd H6 tp (.tup [.int ((m:Nat):Int),.int ((k:Nat):Int)])) 1 (.ref tp) (pairD ((m:Int),(k:Int))):=eu (n:=0) af (.int _) (.int _);generalize VO:upd H6 tp (.tup [.int ((m:Nat):Int),.int ((k:Nat):Int)])=H7 at *;have b7:=I.cE.same s7;have y:FS F H7:=lS.fr (Z:=λ_=>False) s7.fr (λ_ _ h=>h);have Si:=tY _ _ e0;calc ik v0 Si (small (by lia)) ?_;have b8:=b7.app (t:=0) (i:=0) i0 rfl Si (dM.one ((b7.ht y abo).mono (by decide)));have f8:Fr (FP g.n ad) H (upd H7 (ad 0 0) (.lst (v0++[.ref tp]))):=s7.fr.upd ⟨0,0,i0,rfl⟩ Si trivial;generalize Yt:upd H7 (ad 0 0) (.lst (v0++[.ref tp]))=X at *;have y:=f8.lV L id;have O:=ho 6 (by decide) (by decide);have o1:=ho 1 (by decide) (by decide);have o2:=ho 2 (by decide) (by decide);have o3:=ho 3 (by decide) (by decide);left;calc fE y T.aS T.dH LZ ?_;obtain⟨v6,e6,d6⟩:=b8.lst (t:=6) (i:=m) G rfl;have Y:v6.length=(r.ww m).ky.length:=by simpa using d6.1
  have y:k<v6.length:=by rw[Y,<-J.lk m G];exact BS
  left;calc bu (f8.at O.1 O.2.2) (aX G) ?_;left;calc cL v6 k e6 (Cq y) ?_;have FS8:FS F X:=lS.fr f8 I.cE.sR;have VP:HT X 1 (.ref ev) (pairD (g.ev r m)):=(abn.aL tY.aV).aL (show bS H7 X from by rw[<-Yt];calc(bS.refl _).upd λxs e=>by rw[Si]at e;cases e);have b9:=b8.set (t:=6) (i:=m) G rfl e6 (k:=k) ((b8.ht FS8 VP).mono (by decide));have f9:Fr (FP g.n ad) H (upd X (ad 6 m) (.lst (v6.set k (.ref ev)))):=f8.upd ⟨6,m,G,rfl⟩ e6 trivial;have t89:bS X (upd X (ad 6 m) (.lst (v6.set k (.ref ev)))):=(bS.refl _).upd λxs e=>by rw[e6]at e;cases e
  generalize hG9:upd X (ad 6 m) (.lst (v6.set k (.ref ev)))=H9 at *;have FS9:FS F H9:=lS.fr f9 I.cE.sR;left;calc fE (f9.lV L id) T.aS T.bO AB ?_;obtain⟨VQ,Sj,d19⟩:=b9.lst (t:=1) (i:=g.goal m) B rfl;have y:VQ.length=(r.mm (g.goal m)).di.length:=by simpa using d19.1
  have y:=J.bp _ B;left;calc bu (f9.at o1.1 o1.2.2) (aX B) ?_;calc⟨.inl ⟨rfl,_,aU.of Sj⟩,?_⟩;left;calc ik VQ Sj (small (by lia)) ?_;have t58:bS M X:=λb xs e=>by
   have h7:=tY _ _ (Ys _ _ e);rw[<-Yt,az (λz=>by rw[z,Si]at h7;cases h7)];exact h7
  have y:HT H9 2 AI (wY (g.work r m k).ns (g.work r m k).row):=(AJ.aL t58).aL t89;have b10:=b9.app (t:=1) (i:=g.goal m) B rfl Sj (dM.one (show HD _ 4 AI (mC ((g.work r m k).ns,(g.work r m k).row)) from(b9.ht FS9 y).mono (by decide)));have NA:Fr (FP g.n ad) H (upd H9 (ad 1 (g.goal m)) (.lst (VQ++[AI]))):=f9.upd ⟨1,g.goal m,B,rfl⟩ Sj trivial;have Iu:¬FP g.n ad Sh:=λz=>by
   obtain⟨u,e,_⟩:=(I.cE.same W).fp z;rw[fl1]at e;cases e
  have Q1:¬FP g.n ad Nz:=λz=>by
   obtain⟨u,e,_⟩:=(I.cE.same W).fp z;rw[abl]at e;cases e
  have y:Fr (FP g.n ad) M X:=by
   rw[<-Yt];exact(Ys.trans tY).fr.upd ⟨0,0,i0,rfl⟩ Si trivial
  have f59:Fr (FP g.n ad) M H9:=by
   rw[<-hG9];exact y.upd ⟨6,m,G,rfl⟩ e6 trivial
  have VR:Fr (FP g.n ad) M (upd H9 (ad 1 (g.goal m)) (.lst (VQ++[AI]))):=f59.upd ⟨1,g.goal m,B,rfl⟩ Sj trivial;generalize VS:upd H9 (ad 1 (g.goal m)) (.lst (VQ++[AI]))=zp at *;left;calc fE (NA.lV L id) T.aS T.cA LX ?_;obtain⟨v3,e3,d3⟩:=b10.lst (t:=3) (i:=g.goal m) B rfl;have y:=d3.mB;have O:=J.bw _ B _ (ip (l:=(r.mm (g.goal m)).wp) (d:=[]) (by rw[<-J.lw _ B];calc J.we B));have l:v3.length=((r.mm (g.goal m)).wp.bE []).length:=by rw[y];simp
  left;calc bu (NA.at o3.1 o3.2.2) (aX B) ?_;calc⟨.inl ⟨rfl,_,aU.of e3⟩,?_⟩;left;calc tN v3 _ e3 (VR.at AK Q1) (L' (small (by simp;lia))) ?_;have NB:=b10.app (t:=3) (i:=g.goal m) B rfl e3 (dM.ints (g.work r m k).words);have AL:Fr (FP g.n ad) H (upd zp (ad 3 (g.goal m)) (.lst (v3++(g.work r m k).words.map V.int))):=NA.upd ⟨3,g.goal m,B,rfl⟩ e3 trivial;have abu:Fr (FP g.n ad) M (upd zp (ad 3 (g.goal m)) (.lst (v3++(g.work r m k).words.map V.int))):=VR.upd ⟨3,g.goal m,B,rfl⟩ e3 trivial;have abv:upd zp (ad 3 (g.goal m)) (.lst (v3++(g.work r m k).words.map V.int)) (ad 3 (g.goal m))=some (.lst (v3++(g.work r m k).words.map V.int)):=af;generalize VT:upd zp (ad 3 (g.goal m)) (.lst (v3++(g.work r m k).words.map V.int))=Cu at *;left;calc fE (AL.lV L id) T.aS T.dC VH ?_;obtain⟨v2,e2,d2⟩:=NB.lst (t:=2) (i:=g.goal m) B rfl;have l:v2.length=(r.mm (g.goal m)).wp.length:=by simpa using d2.1
  have l:=J.lw _ B;left;calc bu (AL.at o2.1 o2.2.2) (aX B) ?_;calc⟨.inl ⟨rfl,_,aU.of e2⟩,?_⟩;left;calc fE (AL.lV L id) T.aS T.cA LX ?_;left;calc bu (AL.at o3.1 o3.2.2) (aX B) ?_;calc bH _ (.inl ⟨_,aU.of abv,rfl⟩) ?_;left;calc ik v2 e2 (small (by lia)) ?_;have l:((v3++(g.work r m k).words.map V.int).length)=((r.mm (g.goal m)).wp.bE []++(g.work r m k).words).length:=by simp;lia
  rw[l];have Q2:=NB.app (t:=2) (i:=g.goal m) B rfl e2 (dM.one (.int (((r.mm (g.goal m)).wp.bE []++(g.work r m k).words).length:Nat)));have Kf:Fr (FP g.n ad) H (upd Cu (ad 2 (g.goal m)) (.lst (v2++[.int (((r.mm (g.goal m)).wp.bE []++(g.work r m k).words).length:Nat)]))):=AL.upd ⟨2,g.goal m,B,rfl⟩ e2 trivial;have VU:Fr (FP g.n ad) M (upd Cu (ad 2 (g.goal m)) (.lst (v2++[.int (((r.mm (g.goal m)).wp.bE []++(g.work r m k).words).length:Nat)]))):=abu.upd ⟨2,g.goal m,B,rfl⟩ e2 trivial;generalize VW:upd Cu (ad 2 (g.goal m)) (.lst (v2++[.int (((r.mm (g.goal m)).wp.bE []++(g.work r m k).words).length:Nat)]))=Iv at *;have VX:cV C CN CR F Iv x N g (r.step g m k) ad:=I.own Kf (Q2.congr L3);have VY:SL Iv zs (g.work r m k).cj:=lX.aL VU.aV;have ou:=VU.at Q0 Iu;have VZ:HT Iv 1 (.ref ev) (pairD (g.ev r m)):=by
   have h9:=VP.aL t89;have abx:bS H9 Iv:=λb xs e=>by
    have n1:b≠ad 1 (g.goal m):=λz=>by rw[z,Sj]at e;cases e
    have LH:zp b=some (.tup xs):=by rw[<-VS,az n1];exact e
    have n2:b≠ad 3 (g.goal m):=λz=>by rw[z,e3]at LH;cases LH
    have QH:Cu b=some (.tup xs):=by rw[<-VT,az n2];exact LH
    have n3:b≠ad 2 (g.goal m):=λz=>by rw[z,e2]at QH;cases QH
    rw[<-VW,az n3];exact QH
   exact h9.aL abx
  clear b5 b6 b7 b8 b9 b10 NB Q2 d0 d1 d2 d3 d4 d6 d19;left;calc fE (Kf.lV L id) T.aS T.de sL ?_;left;calc dU (Kf.lV g1 id) (eU (by decide +kernel) (by decide +kernel) (by decide +kernel)) ?_;calc⟨N,g,g.goal m,rfl,hn.fr Kf,B,λlo NC mh flo elo=>?_⟩;have nlo:¬FP g.n ad lo:=λz=>by
   obtain⟨u,e,_⟩:=VX.cE.fp z;rw[flo]at e;cases e
  left;have l:=VX.same mh;have u:=mh _ _ ou;have ND:=VZ.aL mh.aV;have NF:=VY.aL mh.aV;have hzl:zs.length=(g.work r m k).cj.length:=NF.1;have L5:=Kf.trans mh.fr;have Q3:=J.step U G (k:=k);have Q4:∀a c,some (g.ev r m)=some (a,c)->0<=a/\a<g.ms.length/\1<=c/\c<=((r.step g m k).mm a.toNat).hr.length:=Cr U J G;refine⟨_,rfl,.inl ⟨⟨_,aU.of u⟩,ir (K:=K) (xs:=zs) (λi σ H'=>(∃yQ Q5,σ=[some (V.ref x),some (V.int ((m:Nat):Int)),some (V.int ((k:Nat):Int)),some a,some (V.int ((g.goal m:Nat):Int)),some (V.int ((g.place m:Nat):Int)),some (V.ref mch),some AI,some (V.ref Sh),some (V.ref Nz),some (V.ref ev),some (V.ref lo),yQ,Q5])/\Fr (FP g.n ad) NC H'/\cV C CN CR F H' x N g ((r.step g m k).send (g.outs (g.goal m)) (g.ev r m) ((g.work r m k).cj.take i)) ad) ?_ ?_ ?_ ?_⟩⟩
  ·exact⟨⟨_,_,rfl⟩,Fr.refl,l⟩
  ·rintro i σ H' hi ⟨_,R,_⟩;exact aU.of (R.at u Iu)
  ·intro i z σ H' hz j4;nofun;obtain⟨⟨yQ,Q5,rfl⟩,R,EV⟩:=j4;have l:i < zs.length:=(List.getElem?_eq_some_iff.mp hz).1;have l:i < (g.work r m k).cj.length:=by lia
   have u:(g.work r m k).cj[i]?=some (g.work r m k).cj[i]:=cP l;have hp0:=wk4 _ (aaf l);have Q6:=(NF.2 i z _ hz u).aL R.aV;have L6:(r.step g m k).send (g.outs (g.goal m)) (g.ev r m) ((g.work r m k).cj.take (i+1))=((r.step g m k).send (g.outs (g.goal m)) (g.ev r m) ((g.work r m k).cj.take i)).send (g.outs (g.goal m)) (g.ev r m) [(g.work r m k).cj[i]]:=by
    rw[List.take_succ,u];exact pO _
   generalize (g.work r m k).cj[i]=p at *;obtain⟨S,px⟩:=p;obtain⟨tz,u1,u2,kz,rfl,zY,y1,y2⟩:=cD Q6;obtain rfl:=y1.bR;obtain rfl:=y2.bR;ac_rfl;calc zo (bI.of zY) ?_;have u:=R.at elo nlo;left;calc bH _ (.inl ⟨_,aU.of u,rfl⟩) ?_;left;have l:((sM g 0 (g.goal m)).map λi=>V.int ((i:Nat):Int)).length=(g.outs (g.goal m)).length:=by rw[List.length_map];rfl
   rw[l];have y:S.toNat=S.toNat:=rfl;have y:((S.toNat:Nat):Int)=S:=Int.toNat_of_nonneg hp0;by_cases B:S<((g.outs (g.goal m)).length:Nat)
   ·rw[if_pos (by simpa using B)];have l:S.toNat < (g.outs (g.goal m)).length:=by lia
    have G:(g.outs (g.goal m)).getD S.toNat 0<g.ws.length:=by
     have:=getD_mem (d:=0) l;unfold NT.outs at this ⊢;rw[List.mem_filter,List.mem_range]at this;exact this.1
    left;obtain⟨L,M,J,O⟩:=EV.ins;calc dU J (dZ (by decide +kernel)) ?_;refine bu u (show ia _ S=some (.int (((g.outs (g.goal m)).getD S.toNat 0:Nat):Int)) from by
     rw[<-y];calc aA ?_;rw[List.getElem?_map];show Option.map _ (g.outs (g.goal m))[_]?=_;rw[Int.toNat_natCast,bA (d:=0) l];rfl) ?_
    have J:=(RS.tx.send (outs:=g.outs (g.goal m)) (ev:=g.ev r m) ((g.work r m k).cj.take i) Q3 Q4).mono (show _<=19999 by simp;lia);calc⟨F,x,N,g,_,ad,_,px,.ref ev,some (g.ev r m),rfl,EV,lS.fr (L5.trans R) I.cE.sR,G,(ND.aL R.aV).mono (by decide),J,λu L y=>?_⟩;left;calc gW ⟨_,_,rfl,rfl⟩ (R.trans L) ?_;rw[L6];show cV C CN CR F u x N g (if S.toNat<_ then _ else _) ad;rw[if_pos l];exact y
   ·rw[if_neg (by simpa using B)];left;calc gW ⟨_,_,rfl,rfl⟩ R ?_;rw[L6];show cV C CN CR F H' x N g (if S.toNat<_ then _ else _) ad;rw[if_neg (by lia)];exact EV
  ·intro σ H' j5;nofun;obtain⟨⟨yQ,Q5,rfl⟩,R,EV⟩:=j5;ac_rfl;left;rw[hzl,List.take_length]at EV;calc q _ _ (L5.trans R) EV (ND.aL R.aV)
def _root_.DD.RS.EX(r:RS)(w:Nat):List Nat:=(List.range (r.ww w).say.length).filter λk=>((r.ww w).ky.getD k none).isNone
theorem fQ{p:Nat->Bool}{i:Nat}:(List.range (i+1)).filter p=(List.range i).filter p++(if p i=true then[i] else[]):=by
 rw[List.range_succ,List.filter_append];congr 1
 cases h:p i<;>simp[h]
theorem Iw{F:Addr->Prop}{H:Hp}{n:Nat->Nat}{ad:Nat->Nat->Addr}{ct:Nat->Nat->CO}(c:Nat->Hp)(k:∀t b,c t b≠none->c (t+1) b≠none)(r:∀t i,i<n t->c t (ad t i)=none)(w:∀t i,i<n t->c (t+1) (ad t i)≠none)
  (p:∀t i j,i<n t->j<n t->ad t i=ad t j->i=j) (q:∀b,F b->c 0 b≠none) (x:∀t i,i<n t->∃o,H (ad t i)=some o/\OR (jR (λb=>F b\/FP n ad b) H) (ct t i) o):ee F H n ad ct:=by
 have u:∀(d t:Nat) (b:Addr),c t b≠none->c (t+d) b≠none:=by
  intro d;induction d with
  |zero=>calc λt b h=>h
  |succ d c=>exact λt b h=>k _ _ (c t b h)
 have v:∀t i a g,i<n t->g<n a->t<a->ad t i≠ad a g:=by
  intro t i a g h m l e;obtain⟨d,rfl⟩:∃d,a=t+1+d:=⟨a-(t+1),by lia⟩
  exact u d (t+1) _ (w t i h) (e▸r _ g m)
 refine⟨λt i a g h m e=>?_,λt i h z=>?_,x⟩
 ·rcases Nat.lt_trichotomy t a with l | l | l
  ·exact absurd e (v _ _ _ _ h m l)
  ·subst l;exact⟨rfl,p t i g h m e⟩
  ·exact absurd e.symm (v _ _ _ _ m h l)
 ·have:=u t 0 _ (q _ z);rw[Nat.zero_add]at this;calc this (r t i h)
theorem Iy(c:∀b,Z b->∃o,H b=some o/\soft o){m:Nat}{x:V}{d:DV}(g:HT H m x d):HD (jR Z H) m x d:=by
 calc HT.hd (g.aL λb h e=>?_);rw[gV (λz=>by
  obtain⟨o,a,f⟩:=c b z;rw[e] at a;cases a;calc f)]
 calc e
structure tD(H0 H':Hp)(D:Addr)(as:List Addr)(n:Nat)(ct:Nat->Hp->List V->Prop):Prop where
 len:as.length=n
 nd:as.Nodup
 new:∀a∈as,H0 a=none/\a≠D
 ins:∀(j:Nat) a,as[j]?=some a->∃vs,H' a=some (.lst vs)/\ct j H' vs
theorem tD.nil{ct:Nat->Hp->List V->Prop}:tD H0 H' D [] 0 ct:=⟨rfl,List.nodup_nil,λa h=>by simp at h,λj a h=>by simp at h⟩
theorem tD.snoc{n:Nat}{ct:Nat->Hp->List V->Prop}(h:tD H0 H1 D as n ct)(p:av H0 H1)(q:H1 D≠none)(g:H1 a=none){vs:List V}(e:H' a=some (.lst vs))(c:ct n H' vs)(s:∀b o,b≠D->H1 b=some o->H' b=some o)(f:∀j vs,ct j H1 vs->ct j H' vs):tD H0 H' D (as++[a]) (n+1) ct:=by
 refine⟨by simp[h.len],?_,λb d=>?_,λj b d=>?_⟩
 ·rw[List.nodup_append];calc gW h.nd (by simp) (λb d c l=>?_);simp at l;subst l;intro z;subst z;obtain⟨j,k⟩:=List.getElem?_of_mem d;obtain⟨vs,i,_⟩:=h.ins j b k;rw[g]at i;cases i
 ·rcases List.mem_append.mp d with d | d
  ·exact h.new b d
  ·simp at d;subst d;refine⟨?_,λz=>q (z ▸ g)⟩
   cases r:H0 b with
   |none=>rfl
   |some o=>rw[p _ _ r]at g;cases g
 ·by_cases k:j < as.length
  ·rw[List.getElem?_append_left k]at d;obtain⟨vs,i,g⟩:=h.ins j b d;exact⟨vs,s _ _ (h.new b (X' d)).2 i,f _ _ g⟩
  ·rw[List.getElem?_append_right (by lia)] at d
   cases m:j-as.length with
   |zero=>
    rw[m]at d;simp at d;subst d;have:j=n:=by have:=h.len;lia
    subst this;calc⟨vs,e,c⟩
   |succ k=>rw[m]at d;simp at d
theorem tD.keep{n:Nat}{ct:Nat->Hp->List V->Prop}(h:tD H0 H1 D as n ct)(s:∀(b:Addr) (vs:List V),H1 b=some (.lst vs)->H' b=some (.lst vs))(c:∀j vs,ct j H1 vs->ct j H' vs):tD H0 H' D as n ct:=
 ⟨h.len,h.nd,h.new,λj a e=>by
  obtain⟨vs,d,f⟩:=h.ins j a e;calc⟨vs,s _ _ d,c _ _ f⟩⟩
theorem k6{K:W.Frag}{ix:List (Option Nat)}{r:TE}{l:Addr}{xs vs:List V}(t:H l=some (.lst xs))(u:H D=none)(F:xs.length<=10)(w:∀x,Ext (vQ ix σ) ((vQ ix σ).set 0 (some x)))(d:∀g j (R:VK),(∀p,j p=none->R (.ref p) (upd j p (.lst vs)))->r g j R)(q:∀as H1,H1 D=some (.lst (as.map V.ref))->av H H1->tD H H1 D as xs.length (λ_ _ ws=>ws=vs)->Q (.ref D) H1):mr ix (wU K l) (hX 0) iZ r σ H Q D:=by
 refine bz (n:=xs.length) (λi ys H'=>∃as:List Addr,ys=as.map V.ref/\av H H'/\tD H H' D as i (λ_ _ ws=>ws=vs)) (L' (small (by lia))) ⟨[],rfl,av.new _ u,tD.nil⟩ ?_ ?_ ?_ ?_
 ·rintro i ys H' k ⟨_,_,a,_⟩;exact⟨_,xs[i],aU.of (a _ _ t),cP k⟩
 ·rintro ys H' ⟨_,_,a,_⟩;exact⟨_,aU.of (a _ _ t),K' _⟩
 ·intro i ys H' k c v y z G B;obtain⟨as,rfl,a,m⟩:=y;obtain⟨rfl,g⟩:=B;calc⟨w z,?_⟩;simp only[iZ,if_true];calc d _ _ _ λp g=>?_;have d:=av.new (.lst vs) g;have i:p≠D:=Ne.symm (au c g);refine cJ (d _ _ c) v k (L' (small (by lia))) ⟨as++[p],by simp,λb o e=>?_,?_⟩
  ·rw[az (au e u)];exact d _ _ (a _ _ e)
  ·refine m.snoc a (by rw[c];simp) g (vs:=vs) ?_ rfl (λb o a e=>?_) (λj vs e=>e)
   ·rw[az i];exact af
   ·rw[az a];exact d _ _ e
 ·intro ys H1 c v C;obtain⟨as,rfl,a,m⟩:=C;calc q as H1 c a m
abbrev mT:Stmt:=(ck (top 27)).getD 9 (.Pass ⟨0,0,0,0⟩)
inductive Iz(C CN CR:Addr)(vs:List V)(H:Hp)(Q:VK):Prop
 |mk (F:Addr->Prop) (x bG:Addr) (nt:NT) (r:RS) (ad:Nat->Nat->Addr) (wy k:Nat) (h0:vs=[.ref x,.int (wy:Nat),.int (k:Nat)]) (h1:cV C CN CR F H x bG nt r ad) (h2:FS F H) (h3:r.Ok nt) (h4:r.VJ nt wy k) (h5:r.picks.length<=400) (h6:∀t H',Fr (FP nt.n ad) H H'->cV C CN CR F H' x bG nt (r.pick nt wy k) ad->HT H' 1 t (pairD (nt.ev r wy))->Q t H'):Iz C CN CR vs H Q
def IA(C CN CR:Addr):Sp:=λvs H Q _=>Iz C CN CR vs H Q
theorem AN(D:gQ K CR "pick" "Run.pick" mT ["self","way","number"])(T:Tx K mg C CN CR F FD)(l:eV P w K mg base CR "pick_at" 6 ["self","way","number","at"] (Cs C CN CR)):eV P w K mg base CR "pick" 7 ["self","way","number"] (IA C CN CR):=by
 have sc:aE ["self","way","number"] ["self","way","number"] (ay mT):=by walk_at "s"
 symm
 ·obtain⟨F,x,b,c,r,ad,d,k,rfl,a,e,g,i,j,q⟩:=h;rfl
 ·nofun;obtain⟨F,x,b,c,r,ad,d,k,rfl,a,e,g,i,j,q⟩:=h;ac_rfl;have m:=hr.units;calc⟨_,(ao (aI (kq l T.aS hr (aq 0) (ag (aq 1) (ag (aq 2) (ag ai aa)))))),?_⟩;obtain⟨n,o,m,p⟩:=a.ins;left;calc dU m (dZ (by decide +kernel)) ?_;calc⟨F,x,b,c,r,ad,d,k,_,rfl,a,e,g,i,j,q⟩
theorem vd{CR x a:Addr}{C:Hp}{f:List (Str×V)}(c:List (Str×V))(s:av C H)(d:H x=some (.ins CR a f)):∃G,upd H x (.ins CR a c)=G/\G x=some (.ins CR a c)/\(∀b o,b≠x->C b=some o->G b=some o)/\(∀b vs,H b=some (.lst vs)->G b=some (.lst vs))/\bS H G:=⟨_,rfl,af,λb o n e=>by rw[az n];calc s _ _ e,λb vs e=>by rw[az (λz=>by rw[z,d]at e;cases e)];calc e,λb vs e=>by rw[az (λz=>by rw[z,d]at e;cases e)];calc e⟩
theorem gc{C:Hp}(a:List (Key×V))(s:av C H):∃G,upd H d (.dK a)=G/\G d=some (.dK a)/\(∀b o,b≠d->C b=some o->G b=some o)/\(∀b o,b≠d->H b=some o->G b=some o):=⟨_,rfl,af,λb o n e=>by rw[az n];calc s _ _ e,λb o n e=>by rw[az n];calc e⟩
theorem pP:∀(a:List (Int×Int)) {r:RS}{p:Int×Int},r.pf (a++[p])=(r.pf a).put p.1.toNat p.2 none
 | [],r,p=>rfl
 |q::a,r,p=>pP a
theorem AO{nt:NT}(j:nt.Ok):(RS.new nt).tx nt 0:=by
 refine⟨λm e=>rfl,λm e=>rfl,λm e s d=>?_,λm e h f=>?_,λv i=>rfl,λv i=>rfl,λv i a c d=>?_,λm e=>K' _,λm e u b=>?_,λv i=>K' _,λm e u b=>?_⟩
 ·have g:=j.gd e;have d:s ∈ [((nt.ms.getD m default).ns,(nt.ms.getD m default).row)]:=d;simp at d;subst d;exact⟨rfl,g.bn,g.r12⟩
 ·have f:h∈([]:List (List Int)):=f;simp at f
 ·have d:some (a,c)∈([]:List (Option (Int×Int))):=d;simp at d
 ·have b:u∈([[]]:List (List Int)):=b;simp at b;subst b;exact K' _
 ·have b:u∈([[]]:List (List Int)):=b;simp at b;subst b;calc List.nil_prefix
theorem rA{nt:NT}:∀(b:List (Int×Int)) {r:RS}{B:Nat},r.tx nt B->(r.pf b).tx nt (B+b.length)
 | [],r,B,h=>h
 |p::b,r,B,h=>by
  have e:B+(p::b).length=B+1+b.length:=by simp;lia
  rw[e];calc rA b (h.put (λa c z=>by cases z))
theorem sW:∀(a:List (Int×Int)) {r:RS},(r.pf a).picks=r.picks
 | [],r=>rfl
 |p::a,r=>sW a
theorem IB{nt:NT}(a:nt.Ok){ls:List (Int×Int)}(h:ls.length<=20):(RS.begin nt ls).Ok nt/\(RS.begin nt ls).picks=[]:=by
 have e:(RS.begin nt ls).picks=[]:=sW ls;calc⟨(rA ls (AO a)).ok ?_,e⟩;show 0+ls.length<=20+24*(RS.begin nt ls).picks.length;rw[e];simp;lia
abbrev IC:Stmt:=(ck (top 27)).getD 0 (.Pass ⟨0,0,0,0⟩)
inductive ID(C CN CR:Addr)(vs:List V)(H:Hp)(Q:VK):Prop
 |mk (F:Addr->Prop) (x dx bG:Addr) (nt:NT) (ls:List (Int×Int)) (ms:List Addr) (wv lv:List V) (h0:vs=[.ref x,.ref bG]) (h1:H x=some (.ins CR dx [])) (h2:wA C CN H bG nt) (h3:pM CN H bG ms wv lv) (h4:iF H 1 lv (ls.map qK)) (h5:ls.length<=20) (h6:∀l∈ls,0<=l.1/\l.1<nt.ws.length) (lS:FS F H) (h7:∀ad H',(∀b o,b≠x->H b=some o->H' b=some o)->(∀b,FP nt.n ad b->H b=none)->cV C CN CR F H' x bG nt (RS.begin nt ls) ad->Q .bM H'):ID C CN CR vs H Q
def Cw(C CN CR:Addr):Sp:=λvs H Q _=>ID C CN CR vs H Q
theorem V3(D:DB K mg "Run" CR "Run.__init__" IC ["self","net"])(T:Tx K mg C CN CR F FD)(eP:eV P w K mg base C "first_state" 1 ["self"] (HS C))(ju:eV P w K mg base CN "letters" 1 ["self"] (qy CN))(cU:eV P w K mg base CN "machines" 1 ["self"] (kd CN))(df:eV P w K mg base CN "ways" 1 ["self"] (oB CN))(cY:eV P w K mg base CR "put_letter" 1 ["self","way","said","sender"] (sS C CN CR)):xO P w K mg base "Run" CR 2 ["self","net"] (Cw C CN CR):=by
 have sc:aE ["self","net","way","said"] ["self","net"] (ay IC):=by walk_at "s"
 symm
 ·obtain⟨FF,x,N,y,I,ls,ms0,wv0,lv,rfl,Z,hn,hf0,J8,yq,uB,lS,q⟩:=h;rfl
 ·nofun;obtain⟨FF,x,N,y,I,ls,ms0,wv0,lv,rfl,Z,hn,hf0,J8,yq,uB,lS,q⟩:=h;ac_rfl;have hu:=hr.units;refine⟨_,(aj (fW (aq 0) (aq 1) (gL rfl))
   (aj (fW (aq 0) (bF aa) (gL rfl))
   (aj (fW (aq 0) (dO (N':=["machine"]) (ix:=[none]) (cu (iA cU T.da hr (aq 1))) (λ_ _ _ _=>(ba (i:=0) (show(["machine"]:List Str).Nodup by decide +kernel) rfl (by grind))) qx (λ_ _ _ _=>(bF (ag (iA eP T.cW hr (aq 0)) aa)))) rfl)
   (aj (fW (aq 0) (dO (N':=["machine"]) (ix:=[none]) (cu (iA cU T.da hr (aq 1))) (λ_ _ _ _=>(ba (i:=0) (show(["machine"]:List Str).Nodup by decide +kernel) rfl (by grind))) qx (λ_ _ _ _=>(bF (ag ai aa)))) rfl)
   (aj (fW (aq 0) (dO (N':=["machine"]) (ix:=[none]) (cu (iA cU T.da hr (aq 1))) (λ_ _ _ _=>(ba (i:=0) (show(["machine"]:List Str).Nodup by decide +kernel) rfl (by grind))) qx (λ_ _ _ _=>(bF aa))) rfl)
   (aj (fW (aq 0) (dO (N':=["way"]) (ix:=[none]) (cu (iA df T.da hr (aq 1))) (λ_ _ _ _=>(ba (i:=0) (show(["way"]:List Str).Nodup by decide +kernel) rfl (by grind))) qx (λ_ _ _ _=>(bF aa))) rfl)
   (aj (fW (aq 0) (dO (N':=["way"]) (ix:=[none]) (cu (iA df T.da hr (aq 1))) (λ_ _ _ _=>(ba (i:=0) (show(["way"]:List Str).Nodup by decide +kernel) rfl (by grind))) qx (λ_ _ _ _=>(bF aa))) rfl)
   (aj (fW (aq 0) (dO (N':=["way"]) (ix:=[none]) (cu (iA df T.da hr (aq 1))) (λ_ _ _ _=>(ba (i:=0) (show(["way"]:List Str).Nodup by decide +kernel) rfl (by grind))) qx (λ_ _ _ _=>(bF aa))) rfl)
   (ao (fm PassesOwn.never rfl (cu (iA ju T.da hr (aq 1))) (iB (i:=2) (j:=3) rfl sc.nd rfl rfl (by grind) (by grind))
   (ao (bV (kq cY T.aS hr (aq 0) (ag (aq 2) (ag (aq 3) (ag mi aa)))))))))))))))),?_⟩
  have aZ:=hn.ok;nofun;obtain⟨⟨ms,M,W,hf,mJ,zr,Ny⟩,_⟩:=id hn;obtain⟨dn,a1,b1,c1,R,g2,g3,g4⟩:=id hf;obtain⟨dn',a1',b1',c1',g1',g2',g3',g4'⟩:=id hf0;have PU:W=lv:=by
   rw[R]at g1'
   cases g1';rw[g4]at g4'
   cases g4';rfl
  subst PU;ac_rfl;have J5:(ms.map V.ref).length<=5:=by simp[mJ];exact aZ.UQ
  have gs:M.length=I.ws.length:=by simpa using Ny.1
  have wt:M.length<=10:=by rw[gs];exact aZ.Ht
  have X:y≠x:=λz=>by rw[z,Z]at R;cases R
  have NG:a1≠x:=λz=>by rw[z,Z]at g2;cases g2
  have NH:b1≠x:=λz=>by rw[z,Z]at g3;cases g3
  have NI:c1≠x:=λz=>by rw[z,Z]at g4;cases g4
  left;refine qJ x CR N _ rfl Z T.aS T.de (by decide) ?_;have hxa:upd H x (.ins CR N (bt "own_net" (.ref y) [])) x=some (.ins CR N (bt "own_net" (.ref y) [])):=af;have nxa:∀b o,b≠x->H b=some o->upd H x (.ins CR N (bt "own_net" (.ref y) [])) b=some o:=λb o n e=>by rw[az n];exact e
  generalize hGa:upd H x (.ins CR N (bt "own_net" (.ref y) []))=Ga at *;left;refine⟨aal _,λp hp=>?_⟩;have sp0:=av.new (.lst []) hp;have ep0:upd Ga p (.lst []) p=some (.lst []):=af;generalize hGb:upd Ga p (.lst [])=Gb at *;left;refine qJ x CR N _ rfl (sp0 _ _ hxa) T.aS T.dG (bU (n:=999) (by decide)) ?_;have hx0:upd Gb x (.ins CR N (bt "picks_done" (.ref p) (bt "own_net" (.ref y) []))) x=some (.ins CR N (bt "picks_done" (.ref p) (bt "own_net" (.ref y) []))):=af;have ka:∀b o,b≠x->Ga b=some o->upd Gb x (.ins CR N (bt "picks_done" (.ref p) (bt "own_net" (.ref y) []))) b=some o:=λb o n e=>by rw[az n];exact sp0 _ _ e
  have npx:p≠x:=Ne.symm (au hxa hp);have ep:upd Gb x (.ins CR N (bt "picks_done" (.ref p) (bt "own_net" (.ref y) []))) p=some (.lst []):=by rw[az npx];exact ep0
  generalize hG0:upd Gb x (.ins CR N (bt "picks_done" (.ref p) (bt "own_net" (.ref y) [])))=G0 at *;have NJ:∀b o,b≠x->H b=some o->G0 b=some o:=λb o n e=>ka b o n (nxa b o n e);left;refine bT ?_;left;refine dU (NJ _ _ X R) (eU (by decide +kernel) (by decide +kernel) (by decide +kernel)) ?_;refine fS y ms M W rfl ⟨dn,a1,b1,c1,NJ _ _ X R,NJ _ _ NG g2,NJ _ _ NH g3,NJ _ _ NI g4⟩ (λYv abI=>?_);have Q7:=av.new (.lst (ms.map V.ref)) abI;have Eg:upd G0 Yv (.lst (ms.map V.ref)) Yv=some (.lst (ms.map V.ref)):=af;generalize ah0:upd G0 Yv (.lst (ms.map V.ref))=Sk at *;left;refine .inl ⟨⟨_,aU.of Eg⟩,λD1 Ed=>?_⟩;refine bz (J:=wU K Yv) (n:=(ms.map V.ref).length) (λi ys H'=>∃as:List Addr,ys=as.map V.ref/\av Sk H'/\tD Sk H' D1 as i (λj H' vs=>∃v,vs=[v]/\HT H' 2 v (wY (I.ms.getD j default).ns (I.ms.getD j default).row))) (L' (small (by lia))) ⟨[],rfl,av.new _ Ed,tD.nil⟩ ?_ ?_ ?_ ?_
  ·rintro i ys H' a ⟨_,_,G,_⟩;exact⟨_,(ms.map V.ref)[i],aU.of (G _ _ Eg),cP a⟩
  ·rintro ys H' ⟨_,_,G,_⟩;exact⟨_,aU.of (G _ _ Eg),K' _⟩
  ·intro i ys H' a u hl j4 xx H4 j5;nofun;obtain⟨as,rfl,G,hL⟩:=j4;obtain⟨rfl,hy⟩:=j5;ac_rfl;have ex:=hy _ (aU.of (G _ _ Eg));walk_at "xf";left
   try rw[if_pos trivial]
   have him:i<ms.length:=by simpa using a
   have exm:xx=.ref ms[i]:=by
    rw[List.getElem?_map,cP him]at ex
    cases ex;rfl
   nofun;subst exm;have L7:i<I.ms.length:=by lia
   have nmx:ms[i]≠x:=λz=>by
    nofun;obtain⟨d1,s1,d2,w1,_⟩:=zr i ms[i] _ (cP him) (bA (d:=default) L7);ac_rfl;rw[z,Z]at w1;cases w1
   have Sl:R9 C H4 ms[i] (I.ms.getD i default):=by
    nofun;obtain⟨d1,s1,d2,w1,w2,w3⟩:=zr i ms[i] _ (cP him) (bA (d:=default) L7);ac_rfl;have tt:bS H H4:=λb xs e=>G _ _ (Q7 _ _ (NJ b _ (λz=>by rw[z,Z]at e;cases e) e));exact⟨d1,s1,d2,G _ _ (Q7 _ _ (NJ _ _ nmx w1)),w2.aL tt,w3.aL tt⟩
   obtain⟨d1,s1,d2,w1,w2,w3⟩:=id Sl;ac_rfl;calc mth w1 (B8 (by decide +kernel) (by decide +kernel) (by decide +kernel)) ?_;calc⟨ms[i],_,_,_,_,rfl,Sl,λst oN=>?_⟩;left;calc⟨L' (small (by simp)),λp hp=>?_⟩;have sN:=av.new (.lst [st]) hp;have nD:p≠D1:=Ne.symm (au u hp);refine cJ (sN _ _ u) hl a (L' (small (by lia))) ⟨as++[p],by simp,λb o e=>?_,?_⟩
   ·rw[az (au e Ed)];exact sN _ _ (G _ _ e)
   ·refine hL.snoc G (by rw[u];simp) hp (vs:=[st]) ?_ ⟨st,rfl,oN.aL (λb xs e=>by rw[az (λz=>by rw[z,u] at e;cases e)];calc sN _ _ e)⟩ (λb o nb e=>?_) (λj vs ⟨v,e,h⟩=>⟨v,e,h.aL (λb xs e=>by rw[az (λz=>by rw[z,u] at e;cases e)];calc sN _ _ e)⟩)
    ·rw[az nD];exact af
    ·rw[az nb];exact sN _ _ e
  intro ys H1 u hl pD;nofun;obtain⟨A1,rfl,G,Yw⟩:=pD;ac_rfl;have V4:=G _ _ (Q7 _ _ hx0);left;refine qJ x CR N _ rfl V4 T.aS T.bO (bU (n:=999) (bU (n:=998) (by decide))) ?_;nofun;obtain⟨G1,QY,qX,Yx,V5,abK⟩:=vd (bt "states_had" (.ref D1) (bt "picks_done" (.ref p) (bt "own_net" (.ref y) []))) G V4;ac_rfl;rw[QY];have V6:=V5 _ _ u;clear QY;have kg1:∀b o,b≠x->G0 b=some o->G1 b=some o:=λb o n e=>Yx b o n (Q7 _ _ e);have Sn:∀b o,b≠x->H b=some o->G1 b=some o:=λb o n e=>kg1 b o n (NJ b o n e);have V7:Sk D1=none:=Ed;clear u;left;refine bT ?_;left;refine dU (Sn _ _ X R) (eU (by decide +kernel) (by decide +kernel) (by decide +kernel)) ?_;refine fS y ms M W rfl ⟨dn,a1,b1,c1,Sn _ _ X R,Sn _ _ NG g2,Sn _ _ NH g3,Sn _ _ NI g4⟩ (λlm2 G=>?_);have So:=av.new (.lst (ms.map V.ref)) G;have uc:upd G1 lm2 (.lst (ms.map V.ref)) lm2=some (.lst (ms.map V.ref)):=af;generalize ah3:upd G1 lm2 (.lst (ms.map V.ref))=Yy at *;left;refine .inl ⟨⟨_,aU.of uc⟩,λD2 wZ=>?_⟩;refine k6 (vs:=[V.int 0]) uc wZ (by lia) (λ_=>Ext.set (Ext.refl _) rfl) (λ_ _ _ r=>And.intro (by decide) r) ?_;intro A2 H2 u G Yz;have V8:=G _ _ (So _ _ qX);left;refine qJ x CR N _ rfl V8 T.aS T.dC (bU (n:=999) (bU (n:=998) (bU (n:=997) (by decide)))) ?_;nofun;obtain⟨G2,J1,D7,Sr,V9,ah4⟩:=vd (bt "words_had" (.ref D2) (bt "states_had" (.ref D1) (bt "picks_done" (.ref p) (bt "own_net" (.ref y) [])))) G V8;ac_rfl;rw[J1];have Ss:=V9 _ _ u;clear J1;have kg2:∀b o,b≠x->G1 b=some o->G2 b=some o:=λb o n e=>Sr b o n (So _ _ e);have Su:∀b o,b≠x->H b=some o->G2 b=some o:=λb o n e=>kg2 b o n (Sn b o n e);have QJ:Yy D2=none:=wZ;clear u;left;refine bT ?_;left;refine dU (Su _ _ X R) (eU (by decide +kernel) (by decide +kernel) (by decide +kernel)) ?_;refine fS y ms M W rfl ⟨dn,a1,b1,c1,Su _ _ X R,Su _ _ NG g2,Su _ _ NH g3,Su _ _ NI g4⟩ (λlm3 G=>?_);have Sv:=av.new (.lst (ms.map V.ref)) G;have Wa:upd G2 lm3 (.lst (ms.map V.ref)) lm3=some (.lst (ms.map V.ref)):=af;generalize ah5:upd G2 lm3 (.lst (ms.map V.ref))=YA at *;left;refine .inl ⟨⟨_,aU.of Wa⟩,λD3 Eb=>?_⟩;refine k6 (vs:=[]) Wa Eb (by lia) (λ_=>Ext.set (Ext.refl _) rfl) (λ_ _ _ r=>And.intro (by decide) r) ?_;intro A3 H3 u G YB;have Wb:=G _ _ (Sv _ _ D7);left;refine qJ x CR N _ rfl Wb T.aS T.cA (bU (n:=999) (bU (n:=998) (bU (n:=997) (bU (n:=996) (by decide))))) ?_;nofun;obtain⟨G3,QS,Az,Sw,Wc,ah6⟩:=vd (bt "words_said" (.ref D3) (bt "words_had" (.ref D2) (bt "states_had" (.ref D1) (bt "picks_done" (.ref p) (bt "own_net" (.ref y) []))))) G Wb;ac_rfl;rw[QS];have Sx:=Wc _ _ u;clear QS;have kg3:∀b o,b≠x->G2 b=some o->G3 b=some o:=λb o n e=>Sw b o n (Sv _ _ e);have Sy:∀b o,b≠x->H b=some o->G3 b=some o:=λb o n e=>kg3 b o n (Su b o n e);have QK:YA D3=none:=Eb;clear u;left;refine bT ?_;left;refine dU (Sy _ _ X R) (eU (by decide +kernel) (by decide +kernel) (by decide +kernel)) ?_;refine fS y ms M W rfl ⟨dn,a1,b1,c1,Sy _ _ X R,Sy _ _ NG g2,Sy _ _ NH g3,Sy _ _ NI g4⟩ (λlm4 G=>?_);have Sz:=av.new (.lst M) G;have Wd:upd G3 lm4 (.lst M) lm4=some (.lst M):=af;generalize ah7:upd G3 lm4 (.lst M)=YC at *;left;refine .inl ⟨⟨_,aU.of Wd⟩,λD4 SA=>?_⟩;refine k6 (vs:=[]) Wd SA (by lia) (λ_=>Ext.set (Ext.refl _) rfl) (λ_ _ _ r=>And.intro (by decide) r) ?_;intro A4 H4 u G YD;have We:=G _ _ (Sz _ _ Az);left;refine qJ x CR N _ rfl We T.aS T.cf (bU (n:=999) (bU (n:=998) (bU (n:=997) (bU (n:=996) (bU (n:=995) (by decide)))))) ?_;nofun;obtain⟨G4,VN,QT,SD,Wf,ah8⟩:=vd (bt "letters_say" (.ref D4) (bt "words_said" (.ref D3) (bt "words_had" (.ref D2) (bt "states_had" (.ref D1) (bt "picks_done" (.ref p) (bt "own_net" (.ref y) [])))))) G We;ac_rfl;rw[VN];have SE:=Wf _ _ u;clear VN;have kg4:∀b o,b≠x->G3 b=some o->G4 b=some o:=λb o n e=>SD b o n (Sz _ _ e);have SG:∀b o,b≠x->H b=some o->G4 b=some o:=λb o n e=>kg4 b o n (Sy b o n e);have Wg:YC D4=none:=SA;clear u;left;refine bT ?_;left;refine dU (SG _ _ X R) (eU (by decide +kernel) (by decide +kernel) (by decide +kernel)) ?_;refine fS y ms M W rfl ⟨dn,a1,b1,c1,SG _ _ X R,SG _ _ NG g2,SG _ _ NH g3,SG _ _ NI g4⟩ (λlm5 G=>?_);have SH:=av.new (.lst M) G;have Wh:upd G4 lm5 (.lst M) lm5=some (.lst M):=af;generalize ah9:upd G4 lm5 (.lst M)=YE at *;left;refine .inl ⟨⟨_,aU.of Wh⟩,λD5 ym=>?_⟩;refine k6 (vs:=[]) Wh ym (by lia) (λ_=>Ext.set (Ext.refl _) rfl) (λ_ _ _ r=>And.intro (by decide) r) ?_;intro A5 H5 u G YF;have Wi:=G _ _ (SH _ _ QT);left;refine qJ x CR N _ rfl Wi T.aS T.fH (bU (n:=999) (bU (n:=998) (bU (n:=997) (bU (n:=996) (bU (n:=995) (bU (n:=994) (by decide))))))) ?_;nofun;obtain⟨G5,QU,sG,SI,Wj,aia⟩:=vd (bt "senders" (.ref D5) (bt "letters_say" (.ref D4) (bt "words_said" (.ref D3) (bt "words_had" (.ref D2) (bt "states_had" (.ref D1) (bt "picks_done" (.ref p) (bt "own_net" (.ref y) []))))))) G Wi;ac_rfl;rw[QU];have SJ:=Wj _ _ u;clear QU;have kg5:∀b o,b≠x->G4 b=some o->G5 b=some o:=λb o n e=>SI b o n (SH _ _ e);have SK:∀b o,b≠x->H b=some o->G5 b=some o:=λb o n e=>kg5 b o n (SG b o n e);have Wk:YE D5=none:=ym;clear u;left;refine bT ?_;left;refine dU (SK _ _ X R) (eU (by decide +kernel) (by decide +kernel) (by decide +kernel)) ?_;refine fS y ms M W rfl ⟨dn,a1,b1,c1,SK _ _ X R,SK _ _ NG g2,SK _ _ NH g3,SK _ _ NI g4⟩ (λlm6 G=>?_);have SM:=av.new (.lst M) G;have Wl:upd G5 lm6 (.lst M) lm6=some (.lst M):=af;generalize aib:upd G5 lm6 (.lst M)=YG at *;left;refine .inl ⟨⟨_,aU.of Wl⟩,λD6 Wm=>?_⟩;refine k6 (vs:=[]) Wl Wm (by lia) (λ_=>Ext.set (Ext.refl _) rfl) (λ_ _ _ r=>And.intro (by decide) r) ?_;intro A6 H6 u G YH;have Wn:=G _ _ (SM _ _ sG);left;refine qJ x CR N _ rfl Wn T.aS T.dH (bU (n:=999) (bU (n:=998) (bU (n:=997) (bU (n:=996) (bU (n:=995) (bU (n:=994) (bU (n:=993) (by decide)))))))) ?_;nofun;obtain⟨S,T,Ik,Rb,Wo,aic⟩:=vd (bt "workers" (.ref D6) (bt "senders" (.ref D5) (bt "letters_say" (.ref D4) (bt "words_said" (.ref D3) (bt "words_had" (.ref D2) (bt "states_had" (.ref D1) (bt "picks_done" (.ref p) (bt "own_net" (.ref y) [])))))))) G Wn;ac_rfl;rw[T];have SN:=Wo _ _ u;clear T;have kg6:∀b o,b≠x->G5 b=some o->S b=some o:=λb o n e=>Rb b o n (SM _ _ e);have U:∀b o,b≠x->H b=some o->S b=some o:=λb o n e=>kg6 b o n (SK b o n e);have Wq:YG D6=none:=Wm;clear u;have c:∀(G T:Hp),(∀b o,b≠x->G b=some o->T b=some o)->(∃fs,G x=some (.ins CR N fs))->(∀b vs,G b=some (.lst vs)->T b=some (.lst vs))/\bS G T:=λG T h ⟨fs,e⟩=>⟨λb vs e'=>h b _ (λz=>by rw[z,e]at e';cases e') e',λb vs e'=>h b _ (λz=>by rw[z,e]at e';cases e') e'⟩
  have L8:=kg6;have NM:∀b o,b≠x->G4 b=some o->S b=some o:=λb o n e=>L8 b o n (kg5 b o n e);have NN:∀b o,b≠x->G3 b=some o->S b=some o:=λb o n e=>NM b o n (kg4 b o n e);have Rc:∀b o,b≠x->G2 b=some o->S b=some o:=λb o n e=>NN b o n (kg3 b o n e);have Wr:∀b o,b≠x->G1 b=some o->S b=some o:=λb o n e=>Rc b o n (kg2 b o n e);have kc0:∀b o,b≠x->G0 b=some o->S b=some o:=λb o n e=>Wr b o n (kg1 b o n e);have Rf:tD Sk G1 D1 A1 (ms.map V.ref).length (λj H' vs=>∃v,vs=[v]/\HT H' 2 v (wY (I.ms.getD j default).ns (I.ms.getD j default).row)):=Yw.keep V5 (λj vs ⟨v,e,h⟩=>⟨v,e,h.aL abK⟩);have wB:=Rf.keep (c _ _ Wr ⟨_,qX⟩).1 (λj vs ⟨v,e,h⟩=>⟨v,e,h.aL (c _ _ Wr ⟨_,qX⟩).2⟩);have NO:=(c _ _ Wr ⟨_,qX⟩).1 _ _ V6;have Rg:tD Yy G2 D2 A2 (ms.map V.ref).length (λ_ _ vs=>vs=[V.int 0]):=Yz.keep V9 (λj vs e=>e);have wC:=Rg.keep (c _ _ Rc ⟨_,D7⟩).1 (λj vs e=>e);have NP:=(c _ _ Rc ⟨_,D7⟩).1 _ _ Ss;have Rh:tD YA G3 D3 A3 (ms.map V.ref).length (λ_ _ vs=>vs=[]):=YB.keep Wc (λj vs e=>e);have wD:=Rh.keep (c _ _ NN ⟨_,Az⟩).1 (λj vs e=>e);have NQ:=(c _ _ NN ⟨_,Az⟩).1 _ _ Sx;have Ri:tD YC G4 D4 A4 M.length (λ_ _ vs=>vs=[]):=YD.keep Wf (λj vs e=>e);have wF:=Ri.keep (c _ _ NM ⟨_,QT⟩).1 (λj vs e=>e);have NR:=(c _ _ NM ⟨_,QT⟩).1 _ _ SE;have Rj:tD YE G5 D5 A5 M.length (λ_ _ vs=>vs=[]):=YF.keep Wj (λj vs e=>e);have pQ:=Rj.keep (c _ _ L8 ⟨_,sG⟩).1 (λj vs e=>e);have ve:=(c _ _ L8 ⟨_,sG⟩).1 _ _ SJ;have ud:tD YG S D6 A6 M.length (λ_ _ vs=>vs=[]):=YH.keep Wo (λj vs e=>e);have Rk:=(c _ _ kc0 ⟨_,hx0⟩).1 _ _ ep;have Eh:(ms.map V.ref).length=I.ms.length:=by simp[mJ]
  rw[Eh]at wB;rw[Eh]at wC;rw[Eh]at wD;rw[gs]at wF;rw[gs]at pQ;rw[gs]at ud;have u:∃ad:Nat->Nat->Addr,ad 0=(λ_=>p)/\(∀i,ad 1 i=A1.getD i 0)/\(∀i,ad 2 i=A2.getD i 0)/\(∀i,ad 3 i=A3.getD i 0)/\(∀i,ad 4 i=A4.getD i 0)/\(∀i,ad 5 i=A5.getD i 0)/\(∀i,ad 6 i=A6.getD i 0):=
   ⟨λt i=>match t with
    |0=>p
    |1=>A1.getD i 0
    |2=>A2.getD i 0
    |3=>A3.getD i 0
    |4=>A4.getD i 0
    |5=>A5.getD i 0
    | _=>A6.getD i 0,rfl,λ_=>rfl,λ_=>rfl,λ_=>rfl,λ_=>rfl,λ_=>rfl,λ_=>rfl⟩
  nofun;obtain⟨ad,NS,fU,gN,yS,yT,yU,yV⟩:=u;have Ei:∀i,ad 0 i=p:=λi=>by rw[NS]
  have u:∃L:Nat->Hp,L 0=Ga/\L 1=Sk/\L 2=Yy/\L 3=YA/\L 4=YC/\L 5=YE/\L 6=YG/\∀t,L (t+7)=S:=
   ⟨λt=>match t with
    |0=>Ga
    |1=>Sk
    |2=>Yy
    |3=>YA
    |4=>YC
    |5=>YE
    |6=>YG
    | _=>S,rfl,rfl,rfl,rfl,rfl,rfl,rfl,λ_=>rfl⟩
  obtain⟨L,q0,q1,q2,q3,q4,q5,q6,q7⟩:=u;have pz:∀(A B:Hp),(∀b o,b≠x->A b=some o->B b=some o)->(∃o,B x=some o)->∀b,A b≠none->B b≠none:=λA B h ⟨o,e⟩ b hb=>by
   by_cases z:b=x
   ·rw[z,e];simp
   ·cases g:A b with
    |none=>calc absurd g hb
    |some u=>rw[h b u z g];simp
  have k:∀{A:List Addr} {H0 H':Hp} {D:Addr} {n:Nat} {ct:Nat->Hp->List V->Prop},tD H0 H' D A n ct->∀i,i<n->A[i]?=some (A.getD i 0)/\H0 (A.getD i 0)=none/\∃vs,H' (A.getD i 0)=some (.lst vs)/\ct i H' vs:=λ{A H0 H' D n ct} h i a=>by
   have e:=bA (l:=A) (i:=i) (d:=0) (by rw[h.len];calc a);exact⟨e,(h.new _ (X' e)).1,h.ins i _ e⟩
  have pR:∀{A:List Addr} {H0 H':Hp} {D:Addr} {n:Nat} {ct:Nat->Hp->List V->Prop},tD H0 H' D A n ct->∀i j,i<n->j<n->A.getD i 0=A.getD j 0->i=j:=λ{A H0 H' D n ct} h i j a O e=>by
   have g:=(k h i a).1;have e2:=(k h j O).1;rw[e]at g;exact(List.getElem?_inj (by rw[h.len];calc a) h.nd).mp (g.trans e2.symm)
  have fp:∀b,FP I.n ad b->b≠x/\(∃vs,S b=some (.lst vs))/\∃t,t<=6/\L t b=none:=by
   intro b tP;nofun;obtain⟨t,i,a,rfl⟩:=tP;ac_rfl
   match t,a with
   |0,a=>calc⟨by rw[Ei];calc npx,⟨_,by rw[Ei];calc Rk⟩,0,by decide,by rw[q0,Ei];calc hp⟩
   |1,a=>
    nofun;obtain⟨_,e0,vs,g,_⟩:=k wB i a;ac_rfl;rw[fU];calc⟨λz=>(by rw[z,Ik]at g;cases g),⟨vs,g⟩,1,by decide,by rw[q1];calc e0⟩
   |2,a=>
    nofun;obtain⟨_,e0,vs,g,_⟩:=k wC i a;ac_rfl;rw[gN];calc⟨λz=>(by rw[z,Ik]at g;cases g),⟨vs,g⟩,2,by decide,by rw[q2];calc e0⟩
   |3,a=>
    nofun;obtain⟨_,e0,vs,g,_⟩:=k wD i a;ac_rfl;rw[yS];calc⟨λz=>(by rw[z,Ik]at g;cases g),⟨vs,g⟩,3,by decide,by rw[q3];calc e0⟩
   |4,a=>
    nofun;obtain⟨_,e0,vs,g,_⟩:=k wF i a;ac_rfl;rw[yT];calc⟨λz=>(by rw[z,Ik]at g;cases g),⟨vs,g⟩,4,by decide,by rw[q4];calc e0⟩
   |5,a=>
    nofun;obtain⟨_,e0,vs,g,_⟩:=k pQ i a;ac_rfl;rw[yU];calc⟨λz=>(by rw[z,Ik]at g;cases g),⟨vs,g⟩,5,by decide,by rw[q5];calc e0⟩
   |6,a=>
    nofun;obtain⟨_,e0,vs,g,_⟩:=k ud i a;ac_rfl;rw[yV];calc⟨λz=>(by rw[z,Ik]at g;cases g),⟨vs,g⟩,6,by decide,by rw[q6];calc e0⟩
   |(t+7),a=>exact absurd a (aao i)
  have mono:∀t b,L t b≠none->L (t+1) b≠none:=by
   intro t
   match t with
   |0=>rw[q0,q1];calc pz _ _ (λb o n e=>Q7 _ _ (ka b o n e)) ⟨_,Q7 _ _ hx0⟩
   |1=>rw[q1,q2];calc pz _ _ (λb o n e=>So _ _ (Yx b o n e)) ⟨_,So _ _ qX⟩
   |2=>rw[q2,q3];calc pz _ _ (λb o n e=>Sv _ _ (Sr b o n e)) ⟨_,Sv _ _ D7⟩
   |3=>rw[q3,q4];calc pz _ _ (λb o n e=>Sz _ _ (Sw b o n e)) ⟨_,Sz _ _ Az⟩
   |4=>rw[q4,q5];calc pz _ _ (λb o n e=>SH _ _ (SD b o n e)) ⟨_,SH _ _ QT⟩
   |5=>rw[q5,q6];calc pz _ _ (λb o n e=>SM _ _ (SI b o n e)) ⟨_,SM _ _ sG⟩
   |6=>rw[q6,q7 0];calc pz _ _ Rb ⟨_,Ik⟩
   |(t+7)=>rw[q7,show t+7+1=(t+1)+7 by lia,q7];exact λb h=>h
  have u:∀t,t<=6->∀b,L t b≠none->S b≠none:=by
   intro t ht b h;have up:∀(d t:Nat) (b:Addr),L t b≠none->L (t+d) b≠none:=by
    intro d;induction d with
    |zero=>calc λt b h=>h
    |succ d ih=>exact λt b h=>mono _ _ (ih t b h)
   have:=up (7-t) t b h;rw[show t+(7-t)=0+7 by lia,q7]at this;exact this
  have Y:∀b,FP I.n ad b->H b=none:=by
   intro b hb;nofun;obtain⟨nb,_,t,ht,e⟩:=fp b hb;ac_rfl
   cases e0:H b with
   |none=>rfl
   |some o=>
    exfalso;have a0:L 0 b≠none:=by rw[q0,nxa b o nb e0];simp
    have up:∀(d t:Nat) (b:Addr),L t b≠none->L (t+d) b≠none:=by
     intro d;induction d with
     |zero=>calc λt b h=>h
     |succ d ih=>exact λt b h=>mono _ _ (ih t b h)
    have:=up t 0 b a0;rw[Nat.zero_add]at this;exact this e
  have nFx:∀b,FF b->b≠x:=λb h z=>by
   obtain⟨o,e,so⟩:=lS b h;rw[z,Z]at e;cases e;exact so
  have hz:∀b,(FF b\/FP I.n ad b)->∃o,S b=some o/\soft o:=by
   rintro b (h|h)
   ·obtain⟨o,e,so⟩:=lS b h;exact⟨o,U b o (nFx b h) e,so⟩
   ·obtain⟨_,⟨vs,e⟩,_⟩:=fp b h;exact⟨_,e,trivial⟩
  have F0:∀t i,i<I.n t->L t (ad t i)=none:=by
    intro t i a
    match t,a with
    |0,a=>rw[q0,Ei];calc hp
    |1,a=>rw[q1,fU];calc(k wB i a).2.1
    |2,a=>rw[q2,gN];calc(k wC i a).2.1
    |3,a=>rw[q3,yS];calc(k wD i a).2.1
    |4,a=>rw[q4,yT];calc(k wF i a).2.1
    |5,a=>rw[q5,yU];calc(k pQ i a).2.1
    |6,a=>rw[q6,yV];calc(k ud i a).2.1
    |(t+7),a=>exact absurd a (aao i)
  have F1:∀t i,i<I.n t->L (t+1) (ad t i)≠none:=by
    intro t i a
    match t,a with
    |0,a=>rw[q1,Ei,Q7 _ _ ep];simp
    |1,a=>
     rw[q2,fU];nofun;obtain⟨_,_,vs,e,_⟩:=k Rf i (by rw[Eh];calc a);ac_rfl;rw[So _ _ e];simp
    |2,a=>
     rw[q3,gN];nofun;obtain⟨_,_,vs,e,_⟩:=k Rg i (by rw[Eh];calc a);ac_rfl;rw[Sv _ _ e];simp
    |3,a=>
     rw[q4,yS];nofun;obtain⟨_,_,vs,e,_⟩:=k Rh i (by rw[Eh];calc a);ac_rfl;rw[Sz _ _ e];simp
    |4,a=>
     rw[q5,yT];nofun;obtain⟨_,_,vs,e,_⟩:=k Ri i (by rw[gs];calc a);ac_rfl;rw[SH _ _ e];simp
    |5,a=>
     rw[q6,yU];nofun;obtain⟨_,_,vs,e,_⟩:=k Rj i (by rw[gs];calc a);ac_rfl;rw[SM _ _ e];simp
    |6,a=>
     rw[q7 0,yV];nofun;obtain⟨_,_,vs,e,_⟩:=k ud i a;ac_rfl;rw[e];simp
    |(t+7),a=>exact absurd a (aao i)
  have F00:∀b,FF b->L 0 b≠none:=λb h=>by
   obtain⟨o,e,_⟩:=lS b h;rw[q0,nxa b o (nFx b h) e];simp
  have cE:ee FF S I.n ad (RS.new I).ct:=by
   refine Iw L mono F0 F1 ?_ F00 ?_
   ·intro t i j a O e
    match t,a,O with
    |0,a,O=>
     have h1:i<1:=a;have h2:j<1:=O;lia
    |1,a,O=>rw[fU,fU]at e;calc pR wB i j a O e
    |2,a,O=>rw[gN,gN]at e;calc pR wC i j a O e
    |3,a,O=>rw[yS,yS]at e;calc pR wD i j a O e
    |4,a,O=>rw[yT,yT]at e;calc pR wF i j a O e
    |5,a,O=>rw[yU,yU]at e;calc pR pQ i j a O e
    |6,a,O=>rw[yV,yV]at e;calc pR ud i j a O e
    |(t+7),a,_=>exact absurd a (aao i)
   ·intro t i a
    match t,a with
    |0,a=>calc⟨.lst [],by rw[Ei];calc Rk,(dM.nil:dM _ 4 [] [])⟩
    |1,a=>
     nofun;obtain⟨_,_,vs,e,v,rfl,u⟩:=k wB i a;ac_rfl;calc⟨.lst [v],by rw[fU];calc e,(dM.one ((Iy hz u).mono (by decide)):dM _ 4 [v] [_])⟩
    |2,a=>
     nofun;obtain⟨_,_,vs,e,rfl⟩:=k wC i a;ac_rfl;calc⟨.lst [.int 0],by rw[gN];calc e,(dM.one (.int 0):dM _ 4 [.int 0] [.int 0])⟩
    |3,a=>
     nofun;obtain⟨_,_,vs,e,rfl⟩:=k wD i a;ac_rfl;calc⟨.lst [],by rw[yS];calc e,(dM.nil:dM _ 4 [] [])⟩
    |4,a=>
     nofun;obtain⟨_,_,vs,e,rfl⟩:=k wF i a;ac_rfl;calc⟨.lst [],by rw[yT];calc e,(dM.nil:dM _ 4 [] [])⟩
    |5,a=>
     nofun;obtain⟨_,_,vs,e,rfl⟩:=k pQ i a;ac_rfl;calc⟨.lst [],by rw[yU];calc e,(dM.nil:dM _ 4 [] [])⟩
    |6,a=>
     nofun;obtain⟨_,_,vs,e,rfl⟩:=k ud i a;ac_rfl;calc⟨.lst [],by rw[yV];calc e,(dM.nil:dM _ 4 [] [])⟩
    |(t+7),a=>exact absurd a (aao i)
  have u:∃o:Nat->Addr,o 1=D1/\o 2=D2/\o 3=D3/\o 4=D4/\o 5=D5/\o 6=D6:=
   ⟨λt=>match t with
    |1=>D1
    |2=>D2
    |3=>D3
    |4=>D4
    |5=>D5
    | _=>D6,rfl,rfl,rfl,rfl,rfl,rfl⟩
  obtain⟨o,o1,o2,o3,o4,o5,o6⟩:=u;ac_rfl;have rf:∀{A:List Addr} {n:Nat} {H0 H':Hp} {D:Addr} {ct:Nat->Hp->List V->Prop} (t:Nat),tD H0 H' D A n ct->I.n t=n->(∀i,ad t i=A.getD i 0)->A.map V.ref=iH I.n ad t:=λ{A n H0 H' D ct} t h g e2=>by
   unfold iH;rw[g];apply List.ext_getElem (by simp[h.len]);intro j h1 h2;have O:j<A.length:=by simpa using h1
   simp only[List.getElem_map,List.getElem_range,e2];congr 1;exact(getD_at (cP O)).symm
  have up:∀(d t:Nat) (b:Addr),L t b≠none->L (t+d) b≠none:=by
   intro d;induction d with
   |zero=>calc λt b h=>h
   |succ d ih=>exact λt b h=>mono _ _ (ih t b h)
  have L9:∀(t:Nat) (D:Addr),L t D=none->L (t+1) D≠none->(∀i,i<I.n t->ad t i≠D)->¬FP I.n ad D:=by
   intro t D h0 h1 qG tR;nofun;obtain⟨t',i,a,rfl⟩:=tR;ac_rfl;rcases Nat.lt_trichotomy t t' with l|l|l
   ·obtain⟨d,rfl⟩:∃d,t'=t + 1 + d:=⟨t' - (t + 1),by lia⟩
    exact up d _ _ h1 (F0 _ i a)
   ·subst l;exact qG i a rfl
   ·obtain⟨d,rfl⟩:∃d,t=t' + 1 + d:=⟨t - (t' + 1),by lia⟩
    exact up d _ _ (F1 _ i a) h0
  have j:∀t D,L t D=none->¬FF D:=λt D h z=>by
   have:=up t 0 D (F00 D z);rw[Nat.zero_add]at this;exact this h
  have hR:cV C CN CR FF S x y I (RS.new I) ad:=by
   refine⟨⟨N,o,?_,?_⟩,cE,?_⟩
   ·rw[Ik,NS,EU,o1,o2,o3,o4,o5,o6];congr 2
   ·intro t u l
    match t,u,l with
    |1,_,_=>calc⟨by rw[o1,NO,rf 1 wB rfl fU],by rw[o1];calc j 1 _ (by rw[q1];calc V7),by rw[o1];calc L9 1 _ (by rw[q1];calc V7) (by rw[q2,So _ _ V6];simp) (λi a z=>(wB.new _ (X' (k wB i a).1)).2 (by rw[<-fU];calc z))⟩
    |2,_,_=>calc⟨by rw[o2,NP,rf 2 wC rfl gN],by rw[o2];calc j 2 _ (by rw[q2];calc QJ),by rw[o2];calc L9 2 _ (by rw[q2];calc QJ) (by rw[q3,Sv _ _ Ss];simp) (λi a z=>(wC.new _ (X' (k wC i a).1)).2 (by rw[<-gN];calc z))⟩
    |3,_,_=>calc⟨by rw[o3,NQ,rf 3 wD rfl yS],by rw[o3];calc j 3 _ (by rw[q3];calc QK),by rw[o3];calc L9 3 _ (by rw[q3];calc QK) (by rw[q4,Sz _ _ Sx];simp) (λi a z=>(wD.new _ (X' (k wD i a).1)).2 (by rw[<-yS];calc z))⟩
    |4,_,_=>calc⟨by rw[o4,NR,rf 4 wF rfl yT],by rw[o4];calc j 4 _ (by rw[q4];calc Wg),by rw[o4];calc L9 4 _ (by rw[q4];calc Wg) (by rw[q5,SH _ _ SE];simp) (λi a z=>(wF.new _ (X' (k wF i a).1)).2 (by rw[<-yT];calc z))⟩
    |5,_,_=>calc⟨by rw[o5,ve,rf 5 pQ rfl yU],by rw[o5];calc j 5 _ (by rw[q5];calc Wk),by rw[o5];calc L9 5 _ (by rw[q5];calc Wk) (by rw[q6,SM _ _ SJ];simp) (λi a z=>(pQ.new _ (X' (k pQ i a).1)).2 (by rw[<-yU];calc z))⟩
    |6,_,_=>calc⟨by rw[o6,SN,rf 6 ud rfl yV],by rw[o6];calc j 6 _ (by rw[q6];calc Wq),by rw[o6];calc L9 6 _ (by rw[q6];calc Wq) (by rw[q7 0,SN];simp) (λi a z=>(ud.new _ (X' (k ud i a).1)).2 (by rw[<-yV];calc z))⟩
    |(t+7),_,h=>exact absurd h (by lia)
   ·calc⟨⟨ms,M,W,⟨dn,a1,b1,c1,U _ _ X R,U _ _ NG g2,U _ _ NH g3,U _ _ NI g4⟩,mJ,λi m d g e2=>?_,Ny.aL (c _ _ U ⟨_,Z⟩).2⟩,aZ⟩;nofun;obtain⟨d1,s1,d2,w1,w2,w3⟩:=zr i m d g e2;ac_rfl;have nm:m≠x:=λz=>by rw[z,Z] at w1;cases w1
    exact⟨d1,s1,d2,U _ _ nm w1,w2.aL (c _ _ U ⟨_,Z⟩).2,w3.aL (c _ _ U ⟨_,Z⟩).2⟩
  have abZ:=J8.aL (c _ _ U ⟨_,Z⟩).2;clear Rf wB Rg wC Rh wD Ri wF Rj pQ ud NO NP NQ NR ve V6 Yw Ss Yz Sx YB SE YD SJ YF SN YH Rk kc0 Wr Rc NN NM L8;left;calc⟨y,dn,_,rfl,U _ _ X R,eU (by decide +kernel) (by decide +kernel) (by decide +kernel),y,ms,M,W,rfl,⟨dn,a1,b1,c1,U _ _ X R,U _ _ NG g2,U _ _ NH g3,U _ _ NI g4⟩,λll yy=>?_⟩;have s7:=av.new (.lst W) yy;have ell:upd S ll (.lst W) ll=some (.lst W):=af;generalize VO:upd S ll (.lst W)=G7 at *;have nll:¬FP I.n ad ll:=λz=>by
   obtain⟨_,⟨vs,e⟩,_⟩:=fp ll z;rw[yy]at e;cases e
  have c:=hR.same s7;have Ws:=abZ.aL s7.aV;have Wt:W.length=ls.length:=by simpa using Ws.1
  refine .inl ⟨⟨_,aU.of ell⟩,ir (K:=K) (xs:=W) (λi σ H'=>(∃z2 z3,σ=[some (V.ref x),some (V.ref y),z2,z3])/\Fr (FP I.n ad) G7 H'/\cV C CN CR FF H' x y I ((RS.new I).pf (ls.take i)) ad) ?_ ?_ ?_ ?_⟩
  ·exact⟨⟨_,_,rfl⟩,Fr.refl,c⟩
  ·rintro i σ H' a ⟨_,fi,_⟩;exact aU.of (fi.at ell nll)
  ·intro i z σ H' hz wk;nofun;obtain⟨⟨z2,z3,rfl⟩,fi,EV⟩:=wk;have a:i < ls.length:=by rw[<-Wt];exact(List.getElem?_eq_some_iff.mp hz).1
   have c:ls[i]?=some ls[i]:=cP a;have Q6:=(Ws.2 i z (qK ls[i]) hz (by rw[List.getElem?_map,c];rfl)).aL fi.aV;have IE:=uB _ (aaf a);have L6:(RS.new I).pf (ls.take (i+1))=((RS.new I).pf (ls.take i)).put ls[i].1.toNat ls[i].2 none:=by
    rw[List.take_succ,c];exact pP _
   generalize ls[i]=p at *;obtain⟨pj,px⟩:=p;obtain⟨tz,u1,u2,kz,rfl,zY,y1,y2⟩:=cD Q6;obtain rfl:=y1.bR;obtain rfl:=y2.bR;ac_rfl;calc zo (bI.of zY) ?_;left;obtain⟨c,g,a,j⟩:=EV.ins;calc dU a (dZ (by decide +kernel)) ?_;have c:((pj.toNat:Nat):Int)=pj:=Int.toNat_of_nonneg IE.1;refine⟨FF,x,y,I,_,ad,pj.toNat,px,.bM,none,by rw[c],EV,λb h=>by
    obtain⟨o,e,so⟩:=lS b h;calc⟨o,fi.at (s7 _ _ (U b o (nFx b h) e)) (λz=>by rw[Y b z] at e;cases e),so⟩,by have:=IE.2;show pj.toNat < _;simp at this;lia,.bM,(rA (ls.take i) (AO aZ)).mono (by simp;lia),λc g a=>?_⟩
   left;calc gW ⟨_,_,rfl,rfl⟩ (fi.trans g) ?_;rw[L6];exact a
  ·rintro σ H' ⟨_,fi,EV⟩;rw[Wt,List.take_length]at EV;calc q ad _ (λb o n e=>?_) Y EV;calc fi.at (s7 _ _ (U b o n e)) λz=>?_;rw[Y b z]at e;cases e
def hJ(H:Hp)(x:V)(M:Int)(ns row:List Int)(d:List bD):Prop:=∃t a b c xs,x=.ref t/\H t=some (.tup [.int M,.ref a,.ref b,.ref c])/\H a=some (.lst (ns.map V.int))/\H b=some (.lst (row.map V.int))/\H c=some (.lst xs)/\iF H 2 xs (d.map bD.dv)
theorem hJ.cv{x:V}{M:Int}{a:List bD}(s:Cv H H')(h:hJ H x M ns row a):hJ H' x M ns row a:=by
 obtain⟨t,a,b,c,d,e,f,g,i,j,l⟩:=h;calc⟨t,a,b,c,d,e,s _ _ f (λk z=>by cases z),s _ _ g (λk z=>by cases z),s _ _ i (λk z=>by cases z),s _ _ j (λk z=>by cases z),l.aL s.aV⟩
def AR(H:Hp)(mv:List V)(gX:List MD):Prop:=mv.length=gX.length/\∀(i:Nat) v d,mv[i]?=some v->gX[i]?=some d->hJ H v d.M d.ns d.row d.ds
theorem AR.cv(s:Cv H H')(h:AR H mv gX):AR H' mv gX:=⟨h.1,λi v d a b=>(h.2 i v d a b).cv s⟩
def ToldN(H:Hp)(x:V)(gX:List MD)(ws:List (Int×Int×Str))(ls:List (Int×Int)):Prop:=∃t a b c mv d e,x=.ref t/\H t=some (.tup [.ref a,.ref b,.ref c])/\H a=some (.lst mv)/\H b=some (.lst d)/\H c=some (.lst e)/\AR H mv gX/\iF H 1 d (ws.map lW)/\iF H 1 e (ls.map qK)
theorem ToldN.cv{x:V}(s:Cv H H')(h:ToldN H x gX ws ls):ToldN H' x gX ws ls:=by
 obtain⟨t,a,b,c,mv,d,f,e,g,i,j,l,m,n,o⟩:=h;calc⟨t,a,b,c,mv,d,f,e,s _ _ g (λk z=>by cases z),s _ _ i (λk z=>by cases z),s _ _ j (λk z=>by cases z),s _ _ l (λk z=>by cases z),m.cv s,n.aL s.aV,o.aL s.aV⟩
def Kg(tn:V)(ev:Addr)(o:Nat->Addr):List (Key×V):=[(.inr "net",tn),(.inr "put",.ref (o 4)),(.inr "sender",.ref (o 5)),(.inr "worker",.ref (o 6)),(.inr "states",.ref (o 1)),(.inr "words",.ref (o 2)),(.inr "heard",.ref (o 3)),(.inr "events",.ref ev)]
section
variable {H:Hp}{d:Addr}{tn:V}{ev:Addr}{o:Nat->Addr}
theorem Ej(h:H d=some (.dK (Kg tn ev o))):jN H d (.str "net") (some tn):=.inl ⟨_,.inr "net",.inl h,rfl,by kernel_rfl⟩
theorem Ma(h:H d=some (.dK (Kg tn ev o))):jN H d (.str "put") (some (.ref (o 4))):=.inl ⟨_,.inr "put",.inl h,rfl,by kernel_rfl⟩
theorem Mb(h:H d=some (.dK (Kg tn ev o))):jN H d (.str "sender") (some (.ref (o 5))):=.inl ⟨_,.inr "sender",.inl h,rfl,by kernel_rfl⟩
theorem Wu(h:H d=some (.dK (Kg tn ev o))):jN H d (.str "worker") (some (.ref (o 6))):=.inl ⟨_,.inr "worker",.inl h,rfl,by kernel_rfl⟩
theorem wG(h:H d=some (.dK (Kg tn ev o))):jN H d (.str "states") (some (.ref (o 1))):=.inl ⟨_,.inr "states",.inl h,rfl,by kernel_rfl⟩
theorem Ek(h:H d=some (.dK (Kg tn ev o))):jN H d (.str "words") (some (.ref (o 2))):=.inl ⟨_,.inr "words",.inl h,rfl,by kernel_rfl⟩
theorem Mc(h:H d=some (.dK (Kg tn ev o))):jN H d (.str "heard") (some (.ref (o 3))):=.inl ⟨_,.inr "heard",.inl h,rfl,by kernel_rfl⟩
theorem ab0(h:H d=some (.dK (Kg tn ev o))):jN H d (.str "events") (some (.ref ev)):=.inl ⟨_,.inr "events",.inl h,rfl,by kernel_rfl⟩
end
def _root_.DD.RS.tv(r:RS):Nat->Nat->CO
 |0,_=>.l (r.picks.map pairD)
 |1,m=>.l ((r.mm m).di.map mC)
 |2,m=>.l ((r.mm m).wp.map λw=>.lst (w.map .int))
 |3,m=>.l ((r.mm m).hr.map λw=>.lst (w.map .int))
 |4,w=>.l ((r.ww w).say.map .int)
 |5,w=>.l ((r.ww w).snd.map wd)
 |_,w=>.d (kJ (r.ww w).ky) ((r.ww w).ky.countP Option.isSome)
theorem count_set{e:Int×Int}:∀{l:List (Option (Int×Int))}{k:Nat},l[k]?=some none->(l.set k (some e)).countP Option.isSome=l.countP Option.isSome+1
 | [],k,h=>by simp at h
 |a::r,0,h=>by simp at h;subst h;simp
 |a::r,k+1,h=>by
  have b:=count_set (e:=e) (l:=r) (k:=k) (by simpa using h);simp only[List.set_cons_succ,List.countP_cons];rw[b];lia
theorem IF{l:List (Option (Int×Int))}{k:Nat}(h:k<l.length)(j:Int):kJ (l.set k (some e)) j=if j=((k:Nat):Int) then some (pairD e) else kJ l j:=by
 unfold kJ;by_cases a:0<=j
 ·rw[if_pos a,if_pos a];by_cases z:j=((k:Nat):Int)
  ·subst z;rw[if_pos rfl,Int.toNat_natCast,List.getD_eq_getElem?_getD,List.getElem?_set];simp[h]
  ·rw[if_neg z,List.getD_eq_getElem?_getD,List.getElem?_set,if_neg (by lia),<-List.getD_eq_getElem?_getD]
 ·rw[if_neg a,if_neg a,if_neg (by lia)]
theorem El{l:List (Option (Int×Int))}:kJ (l++[none])=kJ l:=by
 funext j;unfold kJ;split
 ·congr 1;rw[List.getD_eq_getElem?_getD,List.getD_eq_getElem?_getD,List.getElem?_append];split
  ·rfl
  ·next z=>
   rw[List.getElem?_eq_none (l:=l) (by lia)]
   cases a:j.toNat-l.length with
   |zero=>rfl
   |succ n=>rfl
 ·rfl
structure cy(F:Addr->Prop)(H:Hp)(d:Addr)(tn:V)(nt:NT)(r:RS)(ad:Nat->Nat->Addr):Prop where
 dk:∃o,H d=some (.dK (Kg tn (ad 0 0) o))/\¬F d/\¬FP nt.n ad d/\∀t,1<=t->t<=6->H (o t)=some (.lst (iH nt.n ad t))/\¬F (o t)/\¬FP nt.n ad (o t)
 cE:ee F H nt.n ad r.tv
 told:∃ls,ToldN (jR (λb=>F b\/FP nt.n ad b) H) tn nt.ms nt.ws ls
 ok:nt.Ok
section
variable {F:Addr->Prop}{H H':Hp}{d:Addr}{tn:V}{nt:NT}{r:RS}{ad:Nat->Nat->Addr}
theorem cy.keep(h:cy F H d tn nt r ad)(f:Fr F H H'):cy F H' d tn nt r ad:=by
 obtain⟨⟨o,g,e,i,c⟩,j,⟨ls,k⟩,l⟩:=h;calc⟨⟨o,f.at g e,e,i,λt a b=>⟨f.at (c t a b).1 (c t a b).2.1,(c t a b).2⟩⟩,j.keep f,⟨ls,k.cv (f.mono λb z=>.inl z).jR⟩,l⟩
theorem cy.same(h:cy F H d tn nt r ad)(s:av H H'):cy F H' d tn nt r ad:=h.keep s.fr
theorem cy.own{c:RS}(h:cy F H d tn nt r ad)(f:Fr (FP nt.n ad) H H')(b:ee F H' nt.n ad c.tv):cy F H' d tn nt c ad:=by
 obtain⟨⟨o,g,i,e,c⟩,l,⟨ls,j⟩,k⟩:=h;calc⟨⟨o,f.at g e,i,e,λt a b=>⟨f.at (c t a b).1 (c t a b).2.2,(c t a b).2⟩⟩,b,⟨ls,j.cv (f.mono λb z=>.inr z).jR⟩,k⟩
end
theorem Em{l:List (Option (Int×Int))}{k:Nat}:(kJ l ((k:Nat):Int)).isSome= !(l.getD k none).isNone:=by
 unfold kJ;rw[if_pos (by lia),Int.toNat_natCast]
 cases l.getD k none<;>rfl
theorem En{H0 H:Hp}{a:Addr}{b:List (Key×V)}{g:Int->Option DV}{N:Nat}(e:H a=some (.dK b))(h:OR H0 (.d g N) (.dK b))(k:Int):∃o,jN H a (.int k) o/\o.isSome=(g k).isSome:=by
 calc bH _ (jN.k (k:=Sum.inl k) e) ?_;have:=h.2 k;revert this
 cases g k with
 |none=>intro h;rw[h];rfl
 |some d=>intro⟨v,h,_⟩;rw[h];rfl
abbrev k7:Stmt:=top 70
def IG:Sp:=λvs H Q _=>∃(F:Addr->Prop) (d:Addr) (tn:V) (nt:NT) (r:RS) (ad:Nat->Nat->Addr) (m:Nat),vs=[.ref d,.int m]/\cy F H d tn nt r ad/\r.Ok nt/\r.picks.length<=400/\m<nt.ws.length/\∀l H',av H H'->H l=none->H' l=some (.lst ((r.EX m).map λk=>.int (k:Nat)))->Q (.ref l) H'
theorem yW(D:dq K mg "_law_lying" "_law_lying" k7 ["_law_run","_law_way"])(T:Tx K mg C CN CR F FD):Def P w K mg base "_law_lying" 1 ["_law_run","_law_way"] IG:=by
 have sc:aE ["_law_run","_law_way"] ["_law_run","_law_way"] (ay k7):=by walk_at "s"
 symm
 ·obtain⟨F,d,tn,g,r,ad,m,rfl,j,k,B,b,q⟩:=h;rfl
 ·nofun;obtain⟨F,d,tn,g,r,ad,m,rfl,j,k,B,b,q⟩:=h;ac_rfl;have g:=hr.units;have B:=lt1 g;calc⟨_,(ao (aI (dO (N':=["_law_k","_law_way","_law_run"]) (ix:=[none,some 1,some 0]) (dw rfl T.ff (ag (bc aP rfl T.cp T' (ag (ak g (ak g (aq 0) aD) (aq 1)) aa)) aa)) (λ_ _ _ _=>(ba (i:=0) (show(["_law_k","_law_way","_law_run"]:List Str).Nodup by decide +kernel) rfl (by grind))) (λ_ _ _ _=>(i3 (OG (Dq B (aq 0) (fZ (K:=K) rfl g (fZ (K:=K) rfl g (aq 2) aD) (aq 1)))))) (λ_ _ _ _=>(aq 0))))),?_⟩;nofun;obtain⟨o,v,B,I,g⟩:=j.dk;have B:=(g 4 (by decide) (by decide)).1;have G:=(g 6 (by decide) (by decide)).1;obtain⟨I,L,M⟩:=j.cE.lst (t:=4) (i:=m) b rfl;obtain⟨g,N,O⟩:=j.cE.dct (t:=6) (i:=m) b rfl;ac_rfl;have g:I.length=(r.ww m).say.length:=by simpa using M.1
  have j:=k.bs m b;left;calc bT ?_;left;calc bH _ (Ma v) ?_;left;calc bu B (aX b) ?_;calc bH _ (.inl ⟨_,aU.of L,rfl⟩) ?_;left;rw[g];calc gW (by lia) (by lia) (λD p=>?_);rw[Int.toNat_natCast];refine bz (J:=Bg 0 (r.ww m).say.length) (n:=(r.ww m).say.length) (λi ys H'=>av H H'/\ys=((List.range i).filter λk=>((r.ww m).ky.getD k none).isNone).map λk=>V.int (k:Nat)) (L' (small (by lia))) ⟨av.new _ p,rfl⟩ (λi ys H' u _=>u) (λys H' _=>K' _) ?_ ?_
  ·intro i ys H' u l y R x H2 S;nofun;obtain⟨a,rfl⟩:=R;obtain⟨rfl,rfl⟩:=S;ac_rfl;walk_at "xf";left;refine bH _ (Wu (a _ _ v)) ?_;left;refine bu (a _ _ G) (aX b) ?_;rw[Int.zero_add];obtain⟨g,j,k⟩:=En (a _ _ N) O ((i:Nat):Int);refine⟨ad 6 m,g,rfl,j,?_⟩;rw[k,Em,Bool.not_not];left;by_cases z:((r.ww m).ky.getD i none).isNone=true
   ·rw[z]
    try rw[if_pos rfl]
    calc cJ l y u (L' (small (by lia))) ⟨λc o e=>by rw[az (au e p)];calc a _ _ e,?_⟩;rw[fQ,if_pos z,List.map_append];rfl
   ·rw[Bool.not_eq_true] at z;rw[z]
    try rw[if_neg (by decide)]
    exact⟨_,l,by lia,a,by rw[fQ,if_neg (by rw[z];decide),List.append_nil]⟩
  ·rintro ys H' l y ⟨a,rfl⟩;calc q _ _ a p l
def fR(nt:NT)(r:RS)(w:Nat):List Nat:=if (nt.w w).2.2="row" then(r.EX w).take 1 else r.EX w
def kr(nt:NT)(r:RS)(n:Nat):List (Nat×Nat):=(List.range n).flatMap λw=>(fR nt r w).map λk=>(w,k)
theorem mV{nt:NT}{n:Nat}:kr nt r (n+1)=kr nt r n++(fR nt r n).map λk=>(n,k):=by
 unfold kr;rw[List.range_succ,List.flatMap_append];simp
theorem iF.app{n:Nat}{vs us:List V}{c:List DV}(h:iF H n vs c)(g:iF H n us es):iF H n (vs++us) (c++es):=by
 calc⟨by simp[h.1,g.1],λi v d a b=>?_⟩;by_cases c:i<vs.length
 ·rw[List.getElem?_append_left c]at a;rw[List.getElem?_append_left (by rw[<-h.1];calc c)]at b;exact h.2 i _ _ a b
 ·rw[List.getElem?_append_right (by lia)]at a;rw[List.getElem?_append_right (by rw[<-h.1];lia),<-h.1]at b;calc g.2 _ _ _ a b
theorem wH{w:Nat}:(r.EX w).length<=(r.ww w).say.length:=by
 unfold RS.EX;calc aap (List.length_filter_le _ _) (by simp)
theorem vf{nt:NT}{w:Nat}:(fR nt r w).length<=(r.ww w).say.length:=by
 unfold fR;split
 ·rw[List.length_take];have:=wH (r:=r) (w:=w);lia
 ·calc wH
theorem pS{nt:NT}{r:RS}{B:Nat}:∀n,(∀w,w<n->(r.ww w).say.length<=B)->(kr nt r n).length<=n*B
 |0,_=>by simp[kr]
 |n+1,h=>by
  rw[mV,List.length_append,List.length_map];have a:=pS (nt:=nt) n (λw a=>h w (by lia));have a:=h n (by lia);have a:=vf (nt:=nt) (r:=r) (w:=n);rw[Nat.succ_mul];lia
def YJ(p:Nat×Nat):DV:=pairD (((p.1:Nat):Int),((p.2:Nat):Int))
theorem Eo{r:RS}{w k:Nat}(h:k∈(r.EX w).take 1):∀j,j<k->((r.ww w).ky.getD j none).isNone=false:=by
 unfold RS.EX at h;generalize b:(List.range (r.ww w).say.length).filter (λk=>((r.ww w).ky.getD k none).isNone)=l at h
 cases l with
 |nil=>simp at h
 |cons a t=>
  simp at h;subst h;intro j g;have f:(List.range (r.ww w).say.length).Pairwise (· < ·):=List.pairwise_lt_range;have c:=f.filter (λk=>((r.ww w).ky.getD k none).isNone);rw[b]at c;have f:k∈(List.range (r.ww w).say.length).filter (λk=>((r.ww w).ky.getD k none).isNone):=by rw[b];simp
  rw[List.mem_filter,List.mem_range]at f
  cases z:((r.ww w).ky.getD j none).isNone with
  |false=>rfl
  |true=>
   exfalso;have d:j∈(List.range (r.ww w).say.length).filter (λk=>((r.ww w).ky.getD k none).isNone):=by
    rw[List.mem_filter,List.mem_range];exact⟨by lia,z⟩
   rw[b]at d;rcases List.mem_cons.mp d with e|e
   ·lia
   ·have:=(List.pairwise_cons.mp c).1 j e;lia
theorem IH{nt:NT}(h:r.Ok nt){w k:Nat}(c:(w,k)∈kr nt r nt.ws.length):r.VJ nt w k:=by
 unfold kr at c;rw[List.mem_flatMap]at c;obtain⟨j,a,c⟩:=c;rw[List.mem_range]at a;rw[List.mem_map]at c;obtain⟨j,b,e⟩:=c
 cases e;have f:k∈r.EX w:=by
  unfold fR at b;split at b
  ·exact List.mem_of_mem_take b
  ·exact b
 have g:k<(r.ww w).say.length/\((r.ww w).ky.getD k none).isNone=true:=by
  unfold RS.EX at f;rw[List.mem_filter,List.mem_range]at f;exact f
 have c:=h.lk w a;refine⟨a,?_,λi c=>?_⟩
 ·rw[bA (d:=none) (by lia)]
  cases z:(r.ww w).ky.getD k none with
  |none=>rfl
  |some e=>rw[z]at g;simp at g
 ·unfold fR at b;rw[if_pos i] at b;have:=Eo b (k - 1) (by lia);rw[bA (d:=none) (show k - 1 < (r.ww w).ky.length by lia)]
  cases z:(r.ww w).ky.getD (k-1) none with
  |none=>rw[z]at this;simp at this
  |some e=>calc⟨e,rfl⟩
theorem Rl{xs:List V}:dj xs none (some 1)=xs.take 1:=by
 unfold dj;have b:HT.eG xs.length 0 none=0:=rfl;rw[b]
 cases xs with
 |nil=>simp
 |cons a r=>
  have b:HT.eG (a::r).length (a::r).length (some 1)=1:=by
   unfold HT.eG;simp
  rw[b];simp
abbrev mW:Stmt:=top 71
def II:Sp:=λvs H Q _=>∃(F:Addr->Prop) (d:Addr) (tn:V) (nt:NT) (r:RS) (ad:Nat->Nat->Addr),vs=[.ref d]/\cy F H d tn nt r ad/\r.Ok nt/\r.picks.length<=400/\∀l ys H',av H H'->H l=none->H' l=some (.lst ys)->iF H' 1 ys ((kr nt r nt.ws.length).map YJ)->Q (.ref l) H'
theorem AS(D:dq K mg "_law_free" "_law_free" mW ["_law_run"])(T:Tx K mg C CN CR F FD)(k8:Def P w K mg base "_law_lying" 1 ["_law_run","_law_way"] IG):Def P w K mg base "_law_free" 2 ["_law_run"] II:=by
 have sc:aE ["_law_run","_law_free_here","_law_way","_law_told","_law_numbers"] ["_law_run"] (ay mW):=by walk_at "s"
 symm
 ·obtain⟨F,d,tn,a,r,ad,rfl,O,gq,Ee,q⟩:=h;rfl
 ·nofun;obtain⟨F,d,tn,a,r,ad,rfl,O,gq,Ee,q⟩:=h;ac_rfl;have hu:=hr.units;refine⟨_,(aj (bb (i:=1) sc.nd rfl (by grind) (bF aa))
   (aj (fm PassesOwn.never rfl (lP rfl T.fb (ag (ak hu (ak hu (aq 0) aD) ai) aa)) (iB (i:=2) (j:=3) rfl sc.nd rfl rfl (by grind) (by grind))
   (aj (bb (i:=4) sc.nd rfl (by grind) (aM k8 hr (ag (aq 0) (ag (aq 2) aa))))
   (aj (aW (aC (aT hu) (ak hu (aq 3) ai) aD (aG _)) (ao (bb (i:=4) sc.nd rfl (by grind) (rS (aq 4) nO (ig ai)))) aJ)
   (ao (bb (i:=1) sc.nd rfl (by grind) (aQ cC (aq 1) (dO (N':=["_law_number","_law_way"]) (ix:=[none,some 2]) (cu (pv 4)) (λ_ _ _ _=>(ba (i:=0) (show(["_law_number","_law_way"]:List Str).Nodup by decide +kernel) rfl (by grind))) qx (λ_ _ _ _=>(bQ (ag (aq 1) (ag (aq 0) aa)))))))))))
   (ao (aI (aq 1))))),?_⟩
  nofun;obtain⟨o,hd,T,nP,ho⟩:=O.dk;obtain⟨ls,t,am,aw,al,mv,wv,lv,rfl,T,h2,h3,h4,h5,h6,h7⟩:=O.told;have g1:=(dS T (λk z=>by cases z)).2;have g3:=(dS h3 (λk z=>by cases z)).2
  replace h6:=h6.aL fC.aV
  ac_rfl;have gs:wv.length=a.ws.length:=by simpa using h6.1
  have t:wv.length<=10:=by rw[gs];exact O.ok.Ht
  have hB:∀w,w<a.ws.length->(r.ww w).say.length<=9620:=λw hw=>by have:=gq.bs w hw;lia
  left;calc⟨aal _,λl0 Vw=>?_⟩;have s0:=av.new (.lst []) Vw;have YK:upd H l0 (.lst []) l0=some (.lst []):=af;generalize hG0:upd H l0 (.lst [])=G0 at *;left;refine Ej (s0 _ _ hd) |> λh=>⟨_,h,?_⟩
  refine eL (s0 _ _ g1) (aA (j:=1) rfl) ⟨true,wv,Sq.l (s0 _ _ g3),nW (xs:=wv) (λi σ H'=>∃z2 z3 z4 R ys,σ=[some (V.ref d),some (V.ref R),z2,z3,z4]/\av H H'/\H R=none/\H' R=some (.lst ys)/\iF H' 1 ys ((kr a r i).map YJ)) ?_ ?_ ?_ ?_⟩
  ·exact⟨_,_,_,l0,[],rfl,s0,Vw,YK,show iF _ 1 [] [] from iF.nil⟩
  ·intro i σ H' t;nofun;obtain⟨_,_,_,_,_,_,v,_⟩:=t;ac_rfl;exact Sq.l (v _ _ g3)
  ·intro i x σ H' tt hx tP VF;nofun;obtain⟨z2,z3,z4,R,ys,rfl,v,S,YL,G⟩:=tP;have yr:i < a.ws.length:=by rw[<-gs];exact(List.getElem?_eq_some_iff.mp hx).1
   have s2:=av.new (.tup [.int (i:Nat),x]) VF;have ett:upd H' tt (.tup [.int (i:Nat),x]) tt=some (.tup [.int (i:Nat),x]):=af;have AE:=(h6.2 i x (lW (a.w i)) hx (by rw[List.getElem?_map,show a.ws[i]?=some (a.w i) from bA yr];rfl)).aL (v.trans s2).aV;generalize J1:upd H' tt (.tup [.int (i:Nat),x])=G2 at *;obtain⟨ta,u1,u2,u3,kk,rfl,AF,y1,y2,y3⟩:=bY AE;obtain rfl:=y1.bR;obtain rfl:=y2.bR;obtain rfl:=y3.bN;ac_rfl;calc zo (bI.of ett) ?_;left;calc⟨F,d,_,a,r,ad,i,rfl,(O.same v).same s2,gq,Ee,yr,λln U t x m=>?_⟩;have mh:av H' U:=s2.trans t;have x:=wH (r:=r) (w:=i);have x:=vf (nt:=a) (r:=r) (w:=i);have x:=hB i yr;left;calc eL (t _ _ AF) (aA (j:=2) rfl) ?_;left;by_cases ij:(a.w i).2.2="row"
   ·rw[if_pos (by simp[ij])];left;calc .inl ⟨_,m,λl2 t=>?_⟩;rw[Rl];have s4:=av.new (.lst (((r.EX i).map λk=>V.int ((k:Nat):Int)).take 1)) t;have Rm:upd U l2 (.lst (((r.EX i).map λk=>V.int ((k:Nat):Int)).take 1)) l2=some (.lst ((fR a r i).map λk=>V.int ((k:Nat):Int))):=by
     unfold fR;rw[af,if_pos ij,List.map_take]
    generalize t:upd U l2 (.lst (((r.EX i).map λk=>V.int ((k:Nat):Int)).take 1))=H5 at *;have J9:=mh.trans s4;clear m;have m:=Rm;left;calc bT ?_;left;calc .inl ⟨⟨_,aU.of m⟩,λD W=>?_⟩;refine bz (J:=wU K l2) (n:=(fR a r i).length) (λj g H'=>av H5 H'/\iF H' 1 g (((fR a r i).take j).map λk=>YJ (i,k))) (L' (small (by lia))) ⟨av.new _ W,show iF _ 1 [] [] from iF.nil⟩ ?_ ?_ ?_ ?_
    ·rintro j g H' p ⟨b,_⟩;exact⟨_,_,aU.of (b _ _ m),by rw[List.getElem?_map,cP p];rfl⟩
    ·rintro g H' ⟨b,_⟩;exact⟨_,aU.of (b _ _ m),by simp⟩
    ·intro j g H' p I X tR xx Y wk;nofun;obtain⟨b,u⟩:=tR;obtain⟨rfl,hy⟩:=wk;have Z:=hy _ (aU.of (b _ _ m));rw[List.getElem?_map,cP p] at Z;obtain rfl:=Option.some.inj Z;ac_rfl;walk_at "xf";left
     try rw[if_pos trivial]
     calc⟨du,λL nK=>?_⟩;have M:=av.new (.tup [.int ((i:Nat):Int),.int (((fR a r i)[j]:Nat):Int)]) nK;have IK:=M _ _ I;calc cJ IK X p (L' (small (by lia))) ⟨λc o e=>by rw[az (au e W)];calc M _ _ (b _ _ e),?_⟩;have tu:bS (upd Y L (.tup [.int ((i:Nat):Int),.int (((fR a r i)[j]:Nat):Int)])) (upd (upd Y L (.tup [.int ((i:Nat):Int),.int (((fR a r i)[j]:Nat):Int)])) D (.lst (g++[.ref L]))):=(bS.refl _).upd λzs e=>by rw[IK]at e;cases e
     rw[List.take_succ,cP p,List.map_append];exact((u.aL M.aV).snoc (eu (n:=0) af (.int _) (.int _))).aL tu
    rintro g H6 I X ⟨b,u⟩;rw[List.take_length]at u;have y:av H' H6:=J9.trans b;left;refine .inl ⟨_,_,y _ _ YL,I,?_,λN IL=>?_⟩
    ·have a1:=G.1;have a2:=u.1;have a3:=pS (nt:=a) (r:=r) (B:=9620) i (λw hw=>hB w (by lia));simp at a1 a2;rw[sizeLine_eq];have a5:i<=9:=by lia
     have a4:i*9620<=9*9620:=Nat.mul_le_mul_right _ a5;lia
    have s7:=av.new (.lst (ys++g)) IL;left;calc UW _ _ _ N _ ⟨rfl,rfl,rfl,rfl⟩ (v.trans (y.trans s7)) ((v.trans y).free IL) af ?_;rw[mV,List.map_append];calc((G.aL y.aV).app ?_).aL s7.aV;rw[List.map_map];exact u
   ·rw[if_neg (by simp[ij])];have Rm:U ln=some (.lst ((fR a r i).map λk=>V.int ((k:Nat):Int))):=by
     unfold fR;rw[if_neg ij];exact m
    clear m;have m:=Rm;left;calc bT ?_;left;calc .inl ⟨⟨_,aU.of m⟩,λD W=>?_⟩;refine bz (J:=wU K ln) (n:=(fR a r i).length) (λj g H'=>av U H'/\iF H' 1 g (((fR a r i).take j).map λk=>YJ (i,k))) (L' (small (by lia))) ⟨av.new _ W,show iF _ 1 [] [] from iF.nil⟩ ?_ ?_ ?_ ?_
    ·rintro j g H' p ⟨b,_⟩;exact⟨_,_,aU.of (b _ _ m),by rw[List.getElem?_map,cP p];rfl⟩
    ·rintro g H' ⟨b,_⟩;exact⟨_,aU.of (b _ _ m),by simp⟩
    ·intro j g H' p I X HW xx Y LM;nofun;obtain⟨b,u⟩:=HW;obtain⟨rfl,hy⟩:=LM;have Z:=hy _ (aU.of (b _ _ m));rw[List.getElem?_map,cP p] at Z;obtain rfl:=Option.some.inj Z;ac_rfl;walk_at "xf";left
     try rw[if_pos trivial]
     calc⟨du,λL nK=>?_⟩;have M:=av.new (.tup [.int ((i:Nat):Int),.int (((fR a r i)[j]:Nat):Int)]) nK;have IK:=M _ _ I;calc cJ IK X p (L' (small (by lia))) ⟨λc o e=>by rw[az (au e W)];calc M _ _ (b _ _ e),?_⟩;have tu:bS (upd Y L (.tup [.int ((i:Nat):Int),.int (((fR a r i)[j]:Nat):Int)])) (upd (upd Y L (.tup [.int ((i:Nat):Int),.int (((fR a r i)[j]:Nat):Int)])) D (.lst (g++[.ref L]))):=(bS.refl _).upd λzs e=>by rw[IK]at e;cases e
     rw[List.take_succ,cP p,List.map_append];exact((u.aL M.aV).snoc (eu (n:=0) af (.int _) (.int _))).aL tu
    rintro g H6 I X ⟨b,u⟩;rw[List.take_length]at u;have y:av H' H6:=mh.trans b;left;refine .inl ⟨_,_,y _ _ YL,I,?_,λN IL=>?_⟩
    ·have a1:=G.1;have a2:=u.1;have a3:=pS (nt:=a) (r:=r) (B:=9620) i (λw hw=>hB w (by lia));simp at a1 a2;rw[sizeLine_eq];have a5:i<=9:=by lia
     have a4:i*9620<=9*9620:=Nat.mul_le_mul_right _ a5;lia
    have s7:=av.new (.lst (ys++g)) IL;left;calc UW _ _ _ N _ ⟨rfl,rfl,rfl,rfl⟩ (v.trans (y.trans s7)) ((v.trans y).free IL) af ?_;rw[mV,List.map_append];calc((G.aL y.aV).app ?_).aL s7.aV;rw[List.map_map];exact u
  ·intro σ H' LO;nofun;obtain⟨z2,z3,z4,R,ys,rfl,v,S,YL,G⟩:=LO;ac_rfl;rw[gs]at G;left;calc q _ _ _ v S YL G
def Ep(H H':Hp):Prop:=∀b o,H b=some o->(∀k,o≠.own k)->H' b=some o
theorem Ep.aV(h:Ep H H'):bS H H':=λb a e=>h b _ e (λk z=>by cases z)
theorem _root_.L2.av.Kh(s:av H H'):Ep H H':=λb o e _=>s b o e
theorem Ep.trans(a:Ep H H1)(b:Ep H1 H2):Ep H H2:=λc o e n=>b c o (a c o e n) n
theorem hJ.Kh{x:V}{M:Int}{a:List bD}(s:Ep H H')(h:hJ H x M ns row a):hJ H' x M ns row a:=by
 obtain⟨t,a,b,c,d,e,f,g,i,j,l⟩:=h;calc⟨t,a,b,c,d,e,s _ _ f (λk z=>by cases z),s _ _ g (λk z=>by cases z),s _ _ i (λk z=>by cases z),s _ _ j (λk z=>by cases z),l.aL s.aV⟩
theorem AR.Kh(s:Ep H H')(h:AR H mv gX):AR H' mv gX:=⟨h.1,λi v d a b=>(h.2 i v d a b).Kh s⟩
theorem AR.nil:AR H [] []:=⟨rfl,λi v d a=>by simp at a⟩
theorem AR.snoc{v:V}{d:MD}(h:AR H mv gX)(g:hJ H v d.M d.ns d.row d.ds):AR H (mv++[v]) (gX++[d]):=by
 calc⟨by simp[h.1],λi y e a b=>?_⟩;by_cases c:i<mv.length
 ·rw[List.getElem?_append_left c]at a;rw[List.getElem?_append_left (by rw[<-h.1];calc c)]at b;exact h.2 i _ _ a b
 ·rw[List.getElem?_append_right (by lia)] at a;rw[List.getElem?_append_right (by rw[<-h.1];lia),<-h.1] at b
  cases f:i-mv.length with
  |zero=>rw[f]at a b;cases a;cases b;calc g
  |succ k=>rw[f]at a;simp at a
def mask(a b c:Addr)(H:Hp):Hp:=λx=>if x=a\/x=b\/x=c then some (.own 0) else H x
theorem oJ{c x:Addr}(d:x≠a)(e:x≠b)(f:x≠c):mask a b c H x=H x:=by unfold mask;rw[if_neg (by simp[d,e,f])]
theorem vg{c x:Addr}(h:mask a b c H x=some o)(d:∀k,o≠.own k):x≠a/\x≠b/\x≠c/\H x=some o:=by
 unfold mask at h;split at h
 ·cases h;exact absurd rfl (d 0)
 ·rename_i hn;simp only[not_or]at hn;calc⟨hn.1,hn.2.1,hn.2.2,h⟩
theorem IM{c:Addr}:Ep (mask a b c H) H:=λx o e n=>(vg e n).2.2.2
theorem yX{c:Addr}(h:∀x o,x≠a->x≠b->x≠c->H x=some o->H' x=some o):Ep (mask a b c H) (mask a b c H'):=λx o e n=>by
 obtain⟨d,f,g,i⟩:=vg e n;rw[oJ d f g];calc h x o d f g i
theorem Er{c t d f g:Addr}{xs:List V}{M:Int}{n:List bD}(p:H t=some (.tup [.int M,.ref d,.ref f,.ref g]))(q:H d=some (.lst (ns.map V.int)))(r:H f=some (.lst (row.map V.int)))(s:H g=some (.lst xs))(u:iF H 2 xs (n.map bD.dv))
  (h:∃ys,H a=some (.lst ys)) (i:∃ys,H b=some (.lst ys)) (j:∃ys,H c=some (.lst ys)) (k:d≠a/\d≠b/\d≠c) (l:f≠a/\f≠b/\f≠c) (m:g≠a/\g≠b/\g≠c):hJ (mask a b c H) (.ref t) M ns row n:=by
 obtain⟨n,h⟩:=h;obtain⟨n,i⟩:=i;obtain⟨n,j⟩:=j;have o:bS H (mask a b c H):=λx ys e=>by
  rw[oJ (λz=>by rw[z,h]at e;cases e) (λz=>by rw[z,i]at e;cases e) (λz=>by rw[z,j]at e;cases e)];exact e
 calc⟨t,d,f,g,xs,rfl,o _ _ p,by rw[oJ k.1 k.2.1 k.2.2];calc q,by rw[oJ l.1 l.2.1 l.2.2];calc r,by rw[oJ m.1 m.2.1 m.2.2];calc s,u.aL o⟩
structure CA(gX:List MD)(ws:List (Int×Int×Str))(ls:List (Int×Int)):Prop where
 m1:1<=gX.length
 m5:gX.length<=5
 X6:ws.length<=10
 YM:ls.length<=20
 mg:∀d∈gX,d.good
 wo:∀w∈ws,uU gX.length w
 lo:∀l∈ls,uV ws.length l
theorem CA.nt(h:CA gX ws ls):(NT.mk gX ws).Ok:=⟨h.m5,h.m1,h.X6,h.mg,h.wo⟩
abbrev pT:Stmt:=top 66
def CB(K:W.Frag):Sp:=λvs H Q _=>∃(a:Addr) (ns:List Int),vs=[.ref a]/\aU K H a (ns.map V.int)/\ns.length<=63/\∀t b c d mv e f gX ws ls H',av H H'->H' t=some (.tup [.ref b,.ref c,.ref d])->H' b=some (.lst mv)->H' c=some (.lst e)->H' d=some (.lst f)->AR H' mv gX->iF H' 1 e (ws.map lW)->iF H' 1 f (ls.map qK)->CA gX ws ls->Q (.ref t) H'
theorem Es(D:dq K mg "_law_net" "_law_net" pT ["_law_script"])(T:Tx K mg C CN CR F FD)(x:Def P w K mg base "_law_at" 1 ["_law_script","_law_k"] (HK K))(v:Def P w K mg base "_law_digit" 1 ["_law_pot_here","_law_many"] jU)(jv:Def P w K mg base "_law_machine" 4 ["_law_pot_here"] yx)(M:Def P w K mg base "_law_pot" 1 ["_law_cell"] HM):Def P w K mg base "_law_net" 5 ["_law_script"] (CB K):=by
 have sc:aE ["_law_script","_law_many","_law_machines","_law_pot_here","_law_ways","_law_k","_law_letters","_law_way","_law_said"] ["_law_script"] (ay pT):=by walk_at "s"
 symm
 ·obtain⟨a,ns,rfl,hS,YN,q⟩:=h;rfl
 ·nofun;obtain⟨a,ns,rfl,hS,YN,q⟩:=h;ac_rfl;have hu:=hr.units;refine⟨_,(aj (bb (i:=1) sc.nd rfl (by grind) (aQ cC ai (aQ cH (aM x hr (ag (aq 0) (ag ai aa))) ai)))
   (aj (iy (i:=2) sc.nd rfl (by grind) (N':=["_law_k","_law_script"]) (ix:=[none,some 0]) (dw rfl T.ff (ag (aq 1) aa)) (λ_ _ _ _=>(ba (i:=0) (show(["_law_k","_law_script"]:List Str).Nodup by decide +kernel) rfl (by grind))) qx (λ_ _ _ _=>(aM jv hr (ag (aM M hr (ag (aM x hr (ag (aq 1) (ag (aQ cC ai (aq 0)) aa))) aa)) aa))))
   (aj (bb (i:=3) sc.nd rfl (by grind) (aM M hr (ag (aM x hr (ag (aq 0) (ag ai aa))) aa)))
   (aj (bb (i:=4) sc.nd rfl (by grind) (bF aa))
   (aj (fm PassesOwn.never rfl (dw rfl T.ff (ag (aM v hr (ag (aq 3) (ag ai aa))) aa)) (ba (i:=5) sc.nd rfl (by grind))
   (ao (bV (dA nJ qm qo bW (aq 4) (ag (bQ (ag (aM v hr (ag (aq 3) (ag (aq 1) aa))) (ag (aM v hr (ag (aq 3) (ag (aq 1) aa))) (ag (ak hu (bF (ag aD (ag aD aa))) (aM v hr (ag (aq 3) (ag ai aa)))) aa)))) aa)))))
   (aj (bb (i:=3) sc.nd rfl (by grind) (aM M hr (ag (aM x hr (ag (aq 0) (ag ai aa))) aa)))
   (aj (bb (i:=6) sc.nd rfl (by grind) (bF aa))
   (aj (fm PassesOwn.never rfl (dw rfl T.ff (ag (aM v hr (ag (aq 3) (ag ai aa))) aa)) (ba (i:=5) sc.nd rfl (by grind))
   (ao (aW (aC (fz hu) (aq 4) (bF aa) (aG _)) (aj (bb (i:=7) sc.nd rfl (by grind) (aM v hr (ag (aq 3) (ag (bc aP rfl T.cp T' (ag (aq 4) aa)) aa))))
   (aj (bb (i:=8) sc.nd rfl (by grind) (bF (ag (aM v hr (ag (aq 3) (ag ai aa))) (ag (aM v hr (ag (aq 3) (ag (aQ nQ ai ai) aa))) aa))))
   (ao (bV (dA nJ qm qo bW (aq 6) (ag (bQ (ag (aq 7) (ag (ak hu (aq 8) (aM v hr (ag (aq 3) (ag ai aa)))) aa))) aa)))))) aJ)))
   (ao (aI (bQ (ag (aq 2) (ag (aq 4) (ag (aq 6) aa)))))))))))))),?_⟩
  right;calc⟨a,ns,_,rfl,hS,by lia,λg=>⟨(by decide:(0:Int)<5),?_⟩⟩;have v:=aaK g (b:=5) (by decide);have v:=aaG g (b:=5) (by decide);right;calc bT ?_;right;calc gW (by lia) (by lia) (λD hD=>?_);refine bz (J:=Bg 0 (1+g%5).toNat) (n:=(1+g%5).toNat) (λi ys H'=>av H H'/\∃gX,gX.length=i/\AR (mask D D D H') ys gX/\∀d∈gX,d.good) (L' (aH (by lia))) ⟨av.new _ hD,[],rfl,AR.nil,λd hd=>by simp at hd⟩ (λi ys H' hi _=>hi) (λys H' _=>K' _) ?_ ?_
  ·intro i ys H1 hi bL hl j4 x H2 j5;nofun;obtain⟨s1,gX,mJ,hM,S⟩:=j4;obtain⟨rfl,rfl⟩:=j5;ac_rfl;walk_at "xf";right;rw[if_pos trivial];refine⟨a,ns,_,rfl,s1.seq hS,by lia,λv=>⟨v,rfl,λp SQ U qX=>⟨p,rfl,⟨_,af,qX⟩,λt v T ld xs M mns row ds x st h1 h2 h3 h4 h5 f1 f2 f3 hg=>?_⟩⟩⟩;have q3:∀b o,H2 b=some o->x b=some o:=λb o e=>st.rest b o ((av.new _ U) _ _ e) (au e U);have T:=q3 _ _ bL;have p1:=(av.new (.lst (SQ.map V.int)) U) _ _ bL;have v:∀{b:Addr},upd H2 p (.lst (SQ.map V.int)) b=none->b≠D:=λf=>Ne.symm (au p1 f);refine cJ T hl hi (L' (aH (by lia))) ⟨λb o e=>by rw[az (au e hD)];exact q3 _ _ (s1 _ _ e),gX++[⟨M,mns,row,ds⟩],by simp[mJ],?_,λd hd=>?_⟩
   ·have c4:Ep (mask D D D H2) (mask D D D (upd x D (.lst (ys++[.ref t])))):=yX λb o M b2 b3 e=>by rw[az M];exact q3 _ _ e
    have c5:Ep (mask D D D x) (mask D D D (upd x D (.lst (ys++[.ref t])))):=yX λb o M b2 b3 e=>by rw[az M];exact e
    exact(hM.Kh c4).snoc (hJ.Kh c5 (Er h1 h2 h3 h4 h5 ⟨_,T⟩ ⟨_,T⟩ ⟨_,T⟩ ⟨v f1,v f1,v f1⟩ ⟨v f2,v f2,v f2⟩ ⟨v f3,v f3,v f3⟩))
   ·rcases List.mem_append.mp hd with hd | hd
    ·exact S d hd
    ·simp only[List.mem_singleton]at hd;subst hd;exact hg
  intro mv H1 Ww hl v;nofun;obtain⟨s1,gX,mJ,hM0,S⟩:=v;have hM:=hM0.Kh IM;generalize hDa:D=am at *;ac_rfl;right;calc⟨a,ns,_,rfl,s1.seq hS,by lia,λv=>⟨v,rfl,λp SQ U qX=>?_⟩⟩;have s2:=av.new (.lst (SQ.map V.int)) U;have By:eS (upd H1 p (.lst (SQ.map V.int))) p:=⟨_,af,qX⟩
  generalize J1:upd H1 p (.lst (SQ.map V.int))=G2 at *;right;calc⟨aal _,λG v=>?_⟩;have s3:=av.new (.lst []) v;have VB:G≠p:=Step.ne By v;have hp3:=By.same s3;have eaw:upd G2 G (.lst []) G=some (.lst []):=af;have faw:H1 G=none:=s2.free v;have mh:=s2.trans s3;generalize QS:upd G2 G (.lst [])=G3 at *;calc mD p 11 rfl hp3 (by decide) (by decide +kernel) (λx T rm M v=>?_);refine⟨x,rfl,by lia,by lia,jH (n:=x.toNat) (λi σ H'=>(∃W,σ=[some (.ref a),some (.int (1+g%5)),some (.ref am),some (.ref p),some (.ref G),W,none,none,none])/\eS H' p/\av H1 H'/\∃(m:List V) (ws:List (Int×Int×Str)),H' G=some (.lst m)/\iF H' 1 m (ws.map lW)/\ws.length=i/\∀w∈ws,uU (1+g%5) w) ?_ ?_ ?_⟩
  ·exact⟨⟨_,rfl⟩,v.gp,v.over mh U,[],[],v.rest _ _ eaw VB,iF.nil,rfl,λw B=>by simp at B⟩
  ·intro i σ H5 hi tP;nofun;obtain⟨⟨W,rfl⟩,X,s5,m,ws,Rn,hW,gs,LC⟩:=tP;ac_rfl;have IP:m.length=i:=by have:=hW.1;simp at this;lia
   right;calc⟨.inl ⟨rfl,_,aU.of Rn⟩,?_⟩;have l5:(1+g%5).natAbs.log2<9000:=by
    have:1+g%5=1\/1+g%5=2\/1+g%5=3\/1+g%5=4\/1+g%5=5:=by lia
    rcases this with e|e|e|e|e<;>(rw[e];decide +kernel)
   refine dig X (by lia) l5 λc x h60 h61 v=>?_;right;refine dig v.gp (by lia) l5 λr x h70 h71 M=>?_;have x:=v.trans M;right;refine⟨du,λl hl=>?_⟩;have J6:=x.new (o:=.lst [.str "row",.str "heap"]) hl;have Sa:l≠p:=Step.ne x.gp hl;refine dig J6.gp (by decide) (by decide +kernel) λk Y Nl QI J7=>?_;have ab7:=J6.trans J7;obtain⟨u,ew3,hw3⟩:∃u:Str,ia [V.str "row",V.str "heap"] k=some (.str u)/\(u="row"\/u="heap"):=by
    have:k=0\/k=1:=by lia
    rcases this with rfl|rfl
    ·exact⟨_,aA (j:=0) rfl,.inl rfl⟩
    ·exact⟨_,aA (j:=1) rfl,.inr rfl⟩
   right;calc bu (J7.rest _ _ af Sa) ew3 ?_;right;calc⟨by show 3<=sizeLine;decide,λt ht=>?_⟩;have L:=ab7.new (o:=.tup [.int c,.int r,.str u]) ht;have Wy:=L.rest _ _ Rn VB;have eT:upd Y t (.tup [.int c,.int r,.str u]) t=some (.tup [.int c,.int r,.str u]):=af;have Z:=L.gp;have tA:=L.aV X;have sA:av H1 (upd Y t (.tup [.int c,.int r,.str u])):=L.over s5 U;generalize hGA:upd Y t (.tup [.int c,.int r,.str u])=GA at *;have tB:bS GA (upd GA G (.lst (m++[.ref t]))):=(bS.refl _).upd λys e=>by rw[Wy]at e;cases e
   refine⟨_,Wy,aH (by lia),⟨_,rfl⟩,Z.upd (Ne.symm VB),λb o e=>by rw[az (au e faw)];calc sA _ _ e,m++[.ref t],ws++[(c,r,u)],af,?_,by simp[gs],λw B=>?_⟩
   ·have h6:=((hW.aL tA).snoc (my (n:=0) eT (.int c) (.int r) (.str u))).aL tB;simpa[lW] using h6
   ·rcases List.mem_append.mp B with B | B
    ·exact LC w B
    ·simp only[List.mem_singleton]at B;subst B;exact⟨h60,h61,h70,h71,hw3⟩
  intro σ H5 tR;nofun;obtain⟨⟨W,rfl⟩,X,s5,m,ws,Rn,hW,gs,LC⟩:=tR;ac_rfl;have IP:m.length=ws.length:=by have:=hW.1;simpa using this
  have J5:=s5 _ _ Ww;have hM5:=hM.Kh s5.Kh;right;calc⟨a,ns,_,rfl,(s1.trans s5).seq hS,by lia,λv=>⟨v,rfl,λO xs1 K5 u=>?_⟩⟩;have s6:=av.new (.lst (xs1.map V.int)) K5;have hp6:eS (upd H5 O (.lst (xs1.map V.int))) O:=⟨_,af,u⟩
  generalize J2:upd H5 O (.lst (xs1.map V.int))=G6 at *;right;calc⟨aal _,λI u=>?_⟩;have s7:=av.new (.lst []) u;have QR:I≠O:=Step.ne hp6 u;have hp7:=hp6.same s7;have eal:upd G6 I (.lst []) I=some (.lst []):=af;have fal:H5 I=none:=s6.free u;have s57:=s6.trans s7;generalize VO:upd G6 I (.lst [])=G7 at *;calc mD O 13 rfl hp7 (by decide) (by decide +kernel) (λu M v x J6=>?_);refine⟨u,rfl,by lia,by lia,jH (n:=u.toNat) (λi σ H'=>(∃W z7 z8,σ=[some (.ref a),some (.int (1+g%5)),some (.ref am),some (.ref O),some (.ref G),W,some (.ref I),z7,z8])/\eS H' O/\av H5 H'/\∃(N:List V) (ls:List (Int×Int)),H' I=some (.lst N)/\iF H' 1 N (ls.map qK)/\ls.length<=i/\∀l∈ls,uV ws.length l) ?_ ?_ ?_⟩
  ·exact⟨⟨_,_,_,rfl⟩,J6.gp,J6.over s57 K5,[],[],J6.rest _ _ eal QR,iF.nil,K' _,λw B=>by simp at B⟩
  ·intro i σ Y hi wk;nofun;obtain⟨⟨W,z7,z8,rfl⟩,hp9,R,N,ls,J8,hL,yy,uB⟩:=wk;ac_rfl;have i:N.length=ls.length:=by have:=hL.1;simpa using this
   have i:=R _ _ Rn;right;calc⟨aal _,λl0 u=>?_⟩;have y:=av.new (.lst []) u;have IQ:=y _ _ i;have YK:upd Y l0 (.lst []) l0=some (.lst []):=af;have IS:=y _ _ J8;have Ro:=hp9.same y;have Et:=R.trans y;have Wz:=hL.aL y.aV;generalize VS:upd Y l0 (.lst [])=G10 at *
   cases ws with
   |nil=>
    have va:m=[]:=by simpa using IP
    subst va;calc .inl ⟨.inr ⟨_,_,_,_,rfl,rfl,.inr ⟨aU.of IQ,aU.of YK⟩,rfl,λj u v hu=>by simp at hu⟩,?_⟩;right
    try rw[if_neg Bool.false_ne_true]
    calc⟨⟨_,_,_,rfl,rfl,rfl⟩,Ro,Et,N,ls,IS,Wz,by lia,uB⟩
   |cons i u=>
    have i:0<(m.length:Int):=by rw[IP];simp
    have u:m.length<=10:=by lia
    calc .inr ⟨⟨_,_,by simp[IP],.inl ⟨aU.of IQ,aU.of YK⟩⟩,?_⟩;right
    try rw[if_pos trivial]
    calc bH _ (.inl ⟨_,aU.of IQ,rfl⟩) ?_;have u:((m.length:Nat):Int).natAbs.log2<9000:=HV i (by lia);calc dig Ro i u λc x acd ace v=>?_;right;calc dig v.gp (by decide) (by decide +kernel) λr M u x i=>?_;have x:=v.trans i;right;calc⟨Am,dig x.gp Qw Qx λe3 NC M acg u=>?_⟩;have i:=x.trans u;right;calc⟨du,λYQ v=>?_⟩;have Rp:=i.new (o:=.lst [.int r,.int e3]) v;have aci:YQ≠O:=Step.ne i.gp v;have acj:upd NC YQ (.lst [.int r,.int e3]) YQ=some (.lst [.int r,.int e3]):=af;generalize ack:upd NC YQ (.lst [.int r,.int e3])=G14 at *;have i:=Rp.rest _ _ IS QR;right;calc⟨.inl ⟨rfl,_,aU.of i⟩,?_⟩;calc dig Rp.gp (by decide) (by decide +kernel) λk NU Nl QI Ea=>?_;have Rq:=Rp.trans Ea;have i:(10:Int)^Int.toNat 60=1000000000000000000000000000000000000000000000000000000000000:=by decide +kernel
    rw[i]at acg;obtain⟨z,ez,hz0,zX⟩:∃z:Int,ia [V.int r,V.int e3] k=some (.int z)/\1-1000000000000000000000000000000000000000000000000000000000000<=z/\z<1000000000000000000000000000000000000000000000000000000000000:=by
     have:k=0\/k=1:=by lia
     rcases this with rfl|rfl
     ·exact⟨_,aA (j:=0) rfl,by lia,by lia⟩
     ·exact⟨_,aA (j:=1) rfl,by lia,by lia⟩
    right;calc bu (Ea.rest _ _ acj aci) ez ?_;right;calc⟨du,λt ht=>?_⟩;have L:=Rq.new (o:=.tup [.int c,.int z]) ht;have WD:=L.rest _ _ IS QR;have eT:upd NU t (.tup [.int c,.int z]) t=some (.tup [.int c,.int z]):=af;have Z:=L.gp;have tA:=L.aV Ro;have sA:av H5 (upd NU t (.tup [.int c,.int z])):=L.over Et K5;generalize hGA:upd NU t (.tup [.int c,.int z])=GA at *;have tB:bS GA (upd GA I (.lst (N++[.ref t]))):=(bS.refl _).upd λys e=>by rw[WD]at e;cases e
    refine⟨_,WD,aH (by lia),⟨_,_,_,rfl,rfl,rfl⟩,Z.upd (Ne.symm QR),λb o e=>by rw[az (au e fal)];calc sA _ _ e,N++[.ref t],ls++[(c,z)],af,?_,by simp;lia,λl hl=>?_⟩
    ·have h6:=((Wz.aL tA).snoc (eu (n:=0) eT (.int c) (.int z))).aL tB;simpa[qK] using h6
    ·rcases List.mem_append.mp hl with hl | hl
     ·exact uB l hl
     ·simp only[List.mem_singleton]at hl;subst hl;exact⟨acd,by have:=ace;rw[IP]at this;calc this,hz0,zX⟩
  intro σ Y HW;nofun;obtain⟨⟨W,z7,z8,rfl⟩,hp9,R,N,ls,J8,hL,yy,uB⟩:=HW;ac_rfl;right;calc⟨by show 3<=sizeLine;decide,λt ht=>?_⟩;have y:=av.new (.tup [.ref am,.ref G,.ref I]) ht;calc q t am G I mv m N gX ws ls _ (s1.trans (s5.trans (R.trans y))) af (y _ _ (R _ _ J5)) (y _ _ (R _ _ Rn)) (y _ _ J8) (hM5.Kh (R.trans y).Kh) (hW.aL (R.trans y).aV) (hL.aL y.aV) ⟨by lia,by lia,by lia,by lia,S,λw B=>?_,uB⟩;have e:((gX.length:Nat):Int)=1+g%5:=by lia
  rw[e];calc LC w B
def SR(M:Int)(ns row:List Int)(a:List bD):DV:=.tup [.int M,.lst (ns.map .int),.lst (row.map .int),.lst (a.map bD.dv)]
theorem i9(v:Val):uP v.dv:=by
 cases v<;>(calc .tup λe a=>?_;simp at a)<;>first|(rcases a with rfl|rfl;calc .str _;calc .int _)|(subst a;calc .str _)
theorem IV(d:bD):uP d.dv:=by
 cases d with
 |set i v=>calc .tup λe a=>?_;simp at a;rcases a with rfl|rfl|rfl;calc .str _;calc .int _;calc i9 v
 |add i v=>calc .tup λe a=>?_;simp at a;rcases a with rfl|rfl|rfl;calc .str _;calc .int _;calc i9 v
 |times i v=>calc .tup λe a=>?_;simp at a;rcases a with rfl|rfl|rfl;calc .str _;calc .int _;calc i9 v
 |put v=>calc .tup λe a=>?_;simp at a;rcases a with rfl|rfl;calc .str _;calc i9 v
 |drop=>calc .tup λe a=>?_;simp at a;subst a;calc .str _
 |send j v=>calc .tup λe a=>?_;simp at a;rcases a with rfl|rfl|rfl;calc .str _;calc .int _;calc i9 v
 |say v=>calc .tup λe a=>?_;simp at a;rcases a with rfl|rfl;calc .str _;calc i9 v
 |skip v w k=>calc .tup λe a=>?_;simp at a;rcases a with rfl|rfl|rfl|rfl;calc .str _;calc i9 v;calc i9 w;calc .int _
theorem jX:uP (.lst (ns.map .int)):=.lst λe a=>by
 obtain⟨z,_,rfl⟩:=List.mem_map.mp a;calc .int z
theorem vh{a:List bD}:uP (.lst (a.map bD.dv)):=.lst λe b=>by
 obtain⟨z,_,rfl⟩:=List.mem_map.mp b;calc IV z
theorem jw{n:Nat}{vs:List V}{b:List DV}(e:H a=some (.lst vs))(h:dM H n vs b):HD H (n+1) (.ref a) (.lst b):=.lst e h.1 h.2
theorem iF.MN{n:Nat}{vs:List V}{c:List DV}(h:iF H n vs c):dM H n vs c:=⟨h.1,λi v d a b=>(h.2 i v d a b).hd⟩
theorem Mf{K:W.Frag}{c:Addr}{d d':MD}(h:hJ H (.ref a) d.M d.ns d.row d.ds)(h':hJ H (.ref c) d'.M d'.ns d'.row d'.ds):∃b,Yk K H 19 a c b/\(b=true->SR d.M d.ns d.row d.ds=SR d'.M d'.ns d'.row d'.ds):=by
 obtain⟨t,u,v,w,L,e,n,p,q,r,s⟩:=h;obtain⟨L,t,u,v,w,z,j,i,k,l,A⟩:=h'
 cases e
 cases z;obtain⟨h,B,C⟩:=wb (K:=K) (H:=H) 4 (x:=.int d.M) (y:=.int d'.M) (m:=4) (.int _) (.int _) (.int _) (.int _);obtain⟨t,D,E⟩:=wb (K:=K) (H:=H) 4 (m:=4) (jw p (dM.ints d.ns)) (jw i (dM.ints d'.ns)) jX jX;obtain⟨u,F,G⟩:=wb (K:=K) (H:=H) 4 (m:=4) (jw q (dM.ints d.row)) (jw k (dM.ints d'.row)) jX jX;obtain⟨p,I,J⟩:=wb (K:=K) (H:=H) 4 (m:=4) (jw r ((s.MN).mono (by decide))) (jw l ((A.MN).mono (by decide))) vh vh;refine⟨_,⟨_,_,λi=>match i with
  |0=>h
  |1=>t
  |2=>u
  | _=>p,.inl ⟨bI.of n,bI.of j⟩,λi u v f g=>?_,rfl⟩,λo=>?_⟩
 ·match i,f,g with
  |0,f,g=>simp at f g;subst f g;calc B.mono (by decide)
  |1,f,g=>simp at f g;subst f g;calc D.mono (by decide)
  |2,f,g=>simp at f g;subst f g;calc F.mono (by decide)
  |3,f,g=>simp at f g;subst f g;calc I.mono (by decide)
  |(n+4),f,g=>simp at f
 ·simp[List.range_succ]at o;obtain⟨f,g,h,i⟩:=o;unfold SR;rw[C.mp f,E.mp g,G.mp h,J.mp i]
theorem Mg{C:Addr}{M c:Int}{a b:List Int}{d f:List bD}(e:SR M ns row d=SR c a b f)(h:iD C H m M ns row d):iD C H m c a b f:=by
 unfold SR at e;simp only[DV.tup.injEq,List.cons.injEq,DV.int.injEq,DV.lst.injEq,and_true]at e;obtain⟨g,i,j,k⟩:=e;obtain⟨l,st,dd,n,o,p⟩:=h;subst g;refine⟨l,st,dd,n,?_,?_⟩
 ·show HT H 2 st (.tup [.tup (a.map .int),.tup (b.map .int)]);rw[<-i,<-j];exact o
 ·rw[<-k];calc p
theorem kf{C:Addr}{M:Int}{a:List bD}(t:bS H H')(i:∀b c d e,H b=some (.ins c d e)->H' b=some (.ins c d e))(h:iD C H m M ns row a):iD C H' m M ns row a:=by
 obtain⟨a,st,dd,f,g,j⟩:=h;calc⟨a,st,dd,i _ _ _ _ f,g.aL t,j.aL t⟩
abbrev iM:Stmt:=top 73
inductive yY(C CN:Addr)(vs:List V)(H:Hp)(Q:VK):Prop
 |mk (x:V) (gX:List MD) (ws:List (Int×Int×Str)) (ls:List (Int×Int)) (h0:vs=[x]) (h1:ToldN H x gX ws ls) (h2:CA gX ws ls) (h3:∀n ms wv lv H',av H H'->wA C CN H' n ⟨gX,ws⟩->pM CN H' n ms wv lv->iF H' 1 lv (ls.map qK)->Q (.ref n) H'):yY C CN vs H Q
def vi(C CN:Addr):Sp:=λvs H Q _=>yY C CN vs H Q
theorem sX(D:dq K mg "_law_net_made" "_law_net_made" iM ["_law_net_here"])(T:Tx K mg C CN CR F FD)(pU:xO P w K mg base "Machine" C 7 ["self","modulus","numbers","row","deeds"] (B9 C))(IW:xO P w K mg base "Net" CN 7 ["self","machines","ways","letters"] (yK C CN)):Def P w K mg base "_law_net_made" 9 ["_law_net_here"] (vi C CN):=by
 have sc:aE ["_law_net_here","_law_machines","_law_k","_law_one"] ["_law_net_here"] (ay iM):=by walk_at "s"
 symm
 ·obtain⟨x,gX,ws,ls,rfl,hT,g,q⟩:=h;rfl
 ·nofun;obtain⟨x,gX,ws,ls,rfl,hT,g,q⟩:=h;ac_rfl;have u:=hr.units;refine⟨_,(aj (bb (i:=1) sc.nd rfl (by grind) (bF aa))
   (aj (fm PassesOwn.never rfl (lP rfl T.fb (ag (ak u (aq 0) ai) aa)) (iB (i:=2) (j:=3) rfl sc.nd rfl rfl (by grind) (by grind))
   (ao (aW (PW.pt (pw_and (aC o8 (aq 2) ai (aG _)) (pw_and1 (aC (Lp u) (aq 3) (ak u (ak u (aq 0) ai) ai) (aG _))))) (ao (bV (dA nJ qm qo bW (aq 1) (ag (ak u (aq 1) ai) aa)))) (ao (bV (dA nJ qm qo bW (aq 1) (ag (GZ pU hr (ag (ak u (aq 3) ai) (ag (dQ cK rfl T.e9 ze (ag (ak u (aq 3) ai) aa)) (ag (dQ cK rfl T.e9 ze (ag (ak u (aq 3) ai) aa)) (ag (dQ cK rfl T.e9 ze (ag (ak u (aq 3) ai) aa)) aa))))) aa)))))))
   (ao (aI (GZ IW hr (ag (aq 1) (ag (dQ cK rfl T.e9 ze (ag (ak u (aq 0) ai) aa)) (ag (dQ cK rfl T.e9 ze (ag (ak u (aq 0) ai) aa)) aa)))))))),?_⟩
  nofun;obtain⟨t,am,aw,al,mv,N,O,rfl,ht,Ww,Rn,J8,hM,hW,hL⟩:=id hT;ac_rfl;have aiI:mv.length<=5:=by have:=hM.1;have:=g.m5;lia
  left;calc⟨aal _,λy R=>?_⟩;have s0:=av.new (.lst []) R;have elm:upd H y (.lst []) y=some (.lst []):=af;generalize hG0:upd H y (.lst [])=G0 at *;left;refine eL (s0 _ _ ht) (aA (j:=0) rfl) ⟨true,mv,Sq.l (s0 _ _ Ww),nW (xs:=mv) (λi σ H'=>∃(z2 z3:Option V) (n:List Addr),σ=[some (V.ref t),some (V.ref y),z2,z3]/\av H H'/\H' y=some (.lst (n.map V.ref))/\n.length=i/\(∀(j:Nat) m d,n[j]?=some m->gX[j]?=some d->R9 C H' m d)) ?_ ?_ ?_ ?_⟩
  ·exact⟨_,_,[],rfl,s0,elm,rfl,λj m d e=>by simp at e⟩
  ·intro i σ H' j4;nofun;obtain⟨_,_,_,_,s1,_⟩:=j4;ac_rfl;exact Sq.l (s1 _ _ Ww)
  ·intro i x σ H' tt hx j5 VF;nofun;obtain⟨z2,z3,n,rfl,s1,Eg,Sl,zr⟩:=j5;have hiv:i < mv.length:=(List.getElem?_eq_some_iff.mp hx).1;have jR:i < gX.length:=by have:=hM.1;lia
   have J:=g.mg _ (aaf jR);have s2:=av.new (.tup [.int (i:Nat),x]) VF;have ett:upd H' tt (.tup [.int (i:Nat),x]) tt=some (.tup [.int (i:Nat),x]):=af;generalize J1:upd H' tt (.tup [.int (i:Nat),x])=G at *;ac_rfl;have oP:=s1.trans s2;have NV:=(hM.2 i x gX[i] hx (cP jR)).cv oP.cv;have S:=s2 _ _ Eg;calc zo (bI.of ett) ?_;nofun;obtain⟨ta,ln,lr,ld,xs,rfl,h1,h2,h3,h4,h5⟩:=id NV;ac_rfl;left;rename_i T2 U2 JY hU2;have mk:U2 [some (V.ref t),some (V.ref y),some (V.int ((i:Nat):Int)),some (V.ref ta)] G:=by
    clear JY T2;generalize hmd:gX[i]=r at *;left;calc⟨.inl ⟨rfl,_,aU.of S⟩,?_⟩;calc eL h1 (aA (j:=0) rfl) ?_;calc eL h1 (aA (j:=1) rfl) ?_;left;calc bH _ (.inl (aU.of h2)) (λI DZ=>?_);have s4:=av.new (.lst (r.ns.map V.int)) DZ;calc eL (s4 _ _ h1) (aA (j:=2) rfl) ?_;left;calc bH _ (.inl (aU.of (s4 _ _ h3))) (λL Dm=>?_);have YR:=av.new (.lst (r.row.map V.int)) Dm;calc eL (YR _ _ (s4 _ _ h1)) (aA (j:=3) rfl) ?_;left;calc bH _ (.inl (aU.of (YR _ _ (s4 _ _ h4)))) (λl3 Ke=>?_);have U:=av.new (.lst xs) Ke;have s46:=s4.trans (YR.trans U);have p:=U _ _ (YR _ _ (af (H:=G) (a:=I) (o:=.lst (r.ns.map V.int))));have B:=U _ _ (af (H:=upd G I (.lst (r.ns.map V.int))) (a:=L) (o:=.lst (r.row.map V.int)));have e3:upd (upd (upd G I (.lst (r.ns.map V.int))) L (.lst (r.row.map V.int))) l3 (.lst xs) l3=some (.lst xs):=af;generalize J2:upd (upd (upd G I (.lst (r.ns.map V.int))) L (.lst (r.row.map V.int))) l3 (.lst xs)=G6 at *;intro m W BM QM WE;have X:av G6 (upd (upd G6 W (.own m)) m (.ins C W [])):=λb o e=>by rw[az (au e BM),az (au e QM)];exact e
    have WG:=s46.trans X;calc⟨m,W,r.M,I,L,l3,r.ns,r.row,xs,r.ds,2,rfl,af,J.m2,J.m12,.inl (X _ _ p),.inl (X _ _ B),.inl (X _ _ e3),J.l1,J.l4,J.r12,J.bn,J.br,(h5.aL WG.aV).dl,by decide,J.Yl,J.ok,λH8 Ct hk=>⟨rfl,?_⟩⟩;have Y:av G H8:=λb o e=>hk b o (au (s46 _ _ e) BM) (WG _ _ e);have Ru:=Y _ _ S;left;calc ik _ Ru (aH (by simp;lia)) ?_;have t7:bS H8 (upd H8 y (.lst (n.map V.ref++[.ref m]))):=(bS.refl _).upd λzs e=>by rw[Ru]at e;cases e
    have i7:∀b c d e,H8 b=some (.ins c d e)->upd H8 y (.lst (n.map V.ref++[.ref m])) b=some (.ins c d e):=λb c d e h=>by
     rw[az (λz=>by subst z;rw[Ru]at h;cases h)];exact h
    left;refine⟨_,_,n++[m],⟨rfl,rfl⟩,λb o e=>?_,by rw[List.map_append];calc af,by simp[Sl],λj m' d p B=>?_⟩
    ·rw[az (au e R)];exact Y _ _ (oP _ _ e)
    ·by_cases hj:j < n.length
     ·rw[List.getElem?_append_left hj]at p;exact kf t7 i7 ((zr j m' d p B).same (s2.trans Y))
     ·rw[List.getElem?_append_right (by lia)] at p
      cases Cy:j-n.length with
      |succ k=>rw[Cy]at p;simp at p
      |zero=>
       rw[Cy]at p;nofun;obtain rfl:=Option.some.inj p;have R4:j=i:=by lia
       subst R4;rw[cP jR,hmd]at B;obtain rfl:=Option.some.inj B;ac_rfl;exact kf t7 i7 Ct
   by_cases h0:0<i
   ·rw[if_pos (by simpa using h0)];have WH:0 < gX.length:=by lia
    have WI:0<mv.length:=by lia
    have AV:=(hM.2 0 mv[0] gX[0] (cP WI) (cP WH)).cv oP.cv;have ht0:∃c,mv[0]=.ref c:=by
     nofun;obtain⟨c,_,_,_,_,e,_⟩:=AV;ac_rfl;exact⟨c,e⟩
    obtain⟨c,ec⟩:=ht0;rw[ec]at AV;calc eL (oP _ _ ht) (aA (j:=0) rfl) ?_;calc bu (oP _ _ Ww) (aA (j:=0) (v:=.ref c) (by rw[<-ec];calc cP WI)) ?_;obtain⟨b,hb1,Sd⟩:=Mf (K:=K) NV AV;refine US ta c b rfl rfl hb1 ?_
    cases b with
    |false=>rw[if_neg (by decide)];calc mk
    |true=>
     have Sd:=Sd rfl;rw[if_pos rfl];clear mk;left;calc⟨.inl ⟨rfl,_,aU.of S⟩,?_⟩;have QC:0<n.length:=by lia
     calc bu S (aA (j:=0) (v:=.ref n[0]) (by rw[List.getElem?_map,cP QC];rfl)) ?_;left;calc ik _ S (aH (by simp;lia)) ?_;have t7:bS G (upd G y (.lst (n.map V.ref++[.ref n[0]]))):=(bS.refl _).upd λzs e=>by rw[S]at e;cases e
     have i7:∀b c d e,G b=some (.ins c d e)->upd G y (.lst (n.map V.ref++[.ref n[0]])) b=some (.ins c d e):=λb c d e h=>by
      rw[az (λz=>by subst z;rw[S]at h;cases h)];exact h
     left;refine⟨_,_,n++[n[0]],⟨rfl,rfl⟩,λb o e=>?_,by rw[List.map_append];calc af,by simp[Sl],λj m' d p B=>?_⟩
     ·rw[az (au e R)];exact oP _ _ e
     ·by_cases hj:j < n.length
      ·rw[List.getElem?_append_left hj]at p;exact kf t7 i7 ((zr j m' d p B).same s2)
      ·rw[List.getElem?_append_right (by lia)] at p
       cases Cy:j-n.length with
       |succ k=>rw[Cy]at p;simp at p
       |zero=>
        rw[Cy]at p;nofun;obtain rfl:=Option.some.inj p;have R4:j=i:=by lia
        subst R4;rw[cP jR]at B;obtain rfl:=Option.some.inj B;ac_rfl;exact Mg Sd.symm (kf t7 i7 ((zr 0 n[0] gX[0] (cP QC) (cP WH)).same s2))
   ·rw[if_neg (by simpa using h0),if_neg (by decide)];exact mk
  ·intro σ H4 pD;nofun;obtain⟨z2,z3,n,rfl,s5,bL,Sl,zr⟩:=pD;ac_rfl;have mJ:n.length=gX.length:=by have:=hM.1;lia
   have Ar:=s5 _ _ ht;left;calc eL Ar (aA (j:=1) rfl) ?_;left;calc bH _ (.inl (aU.of (s5 _ _ Rn))) (λI DZ=>?_);have U:=av.new (.lst N) DZ;calc eL (U _ _ Ar) (aA (j:=2) rfl) ?_;left;calc bH _ (.inl (aU.of (U _ _ (s5 _ _ J8)))) (λL Dm=>?_);have X:=av.new (.lst O) Dm;have p:=X _ _ (af (H:=H4) (a:=I) (o:=.lst N));have B:upd (upd H4 I (.lst N)) L (.lst O) L=some (.lst O):=af;have tY:=U.trans X;generalize VO:upd (upd H4 I (.lst N)) L (.lst O)=G7 at *;have gs:N.length=ws.length:=by have:=hW.1;simpa using this
   have yy:O.length=ls.length:=by have:=hL.1;simpa using this
   intro x W hx QM WE;have s8:av G7 (upd (upd G7 W (.own x)) x (.ins CN W [])):=λb o e=>by rw[az (au e hx),az (au e QM)];exact e
   have s58:=s5.trans (tY.trans s8);have hgm:=g.m1;have aiM:=g.m5;have hgw:=g.X6;have Ay:=g.YM;refine⟨x,W,y,I,L,n,N,O,ws,ls,rfl,af,s8 _ _ (tY _ _ bL),s8 _ _ p,s8 _ _ B,by lia,by lia,by lia,by lia,λm hm=>?_,hW.aL s58.aV,hL.aL s58.aV,λw hw=>by rw[mJ];calc g.wo w hw,λl hl=>by rw[gs];calc g.lo l hl,λH9 hn9 hk9=>⟨rfl,?_⟩⟩
   ·nofun;obtain⟨j,hj,rfl⟩:=List.getElem_of_mem hm;obtain⟨DO,Fv,KQ,h1,_,_⟩:=(zr j _ gX[j] (cP hj) (cP (by lia))).same (tY.trans s8);ac_rfl;exact⟨_,_,h1⟩
   ·have SS:av H4 H9:=λb o e=>hk9 b o (au (tY _ _ e) hx) (s8 _ _ (tY _ _ e));have Z:=s5.trans SS;calc q x n N O H9 Z ⟨⟨n,N,O,hn9,mJ,λj m d a b=>(zr j m d a b).same SS,hW.aL Z.aV⟩,g.nt⟩ hn9 (hL.aL Z.aV)
def oK(n:NT)(r:RS)(w k:Nat):List Int:=match (r.ww w).snd.getD k none with
 |none=>(r.mm (n.goal w)).hr.bE (List.replicate n.ms.length 0)
 |some (s,c)=>List.zipWith max ((r.mm (n.goal w)).hr.bE (List.replicate n.ms.length 0)) ((r.mm s.toNat).hr.getD (c-1).toNat [])
theorem Mh{n:NT}{w k:Nat}:n.ij r w k=(oK n r w k).set (n.goal w) (n.ev r w).2:=rfl
theorem Mi{l:List Int}{m:Nat}{c:Int}{n:Nat}(a:l.length=n)(b:m<n):((List.range n).map λj=>V.int (l.getD j 0+(if decide (((j:Nat):Int)=((m:Nat):Int))=true then 1 else 0))).set m (.int c)=(l.set m c).map V.int:=by
 apply List.ext_getElem (by simp[a]);intro j b d;have e:j<n:=by simpa using b
 simp only[List.getElem_map,List.getElem_set,List.getElem_range];by_cases z:m=j
 ·rw[if_pos z,if_pos z]
 ·rw[if_neg z,if_neg z,if_neg (by simp;lia),getD_at (cP (by lia)),Int.add_zero]
theorem Rv{l:List (Option (Int×Int))}{k:Nat}{a:List (Key×V)}{v:V}(h:OR H0 (.d (kJ l) (l.countP Option.isSome)) (.dK a))(b:l[k]?=some none)(c:HD H0 4 v (pairD e)):OR H0 (.d (kJ (l.set k (some e))) ((l.set k (some e)).countP Option.isSome)) (.dK (putK a (Sum.inl ((k:Nat):Int)) v)):=by
 have f:k<l.length:=(List.getElem?_eq_some_iff.mp b).1;have g:gT a (Sum.inl ((k:Nat):Int))=none:=by
  have:=h.2 ((k:Nat):Int);have a:kJ l ((k:Nat):Int)=none:=by
   unfold kJ;rw[if_pos (by lia),Int.toNat_natCast,getD_at b];rfl
  rw[a]at this;exact this
 refine⟨?_,λj=>?_⟩
 ·rw[FZ v g,count_set b,List.length_append,List.length_singleton];have:=h.1;lia
 ·rw[IF f,FY];by_cases z:j=((k:Nat):Int)
  ·rw[if_pos z,if_pos (by rw[z])];exact⟨v,rfl,c⟩
  ·rw[if_neg z,if_neg (λq=>z (Sum.inl.inj q))];calc h.2 j
theorem Mj{r:RS}{n:NT}{w k:Nat}:∀t i,i<n.n t->setC (setC (setC (setC (setC r.tv 3 (n.goal w) (.l (((r.mm (n.goal w)).hr.map λu=>DV.lst (u.map .int))++[.lst ((n.ij r w k).map .int)]))) 6 w (.d (kJ ((r.ww w).ky.set k (some (n.ev r w)))) (((r.ww w).ky.set k (some (n.ev r w))).countP Option.isSome))) 1 (n.goal w) (.l ((r.mm (n.goal w)).di.map mC++[mC ((n.work r w k).ns,(n.work r w k).row)]))) 2 (n.goal w) (.l (((r.mm (n.goal w)).wp.map λu=>DV.lst (u.map .int))++[.lst (((r.mm (n.goal w)).wp.bE []++(n.work r w k).words).map .int)]))) 0 0 (.l (r.picks.map pairD++[pairD ((w:Int),(k:Int))])) t i=(r.step n w k).tv t i:=by
 intro t i a;unfold setC
 match t,a with
 |0,a=>
  have:i=0:=by have:i<1:=a;lia
  subst this;simp[RS.tv,RS.step]
 |1,_=>by_cases e:i=n.goal w<;>simp[RS.tv,RS.step,e]
 |2,_=>by_cases e:i=n.goal w<;>simp[RS.tv,RS.step,e]
 |3,_=>by_cases e:i=n.goal w<;>simp[RS.tv,RS.step,e]
 |4,_=>by_cases e:i=w<;>simp[RS.tv,RS.step,e]
 |5,_=>by_cases e:i=w<;>simp[RS.tv,RS.step,e]
 |6,_=>by_cases e:i=w<;>simp[RS.tv,RS.step,e]
 |(t+7),a=>calc absurd a (aao i)
theorem IX{r:RS}{n:NT}{w:Nat}{x:Int}{s:Option (Int×Int)}:∀t i,i<n.n t->setC (setC r.tv 4 w (.l ((r.ww w).say.map .int++[.int x]))) 5 w (.l ((r.ww w).snd.map wd++[wd s])) t i=(r.put w x s).tv t i:=by
 intro t i a;unfold setC
 match t,a with
 |0,_=>simp[RS.tv,RS.put]
 |1,_=>simp[RS.tv,RS.put]
 |2,_=>simp[RS.tv,RS.put]
 |3,_=>simp[RS.tv,RS.put]
 |4,_=>by_cases e:i=w<;>simp[RS.tv,RS.put,e]
 |5,_=>by_cases e:i=w<;>simp[RS.tv,RS.put,e]
 |6,_=>by_cases e:i=w<;>simp[RS.tv,RS.put,e,El]
 |(t+7),a=>calc absurd a (aao i)
theorem rB{H:Hp}{n:Nat}{v:V}{ns:List Int}(h:HD H n v (.lst (ns.map .int))):∃a,v=.ref a/\H a=some (.lst (ns.map V.int)):=by
 cases h with
 | @lst n a b _ e l i=>calc⟨a,rfl,by rw[e,show b=ns.map V.int from dM.mB ⟨l,i⟩]⟩
theorem IY{x y:HO}(h:a≠b):upd (upd H a x) b y=upd (upd H b y) a x:=by
 funext c;by_cases d:c=a
 ·subst d;rw[az h,af,af]
 ·by_cases e:c=b
  ·subst e;rw[af,az d,af]
  ·rw[az e,az d,az d,az e]
abbrev mX:Stmt:=top 72
inductive AW(vs:List V)(H:Hp)(Q:VK):Prop
 |mk (F:Addr->Prop) (d:Addr) (tn:V) (nt:NT) (r:RS) (ad:Nat->Nat->Addr) (wy k:Nat) (h0:vs=[.ref d,.int (wy:Nat),.int (k:Nat)]) (h1:cy F H d tn nt r ad) (h2:FS F H) (h3:r.Ok nt) (h4:r.VJ nt wy k) (h5:r.picks.length<=400) (h6:∀t H',Fr (FP nt.n ad) H H'->cy F H' d tn nt (r.pick nt wy k) ad->HT H' 1 t (pairD (nt.ev r wy))->Q t H'):AW vs H Q
def CC:Sp:=λvs H Q _=>AW vs H Q
theorem AX(D:dq K mg "_law_pick" "_law_pick" mX ["_law_run","_law_way","_law_number"])(T:Tx K mg C CN CR F FD)(kg:Def P w K mg base "_law_worked" 2 ["_law_machine_here","_law_state","_law_way","_law_said"] (Ck K)):Def P w K mg base "_law_pick" 3 ["_law_run","_law_way","_law_number"] CC:=by
 have sc:aE ["_law_run","_law_way","_law_number","_law_m","_law_place","_law_outs","_law_event","_law_state","_law_sent","_law_words","_law_row","_law_source","_law_c","_law_j","_law_said"] ["_law_run","_law_way","_law_number"] (ay mX):=by walk_at "s"
 symm
 ·obtain⟨F,d,tn,g,r,ad,m,k,rfl,N,lS,U,hc,Ee,q⟩:=h;rfl
 ·nofun;obtain⟨F,d,tn,g,r,ad,m,k,rfl,N,lS,U,hc,Ee,q⟩:=h;ac_rfl;have B:=hr.units;have HN:=lt1 B;refine⟨_,(aj (bb (i:=3) sc.nd rfl (by grind) (ak B (ak B (ak B (ak B (aq 0) aD) ai) (aq 1)) ai))
   (aj (bb (i:=4) sc.nd rfl (by grind) (dA nJ PySem.F.slot_list_index PySem.F.type_list_index uQ (dO (N':=["_law_k","_law_told","_law_m"]) (ix:=[none,none,some 3]) (lP rfl T.fb (ag (ak B (ak B (aq 0) aD) ai) aa)) (λ_ _ _ _=>(nZ (K:=K) rfl (i:=0) (j:=1) rfl (show(["_law_k","_law_told","_law_m"]:List Str).Nodup by decide +kernel) rfl rfl (by grind) (by grind))) (λ_ _ _ _=>(i3 (aC (om (K:=K) rfl B) (fZ (K:=K) rfl B (aq 1) ai) (aq 2) (aG _)))) (λ_ _ _ _=>(aq 0))) (ag (aq 1) aa)))
   (aj (iy (i:=5) sc.nd rfl (by grind) (N':=["_law_k","_law_told","_law_m"]) (ix:=[none,none,some 3]) (lP rfl T.fb (ag (ak B (ak B (aq 0) aD) ai) aa)) (λ_ _ _ _=>(nZ (K:=K) rfl (i:=0) (j:=1) rfl (show(["_law_k","_law_told","_law_m"]:List Str).Nodup by decide +kernel) rfl rfl (by grind) (by grind))) (λ_ _ _ _=>(i3 (aC (om (K:=K) rfl B) (fZ (K:=K) rfl B (aq 1) ai) (aq 2) (aG _)))) (λ_ _ _ _=>(aq 0)))
   (aj (bb (i:=6) sc.nd rfl (by grind) (bQ (ag (aq 3) (ag (bc aP rfl T.cp T' (ag (ak B (ak B (aq 0) aD) (aq 3)) aa)) aa))))
   (aj (fA (aM kg hr (ag (ak B (ak B (ak B (aq 0) aD) ai) (aq 3)) (ag (ak B (ak B (ak B (aq 0) aD) (aq 3)) (jI gu ai)) (ag (aq 4) (ag (ak B (ak B (ak B (aq 0) aD) (aq 1)) (aq 2)) aa))))) (ye (i:=7) (j:=8) (l:=9) rfl sc.nd rfl rfl rfl (by grind) (by grind) (by grind)))
   (aj (bb (i:=10) sc.nd rfl (by grind) (ak B (aQ cC (bF (ag (aQ Hf (bF (ag ai aa)) (bc aP rfl T.cp T' (ag (ak B (ak B (aq 0) aD) ai) aa))) aa)) (ak B (ak B (aq 0) aD) (aq 3))) (jI gu ai)))
   (aj (aW (aC uE (ak B (ak B (ak B (aq 0) aD) (aq 1)) (aq 2)) mi (aG _)) (aj (fA (ak B (ak B (ak B (aq 0) aD) (aq 1)) (aq 2)) (iB (i:=11) (j:=12) rfl sc.nd rfl rfl (by grind) (by grind)))
   (ao (Fq (i:=10) sc.nd rfl (by grind) (dO (N':=["_law_one","_law_other"]) (ix:=[none,none]) (GI rfl T.HE (ag (aq 10) (ag (ak B (ak B (ak B (aq 0) aD) (aq 11)) (aQ ei (aq 12) ai)) aa))) (λ_ _ _ _=>(nZ (K:=K) rfl (i:=0) (j:=1) rfl (show(["_law_one","_law_other"]:List Str).Nodup by decide +kernel) rfl rfl (by grind) (by grind))) qx (λ_ _ _ _=>(bc (Dv rfl) rfl T.Nf PyProof.Rows.boot_max (ag (aq 0) (ag (aq 1) aa))))) rfl))) aJ)
   (aj (bV (dA nJ qm qo bW (ak B (ak B (aq 0) aD) (aq 3)) (ag (dO (N':=["_law_k","_law_row","_law_m"]) (ix:=[none,some 10,some 3]) (dw rfl T.ff (ag (bc aP rfl T.cp T' (ag (aq 10) aa)) aa)) (λ_ _ _ _=>(ba (i:=0) (show(["_law_k","_law_row","_law_m"]:List Str).Nodup by decide +kernel) rfl (by grind))) qx (λ_ _ _ _=>(aQ cC (fZ (K:=K) rfl B (aq 1) (aq 0)) (dQ uj rfl T.yf XM (ag (ie (om (K:=K) rfl B) (aq 0) (aq 2) (aG _)) aa))))) aa)))
   (aj (fA (ak B (aq 6) ai) (jc (ak B (ak B (ak B (aq 0) aD) (aq 3)) (jI gu ai)) (aq 3) eI))
   (aj (lM HN (ak B (ak B (aq 0) aD) (aq 1)) (aq 2) (aq 6) rfl)
   (aj (bV (dA nJ qm qo bW (ak B (ak B (aq 0) aD) (aq 3)) (ag (aq 7) aa)))
   (aj (bV (dA nJ qm qo bW (ak B (ak B (aq 0) aD) (aq 3)) (ag (aQ cC (ak B (ak B (ak B (aq 0) aD) (aq 3)) (jI gu ai)) (aq 9)) aa)))
   (aj (bV (dA nJ qm qo bW (ak B (aq 0) aD) (ag (bQ (ag (aq 1) (ag (aq 2) aa))) aa)))
   (aj (fm PassesOwn.never rfl (cu (pv 8)) (iB (i:=13) (j:=14) rfl sc.nd rfl rfl (by grind) (by grind))
   (ao (aW (aC gU (aq 13) (bc aP rfl T.cp T' (ag (aq 5) aa)) (aG _)) (aj (bV (dA nJ qm qo bW (ak B (ak B (aq 0) aD) (ak B (aq 5) (aq 13))) (ag (aq 14) aa)))
   (ao (bV (dA nJ qm qo bW (ak B (ak B (aq 0) aD) (ak B (aq 5) (aq 13))) (ag (aq 6) aa))))) aJ)))
   (ao (aI (aq 6))))))))))))))))),?_⟩
  nofun;obtain⟨o,R,nF,nP,ho⟩:=N.dk;obtain⟨ls,tt,am,aw,al,mv,X,lv,rfl,h1,h2,h3,h4,h5,h6,h7⟩:=N.told;have g1:=(dS h1 (λk z=>by cases z)).2;have g2:=(dS h2 (λk z=>by cases z)).2;have g3:=(dS h3 (λk z=>by cases z)).2
  replace h5:=h5.cv fC
  replace h6:=h6.aL fC.aV
  have aZ:=N.ok;have M:=hc.lt;have I:=aZ.i5 M;have gs:X.length=g.ws.length:=by simpa using h6.1
  have mJ:mv.length=g.ms.length:=h5.1;have wt:X.length<=10:=by rw[gs];exact aZ.Ht
  have J5:g.ms.length<=5:=aZ.UQ;obtain⟨wk1,wk2,wk3,wk4⟩:=q8 aZ U M k;ac_rfl;have BS:k<(r.ww m).say.length:=by rw[U.lk m M];exact(List.getElem?_eq_some_iff.mp hc.lies).1
  left;calc bH _ (Ej R) ?_;left;calc eL g1 (aA (j:=1) rfl) ?_;have VM:g.ws[m]?=some (g.w m):=bA M;have aiO:m<X.length:=by lia
  have AE:=h6.2 m X[m] (lW (g.w m)) (by simp) (by rw[List.getElem?_map,VM];rfl);nofun;obtain⟨ta,u1,u2,u3,kk,eta,AF,q1,q2,q3⟩:=bY AE;obtain rfl:=q1.bR;obtain rfl:=q2.bR;obtain rfl:=q3.bN;ac_rfl;calc bu g3 (aA (j:=m) (v:=.ref ta) (by rw[<-eta];simp)) ?_;calc eL AF (show ia _ 1=some (.int ((g.goal m:Nat):Int)) from by rw[<-rq aZ M];calc aA (j:=1) rfl) ?_;left;calc bT ?_;left;calc bH _ (Ej ((av.refl H) _ _ R)) ?_;left;calc eL ((av.refl H) _ _ g1) (aA (j:=1) rfl) ?_;left;calc Hv true X (Sq.l ((av.refl H) _ _ g3)) (λD1 Ed=>?_);refine bz (J:=M6 true K aw) (n:=X.length) (λi ys H'=>av H H'/\ys=((List.range i).filter λj=>decide (oF g 1 j=((g.goal m:Nat):Int))).map λj=>V.int (j:Nat)) (L' (aH (by lia))) ⟨av.new _ Ed,rfl⟩ ?_ ?_ ?_ ?_
  ·rintro i ys H' W ⟨L,_⟩;exact⟨X,X[i],Sq.l (L _ _ ((av.refl H) _ _ g3)),cP W⟩
  ·rintro ys H' ⟨L,_⟩;exact⟨X,Sq.l (L _ _ ((av.refl H) _ _ g3)),rfl⟩
  ·intro i ys H' W S O j4 xx H4 j5;nofun;obtain⟨L,rfl⟩:=j4;obtain⟨t',IZ,rfl,y⟩:=j5;obtain⟨xw,ex,rfl⟩:=y X (Sq.l (L _ _ ((av.refl H) _ _ g3)));have yr:i < g.ws.length:=by lia
   have s2:=av.new (.tup [.int (i:Nat),xw]) IZ;have AE:=(h6.2 i xw (lW (g.w i)) ex (by rw[List.getElem?_map,show g.ws[i]?=some (g.w i) from bA yr];rfl)).aL (((av.refl H).trans L).trans s2).aV;have nK:upd H' t' (.tup [.int (i:Nat),xw]) t'=some (.tup [.int (i:Nat),xw]):=af;have yL:=s2 _ _ S;have oP:=L.trans s2;generalize hG:upd H' t' (.tup [.int (i:Nat),xw])=G at *;obtain⟨ta,u1,u2,u3,kk,rfl,AF,y1,y2,y3⟩:=bY AE;obtain rfl:=y1.bR;obtain rfl:=y2.bR;obtain rfl:=y3.bN;ac_rfl;calc zo (bI.of nK) ⟨Ext.set (Ext.set (Ext.refl _) rfl) rfl,?_⟩;left;calc eL AF (show ia _ 1=some (.int (oF g 1 i)) from aA (j:=1) rfl) ?_;left;by_cases z:oF g 1 i=((g.goal m:Nat):Int)
   ·rw[if_pos (by simp[z])];calc cJ yL O W (L' (aH (by lia))) ⟨λc o e=>by rw[az (au e Ed)];calc oP _ _ e,?_⟩;rw[fQ,if_pos (by simp[z]),List.map_append];rfl
   ·rw[if_neg (by simp[z])];exact⟨_,yL,by lia,oP,by rw[fQ,if_neg (by simp[z]),List.append_nil]⟩
  rintro ys H1 S O ⟨s1x,rfl⟩;rw[gs]at S;have H1e:H1 D1=some (.lst ((sM g 1 (g.goal m)).map λi=>V.int ((i:Nat):Int))):=S;have Ml:av H H1:=(av.refl H).trans s1x;clear S O;left;calc⟨.inl ⟨rfl,_,aU.of H1e⟩,?_⟩;obtain⟨ix1,ix2⟩:=sU (Iq aZ M);refine⟨D1,_,g.place m,m,rfl,rfl,by rw[H1e,vb],?_,?_,?_⟩
  ·rw[List.getElem?_map,<-oI aZ M,ix1];rfl
  ·intro i y W hy;rw[List.getElem?_map]at hy;nofun;obtain⟨z,hz,rfl⟩:=Option.map_eq_some_iff.mp hy;ac_rfl;have:=ix2 i z (by rw[oI aZ M];calc W) hz;lia
  left;calc bT ?_;left;calc bH _ (Ej (Ml _ _ R)) ?_;left;calc eL (Ml _ _ g1) (aA (j:=1) rfl) ?_;left;calc Hv true X (Sq.l (Ml _ _ g3)) (λD2 wZ=>?_);refine bz (J:=M6 true K aw) (n:=X.length) (λi ys H'=>av H1 H'/\ys=((List.range i).filter λj=>decide (oF g 0 j=((g.goal m:Nat):Int))).map λj=>V.int (j:Nat)) (L' (aH (by lia))) ⟨av.new _ wZ,rfl⟩ ?_ ?_ ?_ ?_
  ·rintro i ys H' W ⟨L,_⟩;exact⟨X,X[i],Sq.l (L _ _ (Ml _ _ g3)),cP W⟩
  ·rintro ys H' ⟨L,_⟩;exact⟨X,Sq.l (L _ _ (Ml _ _ g3)),rfl⟩
  ·intro i ys H' W S O pD xx H4 tP;nofun;obtain⟨L,rfl⟩:=pD;obtain⟨t',IZ,rfl,y⟩:=tP;obtain⟨xw,ex,rfl⟩:=y X (Sq.l (L _ _ (Ml _ _ g3)));have yr:i < g.ws.length:=by lia
   have s2:=av.new (.tup [.int (i:Nat),xw]) IZ;have AE:=(h6.2 i xw (lW (g.w i)) ex (by rw[List.getElem?_map,show g.ws[i]?=some (g.w i) from bA yr];rfl)).aL ((Ml.trans L).trans s2).aV;have nK:upd H' t' (.tup [.int (i:Nat),xw]) t'=some (.tup [.int (i:Nat),xw]):=af;have yL:=s2 _ _ S;have oP:=L.trans s2;generalize hG:upd H' t' (.tup [.int (i:Nat),xw])=G at *;obtain⟨ta,u1,u2,u3,kk,rfl,AF,y1,y2,y3⟩:=bY AE;obtain rfl:=y1.bR;obtain rfl:=y2.bR;obtain rfl:=y3.bN;ac_rfl;calc zo (bI.of nK) ⟨Ext.set (Ext.set (Ext.refl _) rfl) rfl,?_⟩;left;calc eL AF (show ia _ 0=some (.int (oF g 0 i)) from aA (j:=0) rfl) ?_;left;by_cases z:oF g 0 i=((g.goal m:Nat):Int)
   ·rw[if_pos (by simp[z])];calc cJ yL O W (L' (aH (by lia))) ⟨λc o e=>by rw[az (au e wZ)];calc oP _ _ e,?_⟩;rw[fQ,if_pos (by simp[z]),List.map_append];rfl
   ·rw[if_neg (by simp[z])];exact⟨_,yL,by lia,oP,by rw[fQ,if_neg (by simp[z]),List.append_nil]⟩
  rintro ys H2 S O ⟨s2x,rfl⟩;rw[gs]at S;have H2e:H2 D2=some (.lst ((sM g 0 (g.goal m)).map λi=>V.int ((i:Nat):Int))):=S;have YS:av H H2:=Ml.trans s2x;clear S O;left;calc bH _ (wG (YS _ _ R)) ?_;have o1:=ho 1 (by decide) (by decide);have o2:=ho 2 (by decide) (by decide);have o3:=ho 3 (by decide) (by decide);have o4:=ho 4 (by decide) (by decide);have o5:=ho 5 (by decide) (by decide);have o6:=ho 6 (by decide) (by decide);have i0:0<g.n 0:=by show 0<1;decide
  obtain⟨v1,e1,d1⟩:=N.cE.lst (t:=1) (i:=g.goal m) I rfl;have z1:v1.length=(r.mm (g.goal m)).di.length:=by simpa using d1.1
  have Vx:=U.we I;left;calc bu (YS _ _ o1.1) (aX I) ?_;calc ik _ (.inl ⟨_,aU.of (YS _ _ e1),rfl⟩) du (λev Yr=>?_);rw[z1];have Yq:=av.new (.tup [.int ((g.goal m:Nat):Int),.int (((r.mm (g.goal m)).di.length:Nat):Int)]) Yr;have Y:=YS.trans Yq;have acq:HT (upd H2 ev (.tup [.int ((g.goal m:Nat):Int),.int (((r.mm (g.goal m)).di.length:Nat):Int)])) 1 (.ref ev) (pairD (g.ev r m)):=eu (n:=0) af (.int _) (.int _);have acr:upd H2 ev (.tup [.int ((g.goal m:Nat):Int),.int (((r.mm (g.goal m)).di.length:Nat):Int)]) ev=some (.tup [.int ((g.goal m:Nat):Int),.int (((r.mm (g.goal m)).di.length:Nat):Int)]):=af;generalize QS:upd H2 ev (.tup [.int ((g.goal m:Nat):Int),.int (((r.mm (g.goal m)).di.length:Nat):Int)])=H3 at *;have H3o:=Yq _ _ H2e;left;calc bH _ (Ej (Y _ _ R)) ?_;left;calc eL (Y _ _ g1) (aA (j:=0) rfl) ?_;have aiT:g.goal m<mv.length:=by lia
  have emd:g.ms[g.goal m]?=some (g.ms.getD (g.goal m) default):=bA I;nofun;obtain⟨mt,ln,lr,ld,xsd,emt,t1,t2,t3,t4,t5⟩:=h5.2 (g.goal m) mv[g.goal m] _ (by simp) emd;ac_rfl;have Ef:=aZ.gd I;calc bu (Y _ _ g2) (aA (j:=g.goal m) (v:=.ref mt) (by rw[<-emt];simp)) ?_;calc bH _ (wG (Y _ _ R)) ?_;left;calc bu (Y _ _ o1.1) (aX I) ?_;obtain⟨sv,esv,dsv⟩:=d1.get (i:=(r.mm (g.goal m)).di.length-1) (d:=mC ((r.mm (g.goal m)).di.bE ([],[]))) (by rw[List.getElem?_map,jS (d:=([],[])) Vx];rfl);have Io:=(Co (dsv.cv fC)).aL Y.aV;calc bu (Y _ _ e1) (oH (by lia) (by rw[z1];calc esv)) ?_;left;calc bH _ (Ma (Y _ _ R)) ?_;nofun;obtain⟨v4,e4,d4⟩:=N.cE.lst (t:=4) (i:=m) M rfl;have z4:=d4.mB;subst z4;ac_rfl;left;calc bu (Y _ _ o4.1) (aX M) ?_;calc bu (Y _ _ e4) (aA (j:=k) (v:=.int ((r.ww m).say.getD k 0)) (by rw[List.getElem?_map,bA (d:=0) BS];rfl)) ?_;have sV:=U.last I;calc⟨mt,ln,lr,ld,sv,_,_,_,xsd,_,_,_,rfl,Y _ _ t1,Y _ _ t4,t5.aL Y.aV,xW.of Io,Ef.m2,Ef.m12,sV.bn,sV.lr,Ef.Yl,by rw[sV.ln];calc Ef.ok,λrx H4 NW QZ=>?_⟩;have YT:=Y.trans NW;nofun;obtain⟨rp,AI,Sh,Nz,zs,rfl,hrp,AJ,Q0,lX,AK,fl1,fl2,abm⟩:=QZ.ex
  replace AJ:HT H4 2 AI (wY (g.work r m k).ns (g.work r m k).row):=AJ
  replace lX:SL H4 zs (g.work r m k).cj:=lX
  replace AK:H4 Nz=some (.lst ((g.work r m k).words.map V.int)):=AK
  ac_rfl;have WJ:=acq.aL NW.aV;have acs:=NW _ _ acr;have H4o:=NW _ _ H3o;calc un3 (bI.of hrp) ?_;left;calc⟨by decide,λlz hlz=>?_⟩;have L4:=av.new (.lst [.int 0]) hlz;have elz:upd H4 lz (.lst [.int 0]) lz=some (.lst [.int 0]):=af;generalize QU:upd H4 lz (.lst [.int 0])=H5 at *;have ET:=YT.trans L4;calc bH _ (Ej (ET _ _ R)) ?_;left;calc eL (ET _ _ g1) (aA (j:=0) rfl) ?_;calc bH _ (.inl ⟨_,aU.of (ET _ _ g2),rfl⟩) ?_;calc Qm _ elz (by lia) (by lia) (λlq Mm=>?_);rw[Int.toNat_natCast,mJ];have Ys:=av.new (.lst (List.replicate g.ms.length (V.int 0))) Mm;have WK:upd H5 lq (.lst (List.replicate g.ms.length (V.int 0))) lq=some (.lst ((List.replicate g.ms.length 0).map V.int)):=by rw[af,List.map_replicate]
  generalize J2:upd H5 lq (.lst (List.replicate g.ms.length (V.int 0)))=H6 at *;calc⟨by decide,λla SU=>?_⟩;have tY:=av.new (.lst [.ref lq]) SU;have YU:upd H6 la (.lst [.ref lq]) la=some (.lst [.ref lq]):=af;generalize VO:upd H6 la (.lst [.ref lq])=H7 at *;have WG:=L4.trans (Ys.trans tY);have sH7:=YT.trans WG;calc bH _ (Mc (sH7 _ _ R)) ?_;obtain⟨v3,e3,d3⟩:=N.cE.lst (t:=3) (i:=g.goal m) I rfl;have z3:v3.length=(r.mm (g.goal m)).hr.length:=by simpa using d3.1
  have hlh:=U.lh _ I;have Yu:=U.bp _ I;left;calc bu (sH7 _ _ o3.1) (aX I) ?_;calc .inl ⟨_,_,YU,sH7 _ _ e3,L' (small (by simp;lia)),λlb hlb=>?_⟩;have s78:=av.new (.lst ([.ref lq]++v3)) hlb;have elb:upd H7 lb (.lst ([.ref lq]++v3)) lb=some (.lst ([.ref lq]++v3)):=af;generalize Yt:upd H7 lb (.lst ([.ref lq]++v3))=H8 at *;have s48:=WG.trans s78;have EY:=YT.trans s48;have WL:∃rl,ia ([V.ref lq]++v3) (-1)=some (.ref rl)/\H8 rl=some (.lst (((r.mm (g.goal m)).hr.bE (List.replicate g.ms.length 0)).map V.int)):=by
   by_cases h1:1<=(r.mm (g.goal m)).hr.length
   ·nofun;obtain⟨v,ev',dv⟩:=d3.get (i:=(r.mm (g.goal m)).hr.length-1) (d:=.lst (((r.mm (g.goal m)).hr.bE (List.replicate g.ms.length 0)).map .int)) (by rw[List.getElem?_map,jS (d:=List.replicate g.ms.length 0) h1];rfl);obtain⟨a,rfl,ea⟩:=rB (dv.cv fC);ac_rfl;calc⟨a,oH (by simp) ?_,EY _ _ ea⟩;rw[List.length_append,List.length_singleton,List.getElem?_append_right (by simp;lia)];rw[show 1+v3.length-1 - [V.ref lq].length=(r.mm (g.goal m)).hr.length-1 by simp;lia];exact ev'
   ·have ez:(r.mm (g.goal m)).hr=[]:=List.length_eq_zero_iff.mp (by lia);have ev3:v3=[]:=List.length_eq_zero_iff.mp (by lia);refine⟨lq,?_,?_⟩
    ·rw[ev3];exact oH (by simp) rfl
    ·rw[ez];show H8 lq=some (.lst (List.map V.int (List.getD ([]:List (List Int)) _ _)));exact s78 _ _ (tY _ _ WK)
  obtain⟨rl,erl,mQ⟩:=WL;calc bu elb erl ?_;left;calc bH _ (Mb (EY _ _ R)) ?_;obtain⟨v5,e5,d5⟩:=N.cE.lst (t:=5) (i:=m) M rfl;have QB:=U.ls m M;left;calc bu (EY _ _ o5.1) (aX M) ?_;obtain⟨v5k,ev5,YV⟩:=d5.get (i:=k) (d:=wd ((r.ww m).snd.getD k none)) (by rw[List.getElem?_map,bA (d:=none) (by lia)];rfl);calc bu (EY _ _ e5) (aA ev5) ?_;left;rename_i N2 hN2 T2 U2 JY hU2;have WM:(oK g r m k).length=g.ms.length:=by
   have:=yd aZ U M (k:=k);rw[Mh,List.length_set]at this;exact this
  have rest:∀(YW:Addr) (Ja yQ:Option V) (H9:Hp),av H8 H9->H9 YW=some (.lst ((oK g r m k).map V.int))->N2 [some (V.ref d),some (V.int ((m:Nat):Int)),some (V.int ((k:Nat):Int)),some (V.int ((g.goal m:Nat):Int)),some (V.int ((g.place m:Nat):Int)),some (V.ref D2),some (V.ref ev),some AI,some (V.ref Sh),some (V.ref Nz),some (V.ref YW),Ja,yQ,none,none] H9:=by
   clear JY hU2 T2 U2;intro YW Ja yQ H9 s89 WN;have SS:=s48.trans s89;have NX:=YT.trans SS;have b9:=N.cE.same NX;left;calc bH _ (Mc (NX _ _ R)) ?_;left;calc bu (NX _ _ o3.1) (aX I) ?_;calc⟨.inl ⟨rfl,_,aU.of (NX _ _ e3)⟩,?_⟩;calc bT ?_;left;calc bH _ (.inl ⟨_,aU.of WN,rfl⟩) ?_;left;rw[List.length_map,WM];calc gW (by lia) (by lia) (λO WO=>?_);rw[Int.toNat_natCast];refine bz (J:=Bg 0 g.ms.length) (n:=g.ms.length) (λi ys H'=>av H9 H'/\ys=(List.range i).map λj=>V.int ((oK g r m k).getD j 0+(if decide (((j:Nat):Int)=((g.goal m:Nat):Int))=true then 1 else 0))) (L' (aH (by lia))) ⟨av.new _ WO,rfl⟩ (λi ys H' W _=>W) (λys H' _=>K' _) ?_ ?_
   ·intro i ys H' W S kM tR x H2' wk;nofun;obtain⟨L,rfl⟩:=tR;obtain⟨rfl,rfl⟩:=wk;ac_rfl;walk_at "xf";left
    try rw[if_pos trivial]
    calc bu (L _ _ WN) (show ia _ (0+(i:Int))=some (.int ((oK g r m k).getD i 0)) from by rw[Int.zero_add];calc aA (by rw[List.getElem?_map,bA (d:=0) (by lia)];rfl)) ?_;refine .inr ?_
    try rw[Int.zero_add]
    calc cJ S kM W (L' (aH (by lia))) ⟨λc o e=>by rw[az (au e WO)];calc L _ _ e,?_⟩;rw[List.range_succ,List.map_append];rfl
   rintro ys zp S kM ⟨Et,rfl⟩;clear kM;have Eu:=NX.trans Et;left;calc ik v3 (Eu _ _ e3) (small (by lia)) ?_;left;have nA:ad 3 (g.goal m)≠O:=λz=>by have:=NX _ _ e3;rw[z,WO]at this;cases this
   have kA:∀b o,b≠ad 3 (g.goal m)->zp b=some o->upd zp (ad 3 (g.goal m)) (.lst (v3++[.ref O])) b=some o:=λb o n e=>by rw[az n];exact e
   have Jb:∀{b:Addr} {o:HO},zp b=some o->¬FP g.n ad b->b≠ad 3 (g.goal m):=λ{b o} _ h z=>h ⟨3,g.goal m,I,z⟩;have NY:=Et _ _ (SS _ _ acs);have nev:ev≠ad 3 (g.goal m):=λz=>by have:=Eu _ _ e3;rw[<-z,NY]at this;cases this
   calc eL (kA _ _ nev NY) (aA (j:=1) rfl) ?_;calc bH _ (Mc (kA _ _ (Jb (Eu _ _ R) nP) (Eu _ _ R))) ?_;left;calc bu (kA _ _ (Jb (Eu _ _ o3.1) o3.2.2) (Eu _ _ o3.1)) (aX I) ?_;calc bu af jM ?_;left;calc⟨_,g.goal m,kA _ _ (Ne.symm nA) S,Cq (by simp;lia),?_⟩;rw[Mi WM I,show(oK g r m k).set (g.goal m) (((r.mm (g.goal m)).di.length:Nat):Int)=g.ij r m k from rfl,IY nA];have sK:av H9 (upd zp O (.lst ((g.ij r m k).map V.int))):=λb o e=>by rw[az (au e WO)];exact Et _ _ e
   have eK:upd zp O (.lst ((g.ij r m k).map V.int)) O=some (.lst ((g.ij r m k).map V.int)):=af;generalize hGK:upd zp O (.lst ((g.ij r m k).map V.int))=WQ at *;have YX:=NX.trans sK;have bK:=N.cE.same YX;have FSK:FS F WQ:=lS.fr (Z:=λ_=>False) YX.fr (λ_ _ h=>h);have fresh:∀{b:Addr},H9 b=none->¬(F b\/FP g.n ad b):=λ{b} hb z=>by
    rcases z with z|z
    ·obtain⟨o,e,_⟩:=lS b z;rw[NX _ _ e]at hb;cases hb
    ·obtain⟨o,e,_⟩:=b9.fp z;rw[e]at hb;cases hb
   have e3K:=YX _ _ e3;have NB:=bK.app (t:=3) (i:=g.goal m) I rfl e3K (dM.one (show HD _ 4 (.ref O) (.lst ((g.ij r m k).map .int)) from .lst (by rw[gV (fresh WO)];calc eK) (by simp) (λi u e B he=>(dM.ints (H:=jR (λb=>F b\/FP g.n ad b) WQ) (n:=3) (g.ij r m k)).2 i u e B he)));have AL:Fr (FP g.n ad) H (upd WQ (ad 3 (g.goal m)) (.lst (v3++[.ref O]))):=YX.fr.upd ⟨3,g.goal m,I,rfl⟩ e3K trivial;have WR:Fr (FP g.n ad) H4 (upd WQ (ad 3 (g.goal m)) (.lst (v3++[.ref O]))):=(SS.trans sK).fr.upd ⟨3,g.goal m,I,rfl⟩ e3K trivial;generalize VT:upd WQ (ad 3 (g.goal m)) (.lst (v3++[.ref O]))=Cu at *;have acx:FS F Cu:=lS.fr AL N.cE.sR;clear kA Jb;left;calc bH _ (Wu (AL.at R nP)) ?_;obtain⟨YI,e6,d6⟩:=NB.dct (t:=6) (i:=m) M rfl;have hlk:=U.lk m M;have hbs:=U.bs m M;left;calc bu (AL.at o6.1 o6.2.2) (aX M) ?_;have RW:((r.ww m).ky.countP Option.isSome)<=(r.ww m).ky.length:=List.countP_le_length;have h6l:=d6.1;calc⟨ad 6 m,_,rfl,tH.k (k:=Sum.inl ((k:Nat):Int)) e6 (small (by lia)),?_⟩;have Q2:=NB.upd (t:=6) (i:=m) M (Rv d6 hc.lies ((NB.ht acx (WJ.aL WR.aV)).mono (by decide)));have Kf:Fr (FP g.n ad) H (upd Cu (ad 6 m) (.dK (putK YI (Sum.inl ((k:Nat):Int)) (.ref ev)))):=AL.upd ⟨6,m,M,rfl⟩ e6 trivial;have WT:Fr (FP g.n ad) H4 (upd Cu (ad 6 m) (.dK (putK YI (Sum.inl ((k:Nat):Int)) (.ref ev)))):=WR.upd ⟨6,m,M,rfl⟩ e6 trivial;generalize VW:upd Cu (ad 6 m) (.dK (putK YI (Sum.inl ((k:Nat):Int)) (.ref ev)))=Iv at *;have acy:FS F Iv:=lS.fr Kf N.cE.sR;left;calc bH _ (wG (Kf.at R nP)) ?_;obtain⟨WU,WV,d1'⟩:=Q2.lst (t:=1) (i:=g.goal m) I rfl;have z1':WU.length=(r.mm (g.goal m)).di.length:=by simpa using d1'.1
   left;calc bu (Kf.at o1.1 o1.2.2) (aX I) ?_;calc⟨.inl ⟨rfl,_,aU.of WV⟩,?_⟩;left;calc ik WU WV (small (by lia)) ?_;have YY:=Q2.app (t:=1) (i:=g.goal m) I rfl WV (dM.one (show HD _ 4 AI (mC ((g.work r m k).ns,(g.work r m k).row)) from(Q2.ht acy (AJ.aL WT.aV)).mono (by decide)));have L5:Fr (FP g.n ad) H (upd Iv (ad 1 (g.goal m)) (.lst (WU++[AI]))):=Kf.upd ⟨1,g.goal m,I,rfl⟩ WV trivial;have WW:Fr (FP g.n ad) H4 (upd Iv (ad 1 (g.goal m)) (.lst (WU++[AI]))):=WT.upd ⟨1,g.goal m,I,rfl⟩ WV trivial;generalize ai6:upd Iv (ad 1 (g.goal m)) (.lst (WU++[AI]))=NC at *;have acz:FS F NC:=lS.fr L5 N.cE.sR;left;calc bH _ (Ek (L5.at R nP)) ?_;obtain⟨v2,e2,d2⟩:=YY.lst (t:=2) (i:=g.goal m) I rfl;have z2:v2.length=(r.mm (g.goal m)).wp.length:=by simpa using d2.1
   have hlw:=U.lw _ I;left;calc bu (L5.at o2.1 o2.2.2) (aX I) ?_;calc⟨.inl ⟨rfl,_,aU.of e2⟩,?_⟩;calc bH _ (Ek (L5.at R nP)) ?_;left;calc bu (L5.at o2.1 o2.2.2) (aX I) ?_;nofun;obtain⟨vw,evw,dvw⟩:=d2.get (i:=(r.mm (g.goal m)).wp.length-1) (d:=.lst (((r.mm (g.goal m)).wp.bE []).map .int)) (by rw[List.getElem?_map,jS (d:=[]) (by lia)];rfl);obtain⟨lw,rfl,WX⟩:=rB (dvw.cv fC);ac_rfl;calc bu e2 (oH (by lia) (by rw[z2];calc evw)) ?_;have Iu:¬FP g.n ad Sh:=λz=>by
    obtain⟨u,e,_⟩:=(N.cE.same Y).fp z;rw[fl1]at e;cases e
   have Q1:¬FP g.n ad Nz:=λz=>by
    obtain⟨u,e,_⟩:=(N.cE.same Y).fp z;rw[fl2]at e;cases e
   have hbw:=U.bw _ I _ (ip (l:=(r.mm (g.goal m)).wp) (d:=[]) (by lia));calc .inl ⟨_,_,WX,WW.at AK Q1,L' (small (by simp;lia)),λnw hnw=>?_⟩;have sY:=av.new (.lst (((r.mm (g.goal m)).wp.bE []).map V.int++(g.work r m k).words.map V.int)) hnw;have enw:upd NC nw (.lst (((r.mm (g.goal m)).wp.bE []).map V.int++(g.work r m k).words.map V.int)) nw=some (.lst (((r.mm (g.goal m)).wp.bE []++(g.work r m k).words).map V.int)):=by rw[af,List.map_append]
   generalize ack:upd NC nw (.lst (((r.mm (g.goal m)).wp.bE []).map V.int++(g.work r m k).words.map V.int))=WZ at *;have f14:=L5.trans sY.fr;have acB:=WW.trans sY.fr;have b14:=YY.same sY;have ajb:FS F WZ:=lS.fr f14 N.cE.sR;have nnw:¬(F nw\/FP g.n ad nw):=λz=>by
    rcases z with z|z
    ·obtain⟨o,e,_⟩:=acz nw z;rw[hnw]at e;cases e
    ·obtain⟨o,e,_⟩:=YY.fp z;rw[hnw]at e;cases e
   left;calc ik v2 (sY _ _ e2) (small (by lia)) ?_;have b15:=b14.app (t:=2) (i:=g.goal m) I rfl (sY _ _ e2) (dM.one (show HD _ 4 (.ref nw) (.lst (((r.mm (g.goal m)).wp.bE []++(g.work r m k).words).map .int)) from .lst (by rw[gV nnw];calc enw) (by simp) (λi u e B he=>(dM.ints (H:=jR (λb=>F b\/FP g.n ad b) WZ) (n:=3) ((r.mm (g.goal m)).wp.bE []++(g.work r m k).words)).2 i u e B he)));have f15:Fr (FP g.n ad) H (upd WZ (ad 2 (g.goal m)) (.lst (v2++[.ref nw]))):=f14.upd ⟨2,g.goal m,I,rfl⟩ (sY _ _ e2) trivial;have acE:Fr (FP g.n ad) H4 (upd WZ (ad 2 (g.goal m)) (.lst (v2++[.ref nw]))):=acB.upd ⟨2,g.goal m,I,rfl⟩ (sY _ _ e2) trivial;generalize ajd:upd WZ (ad 2 (g.goal m)) (.lst (v2++[.ref nw]))=H15 at *;have aje:FS F H15:=lS.fr f15 N.cE.sR;left;calc bH _ (ab0 (f15.at R nP)) ?_;obtain⟨v0,e0,d0⟩:=b15.lst (t:=0) (i:=0) i0 rfl;have z0:v0.length=r.picks.length:=by simpa using d0.1
   left;calc gW (.inl ⟨rfl,_,aU.of e0⟩) du (λtp BJ=>?_);have CF:=av.new (.tup [.int ((m:Nat):Int),.int ((k:Nat):Int)]) BJ;have W0:HT (upd H15 tp (.tup [.int ((m:Nat):Int),.int ((k:Nat):Int)])) 1 (.ref tp) (pairD ((m:Int),(k:Int))):=eu (n:=0) af (.int _) (.int _);generalize ajf:upd H15 tp (.tup [.int ((m:Nat):Int),.int ((k:Nat):Int)])=NU at *;have f16:=f15.trans CF.fr;have acG:=acE.trans CF.fr;have b16:=b15.same CF;have acI:FS F NU:=lS.fr f16 N.cE.sR;have Mn:=CF _ _ e0;left;calc ik v0 Mn (small (by lia)) ?_;have b17:=b16.app (t:=0) (i:=0) i0 rfl Mn (dM.one ((b16.ht acI W0).mono (by decide)));have f17:Fr (FP g.n ad) H (upd NU (ad 0 0) (.lst (v0++[.ref tp]))):=f16.upd ⟨0,0,i0,rfl⟩ Mn trivial;have Mo:Fr (FP g.n ad) H4 (upd NU (ad 0 0) (.lst (v0++[.ref tp]))):=acG.upd ⟨0,0,i0,rfl⟩ Mn trivial;generalize ajg:upd NU (ad 0 0) (.lst (v0++[.ref tp]))=H17 at *;have acL:cy F H17 d (.ref tt) g (r.step g m k) ad:=N.own f17 (b17.congr Mj);have NZ:SL H17 zs (g.work r m k).cj:=lX.aL Mo.aV;have W2:=Mo.at Q0 Iu;have N0:=WJ.aL Mo.aV;have nD2:¬FP g.n ad D2:=λz=>by
    obtain⟨u,e,_⟩:=(N.cE.same Ml).fp z;rw[wZ]at e;cases e
   have acN:=Mo.at H4o nD2;clear b9 bK NB Q2 YY b14 b15 b16 b17 d0 d1' d2 d6;left;have hzl:zs.length=(g.work r m k).cj.length:=NZ.1;have Q3:=U.step aZ M (k:=k);have Q4:∀a c,some (g.ev r m)=some (a,c)->0<=a/\a<g.ms.length/\1<=c/\c<=((r.step g m k).mm a.toNat).hr.length:=Cr aZ U M;refine⟨_,rfl,.inl ⟨⟨_,aU.of W2⟩,ir (K:=K) (xs:=zs) (λi σ H'=>(∃Q5 z14,σ=[some (V.ref d),some (V.int ((m:Nat):Int)),some (V.int ((k:Nat):Int)),some (V.int ((g.goal m:Nat):Int)),some (V.int ((g.place m:Nat):Int)),some (V.ref D2),some (V.ref ev),some AI,some (V.ref Sh),some (V.ref Nz),some (V.ref YW),Ja,yQ,Q5,z14])/\Fr (FP g.n ad) H17 H'/\cy F H' d (.ref tt) g ((r.step g m k).send (g.outs (g.goal m)) (g.ev r m) ((g.work r m k).cj.take i)) ad) ?_ ?_ ?_ ?_⟩⟩
   ·exact⟨⟨_,_,rfl⟩,Fr.refl,acL⟩
   ·rintro i σ H' W ⟨_,fi,_⟩;exact aU.of (fi.at W2 Iu)
   ·intro i z σ H' hz HW;nofun;obtain⟨⟨Q5,z14,rfl⟩,fi,CG⟩:=HW;have Cc:i < zs.length:=(List.getElem?_eq_some_iff.mp hz).1;have V1:i < (g.work r m k).cj.length:=by lia
    have EW:(g.work r m k).cj[i]?=some (g.work r m k).cj[i]:=cP V1;have hp0:=wk4 _ (aaf V1);have Q6:=(NZ.2 i z _ hz EW).aL fi.aV;have L6:(r.step g m k).send (g.outs (g.goal m)) (g.ev r m) ((g.work r m k).cj.take (i+1))=((r.step g m k).send (g.outs (g.goal m)) (g.ev r m) ((g.work r m k).cj.take i)).send (g.outs (g.goal m)) (g.ev r m) [(g.work r m k).cj[i]]:=by
     rw[List.take_succ,EW];exact pO _
    have AM:=(RS.tx.send (outs:=g.outs (g.goal m)) (ev:=g.ev r m) ((g.work r m k).cj.take i) Q3 Q4).mono (show _<=19998 by simp;lia);generalize (g.work r m k).cj[i]=p at *;obtain⟨pj,px⟩:=p;obtain⟨tz,u1,u2,kz,rfl,zY,y1,y2⟩:=cD Q6;obtain rfl:=y1.bR;obtain rfl:=y2.bR;ac_rfl;calc zo (bI.of zY) ?_;have eDi:=fi.at acN nD2;left;calc bH _ (.inl ⟨_,aU.of eDi,rfl⟩) ?_;left;have hlen:((sM g 0 (g.goal m)).map λi=>V.int ((i:Nat):Int)).length=(g.outs (g.goal m)).length:=by rw[List.length_map];rfl
    rw[hlen];have ej:((pj.toNat:Nat):Int)=pj:=Int.toNat_of_nonneg hp0;by_cases lU:pj<((g.outs (g.goal m)).length:Nat)
    ·rw[if_pos (by simpa using lU)];have Na:pj.toNat < (g.outs (g.goal m)).length:=by lia
     have rz:(g.outs (g.goal m)).getD pj.toNat 0<g.ws.length:=by
      have:=getD_mem (d:=0) Na;unfold NT.outs at this ⊢;rw[List.mem_filter,List.mem_range]at this;exact this.1
     have yE:ia ((sM g 0 (g.goal m)).map λi=>V.int ((i:Nat):Int)) pj=some (.int (((g.outs (g.goal m)).getD pj.toNat 0:Nat):Int)):=by
      rw[<-ej];calc aA ?_;rw[List.getElem?_map];show Option.map _ (g.outs (g.goal m))[_]?=_;rw[Int.toNat_natCast,bA (d:=0) Na];rfl
     nofun;obtain⟨ow,how⟩:∃ow,ow=(g.outs (g.goal m)).getD pj.toNat 0:=⟨_,rfl⟩
     rw[<-how]at rz yE;generalize hri:(r.step g m k).send (g.outs (g.goal m)) (g.ev r m) ((g.work r m k).cj.take i)=ri at *;obtain⟨oi,W3,nFi,nPi,W4⟩:=CG.dk;have oi4:=W4 4 (by decide) (by decide);have W5:=W4 5 (by decide) (by decide);have bi:=CG.cE;obtain⟨w4,x4,y4⟩:=bi.lst (t:=4) (i:=ow) rz rfl;ac_rfl;have l4:w4.length=(ri.ww ow).say.length:=by simpa using y4.1
     have hb4:=AM.bs ow rz;have hb5:=AM.ls ow rz;left;calc bH _ (Ma W3) ?_;left;calc bu eDi yE ?_;calc bu oi4.1 (aX rz) ?_;calc⟨.inl ⟨rfl,_,aU.of x4⟩,?_⟩;left;calc ik w4 x4 (small (by lia)) ?_;have bj:=bi.app (t:=4) (i:=ow) rz rfl x4 (dM.one (.int px));have fj:Fr (FP g.n ad) H' (upd H' (ad 4 ow) (.lst (w4++[.int px]))):=Fr.refl.upd ⟨4,ow,rz,rfl⟩ x4 trivial;generalize hGj:upd H' (ad 4 ow) (.lst (w4++[.int px]))=Hj at *;obtain⟨w5,x5,y5⟩:=bj.lst (t:=5) (i:=ow) rz rfl;have l5:w5.length=(ri.ww ow).snd.length:=by simpa using y5.1
     left;calc bH _ (Mb (fj.at W3 nPi)) ?_;left;calc bu (fj.at eDi nD2) yE ?_;calc bu (fj.at W5.1 W5.2.2) (aX rz) ?_;calc⟨.inl ⟨rfl,_,aU.of x5⟩,?_⟩;left;calc ik w5 x5 (small (by lia)) ?_;have FSj:FS F Hj:=lS.fr ((f17.trans fi).trans fj) N.cE.sR;have bk:=bj.app (t:=5) (i:=ow) rz rfl x5 (dM.one (show HD _ 4 (.ref ev) (wd (some (g.ev r m))) from(bj.ht FSj ((N0.aL fi.aV).aL fj.aV)).mono (by decide)));have fk:Fr (FP g.n ad) H' (upd Hj (ad 5 ow) (.lst (w5++[.ref ev]))):=fj.upd ⟨5,ow,rz,rfl⟩ x5 trivial;left;calc gW ⟨_,_,rfl,rfl⟩ (fi.trans fk) ?_;rw[L6];show cy F _ d _ g (if pj.toNat<_ then _ else _) ad;rw[if_pos Na];show cy F _ d _ g (ri.put ((g.outs (g.goal m)).getD pj.toNat 0) px (some (g.ev r m))) ad;rw[<-how];exact CG.own fk (bk.congr IX)
    ·rw[if_neg (by simpa using lU)];left;calc gW ⟨_,_,rfl,rfl⟩ fi ?_;rw[L6];show cy F H' d _ g (if pj.toNat<_ then _ else _) ad;rw[if_neg (by lia)];exact CG
   ·intro σ H' LM;nofun;obtain⟨⟨Q5,z14,rfl⟩,fi,CG⟩:=LM;ac_rfl;left;rw[hzl,List.take_length]at CG;exact q _ _ (f17.trans fi) CG (N0.aL fi.aV)
  clear hN2
  cases LR:(r.ww m).snd.getD k none with
  |none=>
   rw[LR]at YV;have:=Ip YV;subst this;left
   try rw[if_neg (by decide)]
   left;calc rest rl _ _ H8 (av.refl _) ?_;unfold oK;rw[LR];calc mQ
  |some sc=>
   nofun;obtain⟨s0,c0⟩:=sc;rw[LR]at YV;obtain⟨ae,rfl,Yg⟩:=Cn (YV.cv fC);have acS:=EY _ _ Yg;have xE:some (s0,c0)∈(r.ww m).snd:=by rw[<-LR];exact getD_mem (by lia)
   obtain⟨q1,q2,q3,q4⟩:=U.sd m M s0 c0 xE;ac_rfl;left
   try rw[if_pos (by decide)]
   left;calc bH _ (Mb (EY _ _ R)) ?_;left;calc bu (EY _ _ o5.1) (aX M) ?_;calc bu (EY _ _ e5) (aA ev5) ?_;calc zo (bI.of acS) ?_;left;calc bT ?_;left;calc bH _ (Mc (EY _ _ R)) ?_;have hsm:s0.toNat<g.ms.length:=by lia
   have es0:((s0.toNat:Nat):Int)=s0:=Int.toNat_of_nonneg q1;have ec0:(((c0-1).toNat:Nat):Int)=c0-1:=Int.toNat_of_nonneg (by lia);left;calc bu (EY _ _ o3.1) (show ia _ s0=some (.ref (ad 3 s0.toNat)) from by have:=aX (n:=g.n) (ad:=ad) (t:=3) hsm;rw[es0]at this;calc this) ?_;nofun;obtain⟨vs3,es3,ds3⟩:=N.cE.lst (t:=3) (i:=s0.toNat) hsm rfl;obtain⟨vr,evr,dvr⟩:=ds3.get (i:=(c0-1).toNat) (d:=.lst (((r.mm s0.toNat).hr.getD (c0-1).toNat []).map .int)) (by rw[List.getElem?_map,bA (d:=[]) (by lia)];rfl);obtain⟨lo,rfl,elo⟩:=rB (dvr.cv fC);ac_rfl;calc bu (EY _ _ es3) (show ia _ (c0-1)=some (.ref lo) from by rw[<-ec0];calc aA evr) ?_;have Mp:=EY _ _ elo;left;calc fS true true _ _ (Sq.l mQ) (Sq.l Mp) (λD3 Eb=>?_);have afE:((r.mm (g.goal m)).hr.bE (List.replicate g.ms.length 0)).length=g.ms.length:=by
    by_cases h1:1<=(r.mm (g.goal m)).hr.length
    ·exact U.hl _ I _ (ip h1)
    ·have ez:(r.mm (g.goal m)).hr=[]:=List.length_eq_zero_iff.mp (by lia);rw[ez];simp[List.bE]
   have afF:((r.mm s0.toNat).hr.getD (c0-1).toNat []).length=g.ms.length:=U.hl _ hsm _ (getD_mem (by lia));have ehr:oK g r m k=List.zipWith max ((r.mm (g.goal m)).hr.bE (List.replicate g.ms.length 0)) ((r.mm s0.toNat).hr.getD (c0-1).toNat []):=by
    unfold oK;rw[LR]
   generalize hA:(r.mm (g.goal m)).hr.bE (List.replicate g.ms.length 0)=LA at *;generalize hB:(r.mm s0.toNat).hr.getD (c0-1).toNat []=LB at *;refine bz (J:=Yf true true K rl lo) (n:=g.ms.length) (λi ys H'=>av H8 H'/\ys=((List.zipWith max LA LB).take i).map V.int) (L' (aH (by lia))) ⟨av.new _ Eb,rfl⟩ ?_ ?_ ?_ ?_
   ·rintro i ys H' W ⟨L,_⟩;exact⟨_,_,_,_,Sq.l (L _ _ mQ),Sq.l (L _ _ Mp),by rw[List.getElem?_map,bA (d:=0) (by lia)];rfl,by rw[List.getElem?_map,bA (d:=0) (by lia)];rfl⟩
   ·rintro ys H' ⟨L,_⟩;exact⟨_,_,Sq.l (L _ _ mQ),Sq.l (L _ _ Mp),.inl (by simp;lia)⟩
   ·intro i ys H' W S O LO xx H4' zq9;nofun;obtain⟨L,rfl⟩:=LO;obtain⟨t',IZ,rfl,y⟩:=zq9;obtain⟨x1,x2,ex1,ex2,rfl⟩:=y _ _ (Sq.l (L _ _ mQ)) (Sq.l (L _ _ Mp));rw[List.getElem?_map,bA (d:=0) (by lia)] at ex1 ex2;obtain rfl:=Option.some.inj ex1;obtain rfl:=Option.some.inj ex2;ac_rfl;have s2:=av.new (.tup [.int (LA.getD i 0),.int (LB.getD i 0)]) IZ;have nK:upd H' t' (.tup [.int (LA.getD i 0),.int (LB.getD i 0)]) t'=some (.tup [.int (LA.getD i 0),.int (LB.getD i 0)]):=af;calc zo (bI.of nK) ⟨Ext.set (Ext.set (Ext.refl _) rfl) rfl,?_⟩;left
    try rw[if_pos trivial]
    calc cJ (s2 _ _ S) O W (L' (aH (by lia))) ⟨λc o e=>by rw[az (au e Eb)];calc s2 _ _ (L _ _ e),?_⟩;rw[List.take_succ,List.getElem?_zipWith,bA (l:=LA) (d:=0) (by lia),bA (l:=LB) (d:=0) (by lia),List.map_append];show _++[V.int (if LB.getD i 0 > LA.getD i 0 then LB.getD i 0 else LA.getD i 0)]=_++[V.int (max (LA.getD i 0) (LB.getD i 0))]
    congr 3;split<;>lia
   rintro ys H9 S O ⟨s89,rfl⟩;rw[List.take_of_length_le (by simp;lia),<-ehr]at S;left;calc rest D3 _ _ H9 s89 S
structure qP(H0 H':Hp)(D:Addr)(as:List Addr)(n:Nat)(ct:Nat->Hp->HO->Prop):Prop where
 len:as.length=n
 nd:as.Nodup
 new:∀a∈as,H0 a=none/\a≠D
 ins:∀(j:Nat) a,as[j]?=some a->∃o,H' a=some o/\ct j H' o
theorem qP.nil{ct:Nat->Hp->HO->Prop}:qP H0 H' D [] 0 ct:=⟨rfl,List.nodup_nil,λa h=>by simp at h,λj a h=>by simp at h⟩
theorem qP.snoc{n:Nat}{ct:Nat->Hp->HO->Prop}(h:qP H0 H1 D as n ct)(q:av H0 H1)(r:H1 D≠none)(g:H1 a=none){o:HO}(e:H' a=some o)(c:ct n H' o)(s:∀b o,b≠D->H1 b=some o->H' b=some o)(f:∀j o,ct j H1 o->ct j H' o):qP H0 H' D (as++[a]) (n+1) ct:=by
 refine⟨by simp[h.len],?_,λb d=>?_,λj b d=>?_⟩
 ·rw[List.nodup_append];calc gW h.nd (by simp) (λb d c l=>?_);simp at l;subst l;intro z;subst z;obtain⟨j,k⟩:=List.getElem?_of_mem d;obtain⟨m,i,_⟩:=h.ins j b k;rw[g]at i;cases i
 ·rcases List.mem_append.mp d with d | d
  ·exact h.new b d
  ·simp at d;subst d;refine⟨?_,λz=>r (z ▸ g)⟩
   cases t:H0 b with
   |none=>rfl
   |some o=>rw[q _ _ t]at g;cases g
 ·by_cases k:j < as.length
  ·rw[List.getElem?_append_left k]at d;obtain⟨m,i,g⟩:=h.ins j b d;exact⟨m,s _ _ (h.new b (X' d)).2 i,f _ _ g⟩
  ·rw[List.getElem?_append_right (by lia)] at d
   cases p:j-as.length with
   |zero=>
    rw[p]at d;simp at d;subst d;have:j=n:=by have:=h.len;lia
    subst this;calc⟨o,e,c⟩
   |succ k=>rw[p]at d;simp at d
theorem qP.keep{n:Nat}{ct:Nat->Hp->HO->Prop}(h:qP H0 H1 D as n ct)(s:∀(j:Nat) (b:Addr) (o:HO),H1 b=some o->ct j H1 o->H' b=some o/\ct j H' o):qP H0 H' D as n ct:=
 ⟨h.len,h.nd,h.new,λj a e=>by
  obtain⟨c,d,f⟩:=h.ins j a e;calc⟨c,s _ _ _ d f⟩⟩
theorem rC{K:W.Frag}{ix:List (Option Nat)}{r:TE}{l:Addr}{xs:List V}(t:H l=some (.lst xs))(v:H D=none)(G:xs.length<=10)(y:∀x,Ext (vQ ix σ) ((vQ ix σ).set 0 (some x)))(d:∀g j (R:VK),(∀p,j p=none->R (.ref p) (upd j p o))->r g j R)(q:∀as H1,H1 D=some (.lst (as.map V.ref))->av H H1->qP H H1 D as xs.length (λ_ _ u=>u=o)->Q (.ref D) H1):mr ix (wU K l) (hX 0) iZ r σ H Q D:=by
 refine bz (n:=xs.length) (λi ys H'=>∃as:List Addr,ys=as.map V.ref/\av H H'/\qP H H' D as i (λ_ _ u=>u=o)) (L' (small (by lia))) ⟨[],rfl,av.new _ v,qP.nil⟩ ?_ ?_ ?_ ?_
 ·rintro i ys H' k ⟨_,_,a,_⟩;exact⟨_,xs[i],aU.of (a _ _ t),cP k⟩
 ·rintro ys H' ⟨_,_,a,_⟩;exact⟨_,aU.of (a _ _ t),K' _⟩
 ·intro i ys H' k c w z B I C;obtain⟨as,rfl,a,m⟩:=z;obtain⟨rfl,g⟩:=C;calc⟨y B,?_⟩;simp only[iZ,if_true];calc d _ _ _ λp g=>?_;have d:=av.new o g;have i:p≠D:=Ne.symm (au c g);refine cJ (d _ _ c) w k (L' (small (by lia))) ⟨as++[p],by simp,λb o e=>?_,?_⟩
  ·rw[az (au e v)];exact d _ _ (a _ _ e)
  ·refine m.snoc a (by rw[c];simp) g (o:=o) ?_ rfl (λb o a e=>?_) (λj u e=>e)
   ·rw[az i];exact af
   ·rw[az a];exact d _ _ e
 ·intro ys H1 c w F;obtain⟨as,rfl,a,m⟩:=F;calc q as H1 c a m
theorem Ew{F:Addr->Prop}{H:Hp}{n:Nat->Nat}{ad:Nat->Nat->Addr}{ct:Nat->Nat->CO}(k:Nat->Hp)(c:Nat->Nat)(p:∀t b,k t b≠none->k (t+1) b≠none)(v:∀t i,i<n t->k (c t) (ad t i)=none)(y:∀t i,i<n t->k (c t+1) (ad t i)≠none)
  (q:∀t t' i g,i<n t->g<n t'->c t=c t'->t=t') (r:∀t i j,i<n t->j<n t->ad t i=ad t j->i=j) (u:∀b,F b->k 0 b≠none) (B:∀t i,i<n t->∃o,H (ad t i)=some o/\OR (jR (λb=>F b\/FP n ad b) H) (ct t i) o):ee F H n ad ct:=by
 have w:∀(d t:Nat) (b:Addr),k t b≠none->k (t+d) b≠none:=by
  intro d;induction d with
  |zero=>calc λt b h=>h
  |succ d j=>exact λt b h=>p _ _ (j t b h)
 have x:∀t i t' g,i<n t->g<n t'->c t<c t'->ad t i≠ad t' g:=by
  intro t i t' g h m l e;obtain⟨d,j⟩:∃d,c t'=c t+1+d:=⟨c t'-(c t+1),by lia⟩
  have a:=w d (c t+1) _ (y t i h);rw[<-j,e]at a;exact a (v _ g m)
 refine⟨λt i t' g h m e=>?_,λt i h z=>?_,B⟩
 ·rcases Nat.lt_trichotomy (c t) (c t') with l | l | l
  ·exact absurd e (x _ _ _ _ h m l)
  ·have:=q t t' i g h m l;subst this;exact⟨rfl,r t i g h m e⟩
  ·exact absurd e.symm (x _ _ _ _ m h l)
 ·have:=w (c t) 0 _ (u _ z);rw[Nat.zero_add]at this;calc this (v t i h)
abbrev k9:Stmt:=top 69
inductive Jc(vs:List V)(H:Hp)(Q:VK):Prop
 |mk (F:Addr->Prop) (tn:V) (nt:NT) (ls:List (Int×Int)) (h0:vs=[tn]) (h1:ToldN (jR F H) tn nt.ms nt.ws ls) (h2:FS F H) (h3:nt.Ok) (h4:ls.length<=20) (h5:∀l∈ls,0<=l.1/\l.1<nt.ws.length) (h6:∀d ad H',av H H'->(∀b,FP nt.n ad b->H b=none)->H d=none->cy F H' d tn nt (RS.begin nt ls) ad->Q (.ref d) H'):Jc vs H Q
def CH:Sp:=λvs H Q _=>Jc vs H Q
theorem yZ(D:dq K mg "_law_begun" "_law_begun" k9 ["_law_net_here"])(T:Tx K mg C CN CR F FD):Def P w K mg base "_law_begun" 1 ["_law_net_here"] CH:=by
 have sc:aE ["_law_net_here","_law_run","_law_way","_law_said"] ["_law_net_here"] (ay k9):=by walk_at "s"
 symm
 ·obtain⟨F,tn,g,ls,rfl,hN,lS,aZ,yq,uB,q⟩:=h;rfl
 ·nofun;obtain⟨F,tn,g,ls,rfl,hN,lS,aZ,yq,uB,q⟩:=h;ac_rfl;have hu:=hr.units;have HN:=lt1 hu;refine⟨_,(aj (bb (i:=1) sc.nd rfl (by grind) (KS (rJ aD (aq 0) (rJ aD (dO (N':=["_law_way"]) (ix:=[none]) (cu (ak hu (aq 0) ai)) (λ_ _ _ _=>(ba (i:=0) (show(["_law_way"]:List Str).Nodup by decide +kernel) rfl (by grind))) qx (λ_ _ _ _=>(bF aa))) (rJ aD (dO (N':=["_law_way"]) (ix:=[none]) (cu (ak hu (aq 0) ai)) (λ_ _ _ _=>(ba (i:=0) (show(["_law_way"]:List Str).Nodup by decide +kernel) rfl (by grind))) qx (λ_ _ _ _=>(bF aa))) KR))) rfl rfl (by decide) (by decide)))
   (aj (lM HN (aq 1) aD (dO (N':=["_law_way"]) (ix:=[none]) (cu (ak hu (aq 0) ai)) (λ_ _ _ _=>(ba (i:=0) (show(["_law_way"]:List Str).Nodup by decide +kernel) rfl (by grind))) qx (λ_ _ _ _=>F5)) rfl)
   (aj (lM HN (aq 1) aD (dO (N':=["_law_one"]) (ix:=[none]) (cu (ak hu (aq 0) ai)) (λ_ _ _ _=>(ba (i:=0) (show(["_law_one"]:List Str).Nodup by decide +kernel) rfl (by grind))) qx (λ_ _ _ _=>(bF (ag (bQ (ag (dQ (nY (K:=K) rfl) rfl T.cB tq (ag (fZ (K:=K) rfl hu (aq 0) ai) aa)) (ag (dQ (nY (K:=K) rfl) rfl T.cB tq (ag (fZ (K:=K) rfl hu (aq 0) ai) aa)) aa))) aa)))) rfl)
   (aj (lM HN (aq 1) aD (dO (N':=["_law_one"]) (ix:=[none]) (cu (ak hu (aq 0) ai)) (λ_ _ _ _=>(ba (i:=0) (show(["_law_one"]:List Str).Nodup by decide +kernel) rfl (by grind))) qx (λ_ _ _ _=>(bF (ag (bF aa) aa)))) rfl)
   (aj (lM HN (aq 1) aD (dO (N':=["_law_one"]) (ix:=[none]) (cu (ak hu (aq 0) ai)) (λ_ _ _ _=>(ba (i:=0) (show(["_law_one"]:List Str).Nodup by decide +kernel) rfl (by grind))) qx (λ_ _ _ _=>(bF aa))) rfl)
   (aj (lM HN (aq 1) aD (bF aa) rfl)
   (aj (fm PassesOwn.never rfl (cu (ak hu (aq 0) ai)) (iB (i:=2) (j:=3) rfl sc.nd rfl rfl (by grind) (by grind))
   (aj (bV (dA nJ qm qo bW (ak hu (ak hu (aq 1) aD) (aq 2)) (ag (aq 3) aa)))
   (ao (bV (dA nJ qm qo bW (ak hu (ak hu (aq 1) aD) (aq 2)) (ag mi aa))))))
   (ao (aI (aq 1)))))))))),?_⟩
  nofun;obtain⟨N,am,aw,al,mv,wv,lv,rfl,h1,h2,h3,h4,h5,h6,h7⟩:=id hN;have g1:=(dS h1 (λk z=>by cases z)).2;have g2:=(dS h2 (λk z=>by cases z)).2;have g3:=(dS h3 (λk z=>by cases z)).2;have g4:=(dS h4 (λk z=>by cases z)).2
  replace h5:=h5.cv fC
  replace h6:=h6.aL fC.aV
  replace h7:=h7.aL fC.aV
  ac_rfl;have gs:wv.length=g.ws.length:=by simpa using h6.1
  have mJ:mv.length=g.ms.length:=h5.1;have yy:lv.length=ls.length:=by simpa using h7.1
  have T:wv.length<=10:=by rw[gs];exact aZ.Ht
  have T:mv.length<=5:=by rw[mJ];exact aZ.UQ
  left;calc Le λd rm=>?_;have Rw:=av.new (.dK []) rm;have ed0:upd H d (.dK []) d=some (.dK []):=af;generalize hGd:upd H d (.dK [])=C1 at *;left;calc bT ?_;left;calc eL (Rw _ _ g1) (aA (j:=1) rfl) ?_;left;calc .inl ⟨⟨_,aU.of (Rw _ _ g3)⟩,λI Ed=>?_⟩;calc rC (o:=.lst []) (Rw _ _ g3) Ed (by lia) (λ_=>Ext.set (Ext.refl _) rfl) (λ_ _ _ r=>And.intro (by decide) r) ?_;intro A1 H1 y Sm Yw;have V6:=y;clear y;have V7:C1 I=none:=Ed;left;generalize hC2:H1=C2 at *;have S2:=Rw.trans Sm;have SV:=Sm _ _ ed0;have Yx:∀b o,b≠d->C1 b=some o->C2 b=some o:=λb o _ e=>Sm _ _ e;calc bT ?_;left;calc eL (S2 _ _ g1) (aA (j:=1) rfl) ?_;left;calc .inl ⟨⟨_,aU.of (S2 _ _ g3)⟩,λL T=>?_⟩;calc rC (o:=.lst []) (S2 _ _ g3) T (by lia) (λ_=>Ext.set (Ext.refl _) rfl) (λ_ _ _ r=>And.intro (by decide) r) ?_;intro A2 H2 y Q8 Yz;have Ss:=y;clear y;have QJ:C2 L=none:=T;left;have CI:H2 d=some (.dK []):=Q8 _ _ SV;calc⟨CI,[((Sum.inr "net":Key),V.ref N),((Sum.inr "put":Key),V.ref I),((Sum.inr "sender":Key),V.ref L)],rfl,by simp,?_⟩;have y0:ml [] ([((Sum.inr "net":Key),V.ref N),((Sum.inr "put":Key),V.ref I),((Sum.inr "sender":Key),V.ref L)]:List (Key×V))=[((Sum.inr "net":Key),V.ref N),((Sum.inr "put":Key),V.ref I),((Sum.inr "sender":Key),V.ref L)]:=by kernel_rfl
  rw[y0];nofun;obtain⟨C3,T,SW,Sr,ke2⟩:=gc (d:=d) ([((Sum.inr "net":Key),V.ref N),((Sum.inr "put":Key),V.ref I),((Sum.inr "sender":Key),V.ref L)]) Q8;ac_rfl;rw[T];have S3:av H C3:=λb o e=>Sr b o (au e rm) (S2 _ _ e);clear T;clear CI y0;left;refine bT ?_;left;refine eL (S3 _ _ g1) (aA (j:=1) rfl) ?_;left;refine .inl ⟨⟨_,aU.of (S3 _ _ g3)⟩,λU T=>?_⟩;refine rC (o:=.dK []) (S3 _ _ g3) T (by lia) (λ_=>Ext.set (Ext.refl _) rfl) (λ_ _ _ r=>r) ?_;intro A3 H3 y Q9 YB;have Sx:=y;clear y;have QK:C3 U=none:=T;left;have CI:=Q9 _ _ SW;refine cL d _ rfl (tH.k (k:=Sum.inr "worker") CI (small (by simp))) ?_;have y0:putK ([((Sum.inr "net":Key),V.ref N),((Sum.inr "put":Key),V.ref I),((Sum.inr "sender":Key),V.ref L)]:List (Key×V)) (Sum.inr "worker":Key) (V.ref U)=[((Sum.inr "net":Key),V.ref N),((Sum.inr "put":Key),V.ref I),((Sum.inr "sender":Key),V.ref L),((Sum.inr "worker":Key),V.ref U)]:=by kernel_rfl
  rw[y0];nofun;obtain⟨C4,T,Rx,Sw,ke3⟩:=gc (d:=d) ([((Sum.inr "net":Key),V.ref N),((Sum.inr "put":Key),V.ref I),((Sum.inr "sender":Key),V.ref L),((Sum.inr "worker":Key),V.ref U)]) Q9;ac_rfl;rw[T];have S4:av H C4:=λb o e=>Sw b o (au e rm) (S3 _ _ e);clear T;clear CI y0;left;refine bT ?_;left;refine eL (S4 _ _ g1) (aA (j:=0) rfl) ?_;left;refine .inl ⟨⟨_,aU.of (S4 _ _ g2)⟩,λX SA=>?_⟩;refine bz (J:=wU K am) (n:=mv.length) (λi ys H'=>∃as:List Addr,ys=as.map V.ref/\av C4 H'/\qP C4 H' X as i (λj H' o=>∃v,o=.lst [v]/\HT H' 2 v (wY (g.ms.getD j default).ns (g.ms.getD j default).row))) (L' (small (by lia))) ⟨[],rfl,av.new _ SA,qP.nil⟩ ?_ ?_ ?_ ?_
  ·rintro i ys H' a ⟨_,_,s3,_⟩;exact⟨_,mv[i],aU.of (s3 _ _ (S4 _ _ g2)),cP a⟩
  ·rintro ys H' ⟨_,_,s3,_⟩;exact⟨_,aU.of (s3 _ _ (S4 _ _ g2)),K' _⟩
  ·intro i ys H' a y hl tP xx H4 tR;nofun;obtain⟨as,rfl,s3,hL⟩:=tP;obtain⟨rfl,hy⟩:=tR;ac_rfl;have ex:=hy _ (aU.of (s3 _ _ (S4 _ _ g2)));walk_at "xf";left
   try rw[if_pos trivial]
   have L7:i<g.ms.length:=by lia
   nofun;obtain⟨mt,ln,lr,ld,xsd,rfl,m1,m2,m3,T,m5⟩:=h5.2 i xx _ ex (bA (d:=default) L7);ac_rfl;have T:=(S4.trans s3)
   calc eL (T _ _ m1) (aA (j:=1) rfl) ?_;left;calc .inl ⟨_,aU.of (T _ _ m2),λt1 wj=>?_⟩;have r1:=av.new (.tup ((g.ms.getD i default).ns.map V.int)) wj;calc eL (r1 _ _ (T _ _ m1)) (aA (j:=2) rfl) ?_;left;calc .inl ⟨_,aU.of (r1 _ _ (T _ _ m3)),λt2 nK=>?_⟩;have r2:=av.new (.tup ((g.ms.getD i default).row.map V.int)) nK;calc⟨du,λt3 T=>?_⟩;have r3:=av.new (.tup [.ref t1,.ref t2]) T;have sP:=r1.trans (r2.trans r3);have hv:HT (upd (upd (upd H4 t1 (.tup ((g.ms.getD i default).ns.map V.int))) t2 (.tup ((g.ms.getD i default).row.map V.int))) t3 (.tup [.ref t1,.ref t2])) 2 (.ref t3) (wY (g.ms.getD i default).ns (g.ms.getD i default).row):=eu af (n0 (r3 _ _ (r2 _ _ af))) (n0 (r3 _ _ af));generalize hGP:upd (upd (upd H4 t1 (.tup ((g.ms.getD i default).ns.map V.int))) t2 (.tup ((g.ms.getD i default).row.map V.int))) t3 (.tup [.ref t1,.ref t2])=HP at *;have Ex:=sP _ _ y;left;calc⟨by decide,λp hp=>?_⟩;have sN:=av.new (.lst [.ref t3]) hp;have Ry:=sN _ _ Ex;have nD:p≠X:=Ne.symm (au Ex hp);refine cJ Ry hl a (L' (small (by lia))) ⟨as++[p],by simp,λb o e=>?_,?_⟩
   ·rw[az (au e SA)];exact sN _ _ (sP _ _ (s3 _ _ e))
   ·refine hL.snoc s3 (by rw[y];simp) (sP.free hp) (o:=.lst [.ref t3]) ?_ ⟨_,rfl,hv.aL (λb xs e=>by rw[az (λz=>by rw[z,Ex] at e;cases e)];calc sN _ _ e)⟩ (λb o nb e=>?_) (λj o ⟨v,e,h⟩=>⟨v,e,h.aL (λb xs e=>by rw[az (λz=>by rw[z,y] at e;cases e)];calc sN _ _ (sP _ _ e))⟩)
    ·rw[az nD];exact af
    ·rw[az nb];exact sN _ _ (sP _ _ e)
  intro ys H4 y hl wk;nofun;obtain⟨A4,rfl,NK,YD⟩:=wk;ac_rfl;have SE:=y;clear y hl;have Wg:C4 X=none:=SA;left;have CI:=NK _ _ Rx;calc cL d _ rfl (tH.k (k:=Sum.inr "states") CI (small (by simp))) ?_;have y0:putK ([((Sum.inr "net":Key),V.ref N),((Sum.inr "put":Key),V.ref I),((Sum.inr "sender":Key),V.ref L),((Sum.inr "worker":Key),V.ref U)]:List (Key×V)) (Sum.inr "states":Key) (V.ref X)=[((Sum.inr "net":Key),V.ref N),((Sum.inr "put":Key),V.ref I),((Sum.inr "sender":Key),V.ref L),((Sum.inr "worker":Key),V.ref U),((Sum.inr "states":Key),V.ref X)]:=by kernel_rfl
  rw[y0];nofun;obtain⟨C5,T,N8,SD,ke4⟩:=gc (d:=d) ([((Sum.inr "net":Key),V.ref N),((Sum.inr "put":Key),V.ref I),((Sum.inr "sender":Key),V.ref L),((Sum.inr "worker":Key),V.ref U),((Sum.inr "states":Key),V.ref X)]) NK;ac_rfl;rw[T];have S5:av H C5:=λb o e=>SD b o (au e rm) (S4 _ _ e);clear T;clear CI y0;left;refine bT ?_;left;refine eL (S5 _ _ g1) (aA (j:=0) rfl) ?_;left;refine .inl ⟨⟨_,aU.of (S5 _ _ g2)⟩,λY ym=>?_⟩;refine bz (J:=wU K am) (n:=mv.length) (λi ys H'=>∃as:List Addr,ys=as.map V.ref/\av C5 H'/\qP C5 H' Y as i (λ_ H' o=>∃q,o=.lst [.ref q]/\H' q=some (.lst [])/\C5 q=none/\q≠Y)) (L' (small (by lia))) ⟨[],rfl,av.new _ ym,qP.nil⟩ ?_ ?_ ?_ ?_
  ·rintro i ys H' a ⟨_,_,s3,_⟩;exact⟨_,mv[i],aU.of (s3 _ _ (S5 _ _ g2)),cP a⟩
  ·rintro ys H' ⟨_,_,s3,_⟩;exact⟨_,aU.of (s3 _ _ (S5 _ _ g2)),K' _⟩
  ·intro i ys H' a y hl HW xx H4 LM;nofun;obtain⟨as,rfl,s3,hL⟩:=HW;obtain⟨rfl,hy⟩:=LM;ac_rfl;have ex:=hy _ (aU.of (s3 _ _ (S5 _ _ g2)));walk_at "xf";left
   try rw[if_pos trivial]
   calc⟨aal _,λqq hqq=>?_⟩;have sP:=av.new (.lst []) hqq;have eqq:upd H4 qq (.lst []) qq=some (.lst []):=af;have nqD:qq≠Y:=Ne.symm (au y hqq);generalize hGP:upd H4 qq (.lst [])=HP at *;have Ex:=sP _ _ y;left;calc⟨by decide,λp hp=>?_⟩;have sN:=av.new (.lst [.ref qq]) hp;have Ry:=sN _ _ Ex;have nD:p≠Y:=Ne.symm (au Ex hp);refine cJ Ry hl a (L' (small (by lia))) ⟨as++[p],by simp,λb o e=>?_,?_⟩
   ·rw[az (au e ym)];exact sN _ _ (sP _ _ (s3 _ _ e))
   ·refine hL.snoc s3 (by rw[y];simp) (sP.free hp) (o:=.lst [.ref qq]) ?_ ⟨qq,rfl,by rw[az nqD];calc sN _ _ eqq,s3.free hqq,nqD⟩ (λb o nb e=>?_) (λj o ⟨T,e,h,h',h2⟩=>⟨T,e,by rw[az h2];calc sN _ _ (sP _ _ h),h',h2⟩)
    ·rw[az nD];exact af
    ·rw[az nb];exact sN _ _ (sP _ _ e)
  intro ys H5 y hl LO;nofun;obtain⟨A5,rfl,NL,YF⟩:=LO;ac_rfl;have SJ:=y;clear y hl;have Wk:C5 Y=none:=ym;left;have CI:=NL _ _ N8;calc cL d _ rfl (tH.k (k:=Sum.inr "words") CI (small (by simp))) ?_;have y0:putK ([((Sum.inr "net":Key),V.ref N),((Sum.inr "put":Key),V.ref I),((Sum.inr "sender":Key),V.ref L),((Sum.inr "worker":Key),V.ref U),((Sum.inr "states":Key),V.ref X)]:List (Key×V)) (Sum.inr "words":Key) (V.ref Y)=[((Sum.inr "net":Key),V.ref N),((Sum.inr "put":Key),V.ref I),((Sum.inr "sender":Key),V.ref L),((Sum.inr "worker":Key),V.ref U),((Sum.inr "states":Key),V.ref X),((Sum.inr "words":Key),V.ref Y)]:=by kernel_rfl
  rw[y0];nofun;obtain⟨C6,T,N9,SI,ke5⟩:=gc (d:=d) ([((Sum.inr "net":Key),V.ref N),((Sum.inr "put":Key),V.ref I),((Sum.inr "sender":Key),V.ref L),((Sum.inr "worker":Key),V.ref U),((Sum.inr "states":Key),V.ref X),((Sum.inr "words":Key),V.ref Y)]) NL;ac_rfl;rw[T];have S6:av H C6:=λb o e=>SI b o (au e rm) (S5 _ _ e);clear T;clear CI y0;left;refine bT ?_;left;refine eL (S6 _ _ g1) (aA (j:=0) rfl) ?_;left;refine .inl ⟨⟨_,aU.of (S6 _ _ g2)⟩,λD6 T=>?_⟩;refine rC (o:=.lst []) (S6 _ _ g2) T (by lia) (λ_=>Ext.set (Ext.refl _) rfl) (λ_ _ _ r=>And.intro (by decide) r) ?_;intro A6 H6 y Ra YH;have SN:=y;clear y;have Wq:C6 D6=none:=T;left;have CI:=Ra _ _ N9;refine cL d _ rfl (tH.k (k:=Sum.inr "heard") CI (small (by simp))) ?_;have y0:putK ([((Sum.inr "net":Key),V.ref N),((Sum.inr "put":Key),V.ref I),((Sum.inr "sender":Key),V.ref L),((Sum.inr "worker":Key),V.ref U),((Sum.inr "states":Key),V.ref X),((Sum.inr "words":Key),V.ref Y)]:List (Key×V)) (Sum.inr "heard":Key) (V.ref D6)=[((Sum.inr "net":Key),V.ref N),((Sum.inr "put":Key),V.ref I),((Sum.inr "sender":Key),V.ref L),((Sum.inr "worker":Key),V.ref U),((Sum.inr "states":Key),V.ref X),((Sum.inr "words":Key),V.ref Y),((Sum.inr "heard":Key),V.ref D6)]:=by kernel_rfl
  rw[y0];nofun;obtain⟨C7,y,SX,Rb,ke6⟩:=gc (d:=d) ([((Sum.inr "net":Key),V.ref N),((Sum.inr "put":Key),V.ref I),((Sum.inr "sender":Key),V.ref L),((Sum.inr "worker":Key),V.ref U),((Sum.inr "states":Key),V.ref X),((Sum.inr "words":Key),V.ref Y),((Sum.inr "heard":Key),V.ref D6)]) Ra;ac_rfl;rw[y];have S7:av H C7:=λb o e=>Rb b o (au e rm) (S6 _ _ e);clear y;clear CI y0;left;refine⟨aal _,λpe EW=>?_⟩;have sE7:=av.new (.lst []) EW;have acY:upd C7 pe (.lst []) pe=some (.lst []):=af;have npe:pe≠d:=Ne.symm (au SX EW);generalize ajw:upd C7 pe (.lst [])=E7 at *;refine cL d _ rfl (tH.k (k:=Sum.inr "events") (sE7 _ _ SX) (small (by simp))) ?_;have y0:putK ([((Sum.inr "net":Key),V.ref N),((Sum.inr "put":Key),V.ref I),((Sum.inr "sender":Key),V.ref L),((Sum.inr "worker":Key),V.ref U),((Sum.inr "states":Key),V.ref X),((Sum.inr "words":Key),V.ref Y),((Sum.inr "heard":Key),V.ref D6)]:List (Key×V)) (Sum.inr "events":Key) (V.ref pe)=[((Sum.inr "net":Key),V.ref N),((Sum.inr "put":Key),V.ref I),((Sum.inr "sender":Key),V.ref L),((Sum.inr "worker":Key),V.ref U),((Sum.inr "states":Key),V.ref X),((Sum.inr "words":Key),V.ref Y),((Sum.inr "heard":Key),V.ref D6),((Sum.inr "events":Key),V.ref pe)]:=by kernel_rfl
  rw[y0];nofun;obtain⟨GF,y,edF,Y0,T⟩:=gc (d:=d) ([((Sum.inr "net":Key),V.ref N),((Sum.inr "put":Key),V.ref I),((Sum.inr "sender":Key),V.ref L),((Sum.inr "worker":Key),V.ref U),((Sum.inr "states":Key),V.ref X),((Sum.inr "words":Key),V.ref Y),((Sum.inr "heard":Key),V.ref D6),((Sum.inr "events":Key),V.ref pe)]) sE7;ac_rfl;rw[y];have epe:=T _ _ npe acY;have SF:av H GF:=λb o e=>Y0 b o (au e rm) (S7 _ _ e);clear y T;clear y0;have G:∀(A:Hp) (kv:List (Key×V)) (b:Addr) (vs:List V),A d=some (.dK kv)->A b=some (.lst vs)->b≠d:=λA kv b vs S e2 z=>by rw[z,S]at e2;cases e2
  have ndk:∀(A:Hp) (p:Key×V) (kv:List (Key×V)) (b:Addr),A d=some (.dK (p::kv))->A b=some (.dK [])->b≠d:=λA p kv b S e2 z=>by rw[z,S]at e2;cases e2
  have Ki:∀(A:Hp) (kv:List (Key×V)) (b:Addr) (vs:List V),A d=some (.dK kv)->A b=some (.tup vs)->b≠d:=λA kv b vs S e2 z=>by rw[z,S]at e2;cases e2
  have kc7:=Y0;have Y1:∀b o,b≠d->C6 b=some o->GF b=some o:=λb o n e=>kc7 b o n (Rb b o n e);have L8:∀b o,b≠d->C5 b=some o->GF b=some o:=λb o n e=>Y1 b o n (SI b o n e);have NM:∀b o,b≠d->C4 b=some o->GF b=some o:=λb o n e=>L8 b o n (SD b o n e);have NN:∀b o,b≠d->C3 b=some o->GF b=some o:=λb o n e=>NM b o n (Sw b o n e);have Rc:∀b o,b≠d->C2 b=some o->GF b=some o:=λb o n e=>NN b o n (Sr b o n e);have W6:qP C1 C2 I A1 wv.length (λ_ _ o=>o=.lst []):=Yw;have Jd:=V6;have AY:=W6.keep (λj b o e c=>by subst c;calc⟨Rc b _ (G _ _ _ _ SV e) e,rfl⟩);have W7:=Rc _ _ (G _ _ _ _ SV Jd) Jd;have W8:qP C2 C3 L A2 wv.length (λ_ _ o=>o=.lst []):=Yz.keep (λj b o e c=>by subst c;calc⟨ke2 b _ (G _ _ _ _ (Q8 _ _ SV) e) e,rfl⟩);have Je:=ke2 _ _ (G _ _ _ _ (Q8 _ _ SV) Ss) Ss;have AZ:=W8.keep (λj b o e c=>by subst c;calc⟨NN b _ (G _ _ _ _ SW e) e,rfl⟩);have W9:=NN _ _ (G _ _ _ _ SW Je) Je;have Xa:qP C3 C4 U A3 wv.length (λ_ _ o=>o=.dK []):=YB.keep (λj b o e c=>by subst c;calc⟨ke3 b _ (ndk _ _ _ _ (Q9 _ _ SW) e) e,rfl⟩);have Jf:=ke3 _ _ (G _ _ _ _ (Q9 _ _ SW) Sx) Sx;have A0:=Xa.keep (λj b o e c=>by subst c;calc⟨NM b _ (ndk _ _ _ _ Rx e) e,rfl⟩);have Xb:=NM _ _ (G _ _ _ _ Rx Jf) Jf;have Xc:qP C4 C5 X A4 mv.length (λj H' o=>∃v,o=.lst [v]/\HT H' 2 v (wY (g.ms.getD j default).ns (g.ms.getD j default).row)):=YD.keep (λj b o e c=>by
   nofun;obtain⟨v,rfl,hv⟩:=c;ac_rfl;calc⟨ke4 b _ (G _ _ _ _ (NK _ _ Rx) e) e,v,rfl,hv.aL (λb' xs e'=>ke4 b' _ (Ki _ _ _ _ (NK _ _ Rx) e') e')⟩)
  have Jg:=ke4 _ _ (G _ _ _ _ (NK _ _ Rx) SE) SE;have A7:=Xc.keep (λj b o e c=>by
   nofun;obtain⟨v,rfl,hv⟩:=c;ac_rfl;calc⟨L8 b _ (G _ _ _ _ N8 e) e,v,rfl,hv.aL (λb' xs e'=>L8 b' _ (Ki _ _ _ _ N8 e') e')⟩)
  have Xd:=L8 _ _ (G _ _ _ _ N8 Jg) Jg;have pQ:qP C5 C6 Y A5 mv.length (λ_ H' o=>∃q,o=.lst [.ref q]/\H' q=some (.lst [])/\C5 q=none/\q≠Y):=YF.keep (λj b o e c=>by
   nofun;obtain⟨v,rfl,hv,Rr,Y2⟩:=c;ac_rfl;calc⟨ke5 b _ (G _ _ _ _ (NL _ _ N8) e) e,v,rfl,ke5 v _ (G _ _ _ _ (NL _ _ N8) hv) hv,Rr,Y2⟩)
  have ve:=ke5 _ _ (G _ _ _ _ (NL _ _ N8) SJ) SJ;have za:=pQ.keep (λj b o e c=>by
   nofun;obtain⟨v,rfl,hv,Rr,Y2⟩:=c;ac_rfl;calc⟨Y1 b _ (G _ _ _ _ N9 e) e,v,rfl,Y1 v _ (G _ _ _ _ N9 hv) hv,Rr,Y2⟩)
  have Xe:=Y1 _ _ (G _ _ _ _ N9 ve) ve;have Xf:qP C6 C7 D6 A6 mv.length (λ_ _ o=>o=.lst []):=YH.keep (λj b o e c=>by subst c;calc⟨ke6 b _ (G _ _ _ _ (Ra _ _ N9) e) e,rfl⟩);have Jh:=ke6 _ _ (G _ _ _ _ (Ra _ _ N9) SN) SN;have A8:=Xf.keep (λj b o e c=>by subst c;calc⟨kc7 b _ (G _ _ _ _ SX e) e,rfl⟩);have Xg:=kc7 _ _ (G _ _ _ _ SX Jh) Jh;rw[gs]at AY;rw[gs]at AZ;rw[gs]at A0;rw[mJ]at A7;rw[mJ]at za;rw[mJ]at A8;have y:∃ad:Nat->Nat->Addr,(∀i,ad 0 i=pe)/\(∀i,ad 1 i=A4.getD i 0)/\(∀i,ad 2 i=A5.getD i 0)/\(∀i,ad 3 i=A6.getD i 0)/\(∀i,ad 4 i=A1.getD i 0)/\(∀i,ad 5 i=A2.getD i 0)/\(∀i,ad 6 i=A3.getD i 0):=
   ⟨λt i=>match t with
    |0=>pe
    |1=>A4.getD i 0
    |2=>A5.getD i 0
    |3=>A6.getD i 0
    |4=>A1.getD i 0
    |5=>A2.getD i 0
    | _=>A3.getD i 0,λ_=>rfl,λ_=>rfl,λ_=>rfl,λ_=>rfl,λ_=>rfl,λ_=>rfl,λ_=>rfl⟩
  nofun;obtain⟨ad,NS,fU,gN,yS,yT,yU,yV⟩:=y;have T:∃M:Nat->Nat,M 0=6/\M 1=3/\M 2=4/\M 3=5/\M 4=0/\M 5=1/\M 6=2:=
   ⟨λt=>match t with
    |0=>6
    |1=>3
    |2=>4
    |3=>5
    |4=>0
    |5=>1
    | _=>2,rfl,rfl,rfl,rfl,rfl,rfl,rfl⟩
  obtain⟨M,Y3,Xh,Xi,Xj,Xk,Xl,Xm⟩:=T;have y:∃O:Nat->Hp,O 0=C1/\O 1=C2/\O 2=C3/\O 3=C4/\O 4=C5/\O 5=C6/\O 6=C7/\∀t,O (t+7)=GF:=
   ⟨λt=>match t with
    |0=>C1
    |1=>C2
    |2=>C3
    |3=>C4
    |4=>C5
    |5=>C6
    |6=>C7
    | _=>GF,rfl,rfl,rfl,rfl,rfl,rfl,rfl,λ_=>rfl⟩
  obtain⟨O,q0,q1,q2,q3,q4,q5,q6,q7⟩:=y;have pz:∀(A B:Hp),(∀b o,b≠d->A b=some o->B b=some o)->(∃o,B d=some o)->∀b,A b≠none->B b≠none:=λA B h ⟨o,e⟩ b hb=>by
   by_cases z:b=d
   ·rw[z,e];simp
   ·cases S:A b with
    |none=>calc absurd S hb
    |some u=>rw[h b u z S];simp
  have m:∀{A:List Addr} {H0 H':Hp} {D:Addr} {n:Nat} {ct:Nat->Hp->HO->Prop},qP H0 H' D A n ct->∀i,i<n->A[i]?=some (A.getD i 0)/\H0 (A.getD i 0)=none/\∃o,H' (A.getD i 0)=some o/\ct i H' o:=λ{A H0 H' D n ct} h i a=>by
   have e:=bA (l:=A) (i:=i) (d:=0) (by rw[h.len];calc a);exact⟨e,(h.new _ (X' e)).1,h.ins i _ e⟩
  have pR:∀{A:List Addr} {H0 H':Hp} {D:Addr} {n:Nat} {ct:Nat->Hp->HO->Prop},qP H0 H' D A n ct->∀i j,i<n->j<n->A.getD i 0=A.getD j 0->i=j:=λ{A H0 H' D n ct} h i j a R e=>by
   have S:=(m h i a).1;have e2:=(m h j R).1;rw[e]at S;exact(List.getElem?_inj (by rw[h.len];calc a) h.nd).mp (S.trans e2.symm)
  have mono:∀t b,O t b≠none->O (t+1) b≠none:=by
   intro t
   match t with
   |0=>rw[q0,q1];calc pz _ _ Yx ⟨_,SV⟩
   |1=>rw[q1,q2];calc pz _ _ Sr ⟨_,SW⟩
   |2=>rw[q2,q3];calc pz _ _ Sw ⟨_,Rx⟩
   |3=>rw[q3,q4];calc pz _ _ SD ⟨_,N8⟩
   |4=>rw[q4,q5];calc pz _ _ SI ⟨_,N9⟩
   |5=>rw[q5,q6];calc pz _ _ Rb ⟨_,SX⟩
   |6=>rw[q6,q7 0];calc pz _ _ Y0 ⟨_,edF⟩
   |(t+7)=>rw[q7,show t+7+1=(t+1)+7 by lia,q7];exact λb h=>h
  have up:∀(d t:Nat) (b:Addr),O t b≠none->O (t+d) b≠none:=by
   intro d;induction d with
   |zero=>calc λt b h=>h
   |succ d y=>exact λt b h=>mono _ _ (y t b h)
  have F0:∀t i,i<g.n t->O (M t) (ad t i)=none:=by
   intro t i a
   match t,a with
   |0,a=>rw[Y3,q6,NS];calc EW
   |1,a=>rw[Xh,q3,fU];calc(m A7 i a).2.1
   |2,a=>rw[Xi,q4,gN];calc(m za i a).2.1
   |3,a=>rw[Xj,q5,yS];calc(m A8 i a).2.1
   |4,a=>rw[Xk,q0,yT];calc(m AY i a).2.1
   |5,a=>rw[Xl,q1,yU];calc(m AZ i a).2.1
   |6,a=>rw[Xm,q2,yV];calc(m A0 i a).2.1
   |(t+7),a=>exact absurd a (aao i)
  have F1:∀t i,i<g.n t->O (M t+1) (ad t i)≠none:=by
   intro t i a
   match t,a with
   |0,a=>rw[Y3,q7 0,NS,epe];simp
   |1,a=>
    rw[Xh,q4,fU];nofun;obtain⟨_,_,o,e,_⟩:=m Xc i (by rw[mJ];calc a);ac_rfl;rw[e];simp
   |2,a=>
    rw[Xi,q5,gN];nofun;obtain⟨_,_,o,e,_⟩:=m pQ i (by rw[mJ];calc a);ac_rfl;rw[e];simp
   |3,a=>
    rw[Xj,q6,yS];nofun;obtain⟨_,_,o,e,_⟩:=m Xf i (by rw[mJ];calc a);ac_rfl;rw[e];simp
   |4,a=>
    rw[Xk,q1,yT];nofun;obtain⟨_,_,o,e,_⟩:=m W6 i (by rw[gs];calc a);ac_rfl;rw[e];simp
   |5,a=>
    rw[Xl,q2,yU];nofun;obtain⟨_,_,o,e,_⟩:=m W8 i (by rw[gs];calc a);ac_rfl;rw[e];simp
   |6,a=>
    rw[Xm,q3,yV];nofun;obtain⟨_,_,o,e,_⟩:=m Xa i (by rw[gs];calc a);ac_rfl;rw[e];simp
   |(t+7),a=>exact absurd a (aao i)
  have y:∀t i,i<g.n t->M t<=6:=by
   intro t i a
   match t,a with
   |0,_=>rw[Y3];decide
   |1,_=>rw[Xh];decide
   |2,_=>rw[Xi];decide
   |3,_=>rw[Xj];decide
   |4,_=>rw[Xk];decide
   |5,_=>rw[Xl];decide
   |6,_=>rw[Xm];decide
   |(t+7),a=>exact absurd a (aao i)
  have W:∀b,FP g.n ad b->H b=none:=by
   intro b zq9;nofun;obtain⟨t,i,a,rfl⟩:=zq9;ac_rfl
   cases y:H (ad t i) with
   |none=>rfl
   |some o=>
    exfalso;have T:O 0 (ad t i)≠none:=by rw[q0,Rw _ _ y];simp
    have:=up (M t) 0 _ T;rw[Nat.zero_add]at this;exact this (F0 t i a)
  have L9:∀(s:Nat) (D:Addr),O s D=none->O (s+1) D≠none->(∀t i,i<g.n t->M t=s->ad t i≠D)->¬FP g.n ad D:=by
   intro s D h0 h1 qG ac1;nofun;obtain⟨x,i,a,rfl⟩:=ac1;ac_rfl;rcases Nat.lt_trichotomy s (M x) with l|l|l
   ·obtain⟨y,T⟩:∃y,M x=s + 1 + y:=⟨M x - (s + 1),by lia⟩
    have:=up y _ _ h1;rw[<-T]at this;exact this (F0 _ i a)
   ·exact qG x i a l.symm rfl
   ·obtain⟨y,T⟩:∃y,s=M x + 1 + y:=⟨s - (M x + 1),by lia⟩
    have:=up y _ _ (F1 _ i a);rw[<-T]at this;exact this h0
  have fps:∀t i,i<g.n t->∃o,GF (ad t i)=some o/\soft o:=by
   intro t i a
   match t,a with
   |0,a=>calc⟨.lst _,by rw[NS];calc epe,trivial⟩
   |1,a=>
    nofun;obtain⟨_,_,o,e,v,rfl,_⟩:=m A7 i a;ac_rfl;calc⟨.lst _,by rw[fU];calc e,trivial⟩
   |2,a=>
    nofun;obtain⟨_,_,o,e,v,rfl,_⟩:=m za i a;ac_rfl;calc⟨.lst _,by rw[gN];calc e,trivial⟩
   |3,a=>
    nofun;obtain⟨_,_,o,e,rfl⟩:=m A8 i a;ac_rfl;calc⟨.lst _,by rw[yS];calc e,trivial⟩
   |4,a=>
    nofun;obtain⟨_,_,o,e,rfl⟩:=m AY i a;ac_rfl;calc⟨.lst _,by rw[yT];calc e,trivial⟩
   |5,a=>
    nofun;obtain⟨_,_,o,e,rfl⟩:=m AZ i a;ac_rfl;calc⟨.lst _,by rw[yU];calc e,trivial⟩
   |6,a=>
    nofun;obtain⟨_,_,o,e,rfl⟩:=m A0 i a;ac_rfl;calc⟨.dK _,by rw[yV];calc e,trivial⟩
   |(t+7),a=>exact absurd a (aao i)
  have hz:∀b,(F b\/FP g.n ad b)->∃o,GF b=some o/\soft o:=by
   rintro b (h|⟨t,i,a,rfl⟩)
   ·obtain⟨o,e,l⟩:=lS b h;exact⟨o,SF _ _ e,l⟩
   ·exact fps t i a
  have nF:∀b,H b=none->¬F b:=λb e z=>by
   obtain⟨o,S,_⟩:=lS b z;rw[e]at S;cases S
  have l:∃gi:Nat->Nat,gi 6=0/\gi 3=1/\gi 4=2/\gi 5=3/\gi 0=4/\gi 1=5/\gi 2=6:=
   ⟨λs=>match s with
    |0=>4
    |1=>5
    |2=>6
    |3=>1
    |4=>2
    |5=>3
    | _=>0,rfl,rfl,rfl,rfl,rfl,rfl,rfl⟩
  obtain⟨gi,y,gi1,gi2,gi3,gi4,gi5,gi6⟩:=l;have Mq:∀t i,i<g.n t->gi (M t)=t:=by
   intro t i a
   match t,a with
   |0,_=>rw[Y3,y]
   |1,_=>rw[Xh,gi1]
   |2,_=>rw[Xi,gi2]
   |3,_=>rw[Xj,gi3]
   |4,_=>rw[Xk,gi4]
   |5,_=>rw[Xl,gi5]
   |6,_=>rw[Xm,gi6]
   |(t+7),a=>exact absurd a (aao i)
  have nq:∀i q,i<g.ms.length->GF (A5.getD i 0)=some (.lst [.ref q])->GF q=some (.lst [])->C5 q=none->C6 q=some (.lst [])->¬(F q\/FP g.n ad q):=by
   rintro i q a S e2 e3 e4 (z|z)
   ·exact nF q (S5.free e3) z
   ·calc L9 4 q (by rw[q4];calc e3) (by rw[q5,e4];simp) (λt j R es z'=>?_) z;have h2:t=2:=by rw[<-Mq t j R,es,gi2]
    subst h2;obtain⟨_,_,o,e5,v,rfl,_⟩:=m za j R;rw[<-gN,z',e2]at e5
    cases e5
  have cE:ee F GF g.n ad (RS.new g).tv:=by
   refine Ew O M mono F0 F1 (λt x i l h h' e=>?_) ?_ (λb h=>?_) ?_
   ·exact(Mq t i h).symm.trans ((congrArg gi e).trans (Mq x l h'))
   ·intro t i j a R e
    match t,a,R with
    |0,a,R=>
     have h1:i<1:=a;have h2:j<1:=R;lia
    |1,a,R=>rw[fU,fU]at e;calc pR A7 i j a R e
    |2,a,R=>rw[gN,gN]at e;calc pR za i j a R e
    |3,a,R=>rw[yS,yS]at e;calc pR A8 i j a R e
    |4,a,R=>rw[yT,yT]at e;calc pR AY i j a R e
    |5,a,R=>rw[yU,yU]at e;calc pR AZ i j a R e
    |6,a,R=>rw[yV,yV]at e;calc pR A0 i j a R e
    |(t+7),a,_=>exact absurd a (aao i)
   ·obtain⟨o,e,_⟩:=lS b h;rw[q0,Rw _ _ e];simp
   ·intro t i a
    match t,a with
    |0,a=>calc⟨.lst [],by rw[NS];calc epe,(dM.nil:dM _ 4 [] [])⟩
    |1,a=>
     nofun;obtain⟨_,_,o,e,v,rfl,hv⟩:=m A7 i a;ac_rfl;calc⟨.lst [v],by rw[fU];calc e,(dM.one ((Iy hz hv).mono (by decide)):dM _ 4 [v] [_])⟩
    |2,a=>
     nofun;obtain⟨_,_,o,e,v,rfl,hv,Rr,Y2⟩:=m za i a;obtain⟨_,_,o',e',v',rfl,Zw,_⟩:=m pQ i (by rw[mJ];calc a);have l:=Rb _ _ (G _ _ _ _ N9 e') e';have w7:=Y0 _ _ (G _ _ _ _ SX l) l;rw[e]at w7
     cases w7;ac_rfl;calc⟨.lst [.ref v],by rw[gN];calc e,(dM.one (.lst (by rw[gV (nq i v a e hv Rr Zw)];calc hv) rfl (λi u e hu=>by simp at hu)):dM _ 4 [.ref v] [.lst []])⟩
    |3,a=>
     nofun;obtain⟨_,_,o,e,rfl⟩:=m A8 i a;ac_rfl;calc⟨.lst [],by rw[yS];calc e,(dM.nil:dM _ 4 [] [])⟩
    |4,a=>
     nofun;obtain⟨_,_,o,e,rfl⟩:=m AY i a;ac_rfl;calc⟨.lst [],by rw[yT];calc e,(dM.nil:dM _ 4 [] [])⟩
    |5,a=>
     nofun;obtain⟨_,_,o,e,rfl⟩:=m AZ i a;ac_rfl;calc⟨.lst [],by rw[yU];calc e,(dM.nil:dM _ 4 [] [])⟩
    |6,a=>
     nofun;obtain⟨_,_,o,e,rfl⟩:=m A0 i a;ac_rfl;exact⟨.dK [],by rw[yV];exact e,⟨aal _,λk=>by
      have S:kJ ((RS.new g).ww i).ky k=none:=by
       show kJ [] k=none;unfold kJ;split<;>rfl
      rw[S];calc FX⟩⟩
    |(t+7),a=>exact absurd a (aao i)
  have k:∃o:Nat->Addr,o 1=X/\o 2=Y/\o 3=D6/\o 4=I/\o 5=L/\o 6=U:=
   ⟨λt=>match t with
    |1=>X
    |2=>Y
    |3=>D6
    |4=>I
    |5=>L
    | _=>U,rfl,rfl,rfl,rfl,rfl,rfl⟩
  obtain⟨o,o1,o2,o3,o4,o5,o6⟩:=k;ac_rfl;have rf:∀{A:List Addr} {n:Nat} {H0 H':Hp} {D:Addr} {ct:Nat->Hp->HO->Prop} (t:Nat),qP H0 H' D A n ct->g.n t=n->(∀i,ad t i=A.getD i 0)->A.map V.ref=iH g.n ad t:=λ{A n H0 H' D ct} t h S e2=>by
   unfold iH;rw[S];apply List.ext_getElem (by simp[h.len]);intro j h1 h2;have R:j<A.length:=by simpa using h1
   simp only[List.getElem_map,List.getElem_range,e2];congr 1;exact(getD_at (cP R)).symm
  have SY:∀{A:List Addr} {n:Nat} {H0:Hp} {D:Addr} {ct:Nat->Hp->HO->Prop} (t s:Nat),qP H0 GF D A n ct->g.n t=n->(∀i,ad t i=A.getD i 0)->M t=s->(∀x i,i<g.n x->M x=s->x=t)->O s D=none->O (s+1) D≠none->¬FP g.n ad D:=λ{A n H0 D ct} t s h S e2 e3 e4 h0 h1=>by
   calc L9 s D h0 h1 (λx i a es z=>?_);have:=e4 x i a es;subst this;rw[S]at a;rw[e2]at z;exact(h.new _ (X' (m h i a).1)).2 z
  have hT:cy F GF d (.ref N) g (RS.new g) ad:=by
   refine⟨⟨o,?_,nF d rm,?_,?_⟩,cE,⟨ls,hN.cv ?_⟩,aZ⟩
   ·rw[edF,Kg,NS,o1,o2,o3,o4,o5,o6]
   ·rintro⟨t,i,a,z⟩;have:=F0 t i a;rw[<-z] at this;have h0:O 0 d≠none:=by rw[q0,ed0];simp
    have h1:=up (M t) 0 d h0;rw[Nat.zero_add]at h1;exact h1 this
   ·intro t wj k
    match t,wj,k with
    |1,_,_=>calc⟨by rw[o1,Xd,rf 1 A7 rfl fU],by rw[o1];calc nF _ (S4.free Wg),by rw[o1];calc SY 1 3 A7 rfl fU Xh (λx i a es=>by rw[<-Mq x i a,es,gi1]) (by rw[q3];calc Wg) (by rw[q4,Jg];simp)⟩
    |2,_,_=>calc⟨by rw[o2,Xe,rf 2 za rfl gN],by rw[o2];calc nF _ (S5.free Wk),by rw[o2];calc SY 2 4 za rfl gN Xi (λx i a es=>by rw[<-Mq x i a,es,gi2]) (by rw[q4];calc Wk) (by rw[q5,ve];simp)⟩
    |3,_,_=>calc⟨by rw[o3,Xg,rf 3 A8 rfl yS],by rw[o3];calc nF _ (S6.free Wq),by rw[o3];calc SY 3 5 A8 rfl yS Xj (λx i a es=>by rw[<-Mq x i a,es,gi3]) (by rw[q5];calc Wq) (by rw[q6,Jh];simp)⟩
    |4,_,_=>calc⟨by rw[o4,W7,rf 4 AY rfl yT],by rw[o4];calc nF _ (Rw.free V7),by rw[o4];calc SY 4 0 AY rfl yT Xk (λx i a es=>by rw[<-Mq x i a,es,gi4]) (by rw[q0];calc V7) (by rw[q1,Jd];simp)⟩
    |5,_,_=>calc⟨by rw[o5,W9,rf 5 AZ rfl yU],by rw[o5];calc nF _ (S2.free QJ),by rw[o5];calc SY 5 1 AZ rfl yU Xl (λx i a es=>by rw[<-Mq x i a,es,gi5]) (by rw[q1];calc QJ) (by rw[q2,Je];simp)⟩
    |6,_,_=>calc⟨by rw[o6,Xb,rf 6 A0 rfl yV],by rw[o6];calc nF _ (S3.free QK),by rw[o6];calc SY 6 2 A0 rfl yV Xm (λx i a es=>by rw[<-Mq x i a,es,gi6]) (by rw[q2];calc QK) (by rw[q3,Jf];simp)⟩
    |(t+7),_,h=>exact absurd h (by lia)
   ·intro b o' e n;obtain⟨k,z2⟩:=dS e n;rw[gV]
    ·exact SF _ _ z2
    ·rintro(z | z)
     ·exact k z
     ·rw[W b z]at z2;cases z2
  have h7F:=h7.aL SF.aV;left;refine eL (SF _ _ g1) (aA (j:=2) rfl) (.inl ⟨⟨_,aU.of (SF _ _ g4)⟩,ir (K:=K) (xs:=lv) (λi σ H'=>(∃z2 z3,σ=[some (V.ref N),some (V.ref d),z2,z3])/\Fr (FP g.n ad) GF H'/\cy F H' d (.ref N) g ((RS.new g).pf (ls.take i)) ad) ?_ ?_ ?_ ?_⟩)
  ·exact⟨⟨_,_,rfl⟩,Fr.refl,hT⟩
  ·rintro i σ H' a ⟨_,fi,_⟩;exact aU.of (fi.at (SF _ _ g4) (λz=>by rw[W _ z]at g4;cases g4))
  ·intro i z σ H' hzz ac3;nofun;obtain⟨⟨z2,z3,rfl⟩,fi,CG⟩:=ac3;have a:i < ls.length:=by rw[<-yy];exact(List.getElem?_eq_some_iff.mp hzz).1
   have j:ls[i]?=some ls[i]:=cP a;have Q6:=(h7F.2 i z (qK ls[i]) hzz (by rw[List.getElem?_map,j];rfl)).aL fi.aV;have IE:=uB _ (aaf a);have L6:(RS.new g).pf (ls.take (i+1))=((RS.new g).pf (ls.take i)).put ls[i].1.toNat ls[i].2 none:=by
    rw[List.take_succ,j];exact pP _
   have AM:=(rA (ls.take i) (AO aZ)).mono (show _<=19998 by simp;lia);generalize ls[i]=p at *;obtain⟨Z,px⟩:=p;obtain⟨tz,u1,u2,kz,rfl,zY,y1,y2⟩:=cD Q6;obtain rfl:=y1.bR;obtain rfl:=y2.bR;have j:=IE.1;have a:=IE.2;simp only at j a;have ej:((Z.toNat:Nat):Int)=Z:=Int.toNat_of_nonneg j;have rz:Z.toNat<g.ws.length:=by lia
   generalize hri:(RS.new g).pf (ls.take i)=ri at *;ac_rfl;calc zo (bI.of zY) ?_;nofun;obtain⟨k,W3,a,nPi,j⟩:=CG.dk;have a:=j 4 (by decide) (by decide);have W5:=j 5 (by decide) (by decide);have k:=CG.cE;obtain⟨w4,x4,j⟩:=k.lst (t:=4) (i:=Z.toNat) rz rfl;ac_rfl;have l:w4.length=(ri.ww Z.toNat).say.length:=by simpa using j.1
   have j:=AM.bs _ rz;have j:=AM.ls _ rz;left;calc bH _ (Ma W3) ?_;left;have j:ia (iH g.n ad 4) Z=some (.ref (ad 4 Z.toNat)):=by have:=aX (n:=g.n) (ad:=ad) (t:=4) rz;rw[ej]at this;exact this
   have rb:ia (iH g.n ad 5) Z=some (.ref (ad 5 Z.toNat)):=by have:=aX (n:=g.n) (ad:=ad) (t:=5) rz;rw[ej]at this;exact this
   calc bu a.1 j ?_;calc⟨.inl ⟨rfl,_,aU.of x4⟩,?_⟩;left;calc ik w4 x4 (small (by lia)) ?_;have bj:=k.app (t:=4) (i:=Z.toNat) rz rfl x4 (dM.one (.int px));have fj:Fr (FP g.n ad) H' (upd H' (ad 4 Z.toNat) (.lst (w4++[.int px]))):=Fr.refl.upd ⟨4,Z.toNat,rz,rfl⟩ x4 trivial;generalize hGj:upd H' (ad 4 Z.toNat) (.lst (w4++[.int px]))=Hj at *;obtain⟨j,a,k⟩:=bj.lst (t:=5) (i:=Z.toNat) rz rfl;have l:j.length=(ri.ww Z.toNat).snd.length:=by simpa using k.1
   left;calc bH _ (Mb (fj.at W3 nPi)) ?_;left;calc bu (fj.at W5.1 W5.2.2) rb ?_;calc⟨.inl ⟨rfl,_,aU.of a⟩,?_⟩;left;calc ik j a (small (by lia)) ?_;have k:=bj.app (t:=5) (i:=Z.toNat) rz rfl a (dM.one (show HD _ 4 .bM (wd none) from .bM));have i:Fr (FP g.n ad) H' (upd Hj (ad 5 Z.toNat) (.lst (j++[.bM]))):=fj.upd ⟨5,Z.toNat,rz,rfl⟩ a trivial;left;calc gW ⟨_,_,rfl,rfl⟩ (fi.trans i) ?_;rw[L6];exact CG.own i (k.congr IX)
  ·intro σ H' ac5;nofun;obtain⟨⟨z2,z3,rfl⟩,fi,CG⟩:=ac5;ac_rfl;left;rw[yy,List.take_length]at CG;calc q d ad H' (λb o e=>?_) W rm CG;calc fi.at (SF _ _ e) (λz=>by rw[W b z]at e;cases e)
theorem Rz{xs:List V}{k:Nat}:dj xs none (some (k:Int))=xs.take k:=by
 unfold dj;have a:HT.eG xs.length 0 none=0:=rfl;have b:HT.eG xs.length xs.length (some (k:Int))=min k xs.length:=by
  show(if (k:Int)<0 then((k:Int)+(xs.length:Int)).toNat else min (k:Int).toNat xs.length)=_;rw[if_neg (by lia)];rfl
 rw[a,b,List.drop_zero,Nat.sub_zero];by_cases h:k<=xs.length
 ·rw[Nat.min_eq_left h]
 ·rw[Nat.min_eq_right (by lia),List.take_of_length_le (Nat.le_refl _),List.take_of_length_le (by lia)]
abbrev gF:Stmt:=(ck (top 27)).getD 3 (.Pass ⟨0,0,0,0⟩)
def Ji(C CN CR:Addr)(c:Nat->Addr):Sp:=λvs H Q E=>∃(F:Addr->Prop) (x b:Addr) (nt:NT) (r:RS) (ad:Nat->Nat->Addr) (m j:Int),vs=[.ref x,.int m,.int j]/\cV C CN CR F H x b nt r ad/\(∀k:Nat,m=k->k<nt.ms.length->0<=j/\j<(((r.mm k).di.length:Nat):Int)->Q .bM H)/\(¬(0<=m/\m<(nt.ms.length:Int))->∀a H',av H H'->H' a=some (XO a (c 11) none false)->E (.ref a) none H')/\∀k:Nat,m=k->k<nt.ms.length->(¬(0<=j/\j<(((r.mm k).di.length:Nat):Int))->∀a H',av H H'->H' a=some (XO a (c 6) none false)->E (.ref a) none H')
theorem pV(D:gQ K CR "need_count" "Run.need_count" gF ["self","m","c"])(T:Tx K mg C CN CR F FD)(n:DI K mg B c)(z:Def P w K mg base "is_within" 2 ["thing","low","beyond"] cm)(G:dR P w K mg base CR "need_machine" 3 ["self","m"] (yM C CN CR c)):dR P w K mg base CR "need_count" 4 ["self","m","c"] (Ji C CN CR c):=by
 have e:aE ["self","m","c"] ["self","m","c"] (ay gF):=by walk_at "s"
 refine D.Li e (λI H Q E h=>?_) (λf O A e s H I Q E g h=>?_)
 ·obtain⟨F,x,p,l,r,ad,m,j,rfl,d,q,u,v⟩:=h;rfl
 ·nofun;obtain⟨F,x,p,l,r,ad,m,j,rfl,d,q,u,v⟩:=h;ac_rfl;have e:=g.units;refine⟨_,(aj (bV (fF G lQ T.aS g (aq 0) (ag (aq 1) aa)))
   (ao (aW (bP (bo (aM z g (ag (aq 2) (ag ai (ag (bc aP rfl T.cp T' (ag (ak e (bJ (aq 0) rfl) (aq 1)) aa)) aa)))))) (ao (xT rfl BR (M4 n.uO (ag aD aa)))) aJ))),?_⟩
  obtain⟨g,o,y,e⟩:=d.ins;have J:=(e 1 (by decide) (by decide)).1;right;calc dU y (dZ (by decide +kernel)) ?_;calc⟨_,x,p,l,r,ad,m,rfl,d,λb=>?_,λL a H' M N=>u L a H' M N⟩;obtain⟨k,rfl⟩:=W' b.1;have e:k<l.ms.length:=by lia
  right;obtain⟨g,h,l⟩:=d.cE.lst (t:=1) (i:=k) e rfl;have d:g.length=(r.mm k).di.length:=by simpa using l.1
  calc fE y T.aS T.bO AB ?_;right;calc bu J (aX e) ?_;calc bH _ (.inl ⟨_,aU.of h,rfl⟩) ?_;calc fS (.int j) _ 0 _ rfl (.int _) ?_;rw[d];by_cases b:0<=j/\j<(((r.mm k).di.length:Nat):Int)
  ·rw[show inR 0 (((r.mm k).di.length:Nat):Int) (.int j)=true by simp only[inR];rw[Bool.and_eq_true,decide_eq_true_eq,decide_eq_true_eq];calc b];calc jT ?_;rw[if_neg (by decide)];right;exact q k rfl e b
  ·rw[show inR 0 (((r.mm k).di.length:Nat):Int) (.int j)=false by rw[<-Bool.not_eq_true];simp only[inR];rw[Bool.and_eq_true,decide_eq_true_eq,decide_eq_true_eq];calc b];calc jT ?_;rw[if_pos (by decide)];right;calc yi (D:=⟨λ_ _=>True,λ_ _=>True,λ_ _=>True,λ_ _=>True⟩) (σ:=[]) (n.cl 6 (by decide)) λa d=>v k rfl e b a _ (sr d) af
abbrev fJ:Stmt:=(ck (top 27)).getD 19 (.Pass ⟨0,0,0,0⟩)
def Jj(C CN CR:Addr)(c:Nat->Addr):Sp:=λvs H Q E=>∃(F:Addr->Prop) (x b:Addr) (nt:NT) (r:RS) (ad:Nat->Nat->Addr) (m j:Int),vs=[.ref x,.int m,.int j]/\cV C CN CR F H x b nt r ad/\(∀k i:Nat,m=k->j=i->k<nt.ms.length->i<(r.mm k).di.length->∀v,HT H 2 v (mC ((r.mm k).di.getD i ([],[])))->Q v H)/\(¬(0<=m/\m<(nt.ms.length:Int))->∀a H',av H H'->H' a=some (XO a (c 11) none false)->E (.ref a) none H')/\∀k:Nat,m=k->k<nt.ms.length->(¬(0<=j/\j<(((r.mm k).di.length:Nat):Int))->∀a H',av H H'->H' a=some (XO a (c 6) none false)->E (.ref a) none H')
theorem mY(D:gQ K CR "state_behind" "Run.state_behind" fJ ["self","m","c"])(T:Tx K mg C CN CR F FD)(s:DI K mg B c)(L:dR P w K mg base CR "need_count" 4 ["self","m","c"] (Ji C CN CR c)):dR P w K mg base CR "state_behind" 5 ["self","m","c"] (Jj C CN CR c):=by
 have g:aE ["self","m","c"] ["self","m","c"] (ay fJ):=by walk_at "s"
 refine D.Li g (λM H Q E h=>?_) (λf R A g s H M Q E v h=>?_)
 ·obtain⟨F,x,y,z,r,ad,m,j,rfl,e,q,G,I⟩:=h;rfl
 ·nofun;obtain⟨F,x,y,z,r,ad,m,j,rfl,e,q,G,I⟩:=h;ac_rfl;have g:=v.units;refine⟨_,(aj (bV (fF L lQ T.aS v (aq 0) (ag (aq 1) (ag (aq 2) aa))))
   (ao (aI (ak g (ak g (bJ (aq 0) rfl) (aq 1)) (aq 2))))),?_⟩
  obtain⟨h,o,J,g⟩:=e.ins;have N:=(g 1 (by decide) (by decide)).1;right;calc dU J (dZ (by decide +kernel)) ?_;calc⟨_,x,y,z,r,ad,m,j,rfl,e,λk l b O=>?_,λn a H' p u=>G n a H' p u,λk l b n a H' p u=>I k l b n a H' p u⟩;nofun;subst l;obtain⟨i,rfl⟩:=W' O.1;ac_rfl;have g:i<(r.mm k).di.length:=by lia
  right;nofun;obtain⟨l,h,j⟩:=e.cE.lst (t:=1) (i:=k) b rfl;obtain⟨v,e,l⟩:=j.get (i:=i) (d:=mC ((r.mm k).di.getD i ([],[]))) (by rw[List.getElem?_map,bA (d:=([],[])) g];rfl);ac_rfl;calc fE J T.aS T.bO AB ?_;right;calc bu N (aX b) ?_;calc bu h (aA e) ?_;calc q k i rfl rfl b g _ (Co (l.cv fC))
abbrev fK:Stmt:=(ck (top 27)).getD 20 (.Pass ⟨0,0,0,0⟩)
def Jk(C CN CR:Addr)(c:Nat->Addr):Sp:=λvs H Q E=>∃(F:Addr->Prop) (x b:Addr) (nt:NT) (r:RS) (ad:Nat->Nat->Addr) (m j:Int),vs=[.ref x,.int m,.int j]/\cV C CN CR F H x b nt r ad/\r.Ok nt/\(∀k i:Nat,m=k->j=i->k<nt.ms.length->i<(r.mm k).di.length->∀l,H l=none->Q (.ref l) (upd H l (.lst (((r.mm k).wp.getD i []).map V.int))))/\(¬(0<=m/\m<(nt.ms.length:Int))->∀a H',av H H'->H' a=some (XO a (c 11) none false)->E (.ref a) none H')/\∀k:Nat,m=k->k<nt.ms.length->(¬(0<=j/\j<(((r.mm k).di.length:Nat):Int))->∀a H',av H H'->H' a=some (XO a (c 6) none false)->E (.ref a) none H')
theorem mZ(D:gQ K CR "words_behind" "Run.words_behind" fK ["self","m","c"])(T:Tx K mg C CN CR F FD)(s:DI K mg B c)(O:dR P w K mg base CR "need_count" 4 ["self","m","c"] (Ji C CN CR c)):dR P w K mg base CR "words_behind" 5 ["self","m","c"] (Jk C CN CR c):=by
 have g:aE ["self","m","c"] ["self","m","c"] (ay fK):=by walk_at "s"
 refine D.Li g (λR H Q E h=>?_) (λf dI A g s H R Q E z h=>?_)
 ·obtain⟨F,x,G,I,r,ad,m,j,rfl,e,n,q,J,L⟩:=h;rfl
 ·nofun;obtain⟨F,x,G,I,r,ad,m,j,rfl,e,n,q,J,L⟩:=h;ac_rfl;have g:=z.units;refine⟨_,(aj (bV (fF O lQ T.aS z (aq 0) (ag (aq 1) (ag (aq 2) aa))))
   (ao (aI (rS (ak g (bJ (aq 0) rfl) (aq 1)) nO (ig (ak g (ak g (bJ (aq 0) rfl) (aq 1)) (aq 2))))))),?_⟩
  obtain⟨h,o,p,g⟩:=e.ins;have S:=(g 2 (by decide) (by decide)).1;have U:=(g 3 (by decide) (by decide)).1;right;calc dU p (dZ (by decide +kernel)) ?_;calc⟨_,x,G,I,r,ad,m,j,rfl,e,λk l b W=>?_,λu a H' v y=>J u a H' v y,λk l b u a H' v y=>L k l b u a H' v y⟩;nofun;subst l;obtain⟨i,rfl⟩:=W' W.1;ac_rfl;have M:i<(r.mm k).di.length:=by lia
  right;nofun;obtain⟨g,X,Y⟩:=e.cE.lst (t:=2) (i:=k) b rfl;obtain⟨g,Z,d3⟩:=e.cE.lst (t:=3) (i:=k) b rfl;have z3:=d3.mB;subst z3;have N:i<(r.mm k).wp.length:=by rw[<-n.lw k b];exact M
  obtain⟨v,ev,dv⟩:=Y.get (i:=i) (d:=.int ((((r.mm k).wp.getD i []).length:Nat):Int)) (by rw[List.getElem?_map,bA (d:=[]) N];rfl);obtain rfl:=dv.bR;ac_rfl;calc fE p T.aS T.cA LX ?_;right;calc bu U (aX b) ?_;calc fE p T.aS T.dC VH ?_;right;calc bu S (aX b) ?_;calc bu X (aA ev) ?_;right;calc .inl ⟨_,Z,λl e=>?_⟩;have g:=n.R3 k b _ (getD_mem (d:=[]) N);have h:dj (((r.mm k).wp.bE []).map V.int) none (some ((((r.mm k).wp.getD i []).length:Nat):Int))=((r.mm k).wp.getD i []).map V.int:=by
   rw[Rz,<-List.map_take,<-List.prefix_iff_eq_take.mp g]
  rw[h];calc q k i rfl rfl b M l e
theorem zb{K:W.Frag}{H:Hp}{n:Nat}{x:V}{d:DV}(h:HD H n x d):∀{m:Nat}{y:V}{k:Nat},HD H m y d->uP d->n<k->kH K H k x y:=by
 induction h with
 |bM=>intro m y k h _ q;cases h;obtain⟨j,rfl⟩:∃j,k=j+1:=⟨k-1,by lia⟩;calc .inl ⟨rfl,rfl⟩
 |bl b=>intro m y k h c q;cases c
 |int i=>intro m y k h _ q;cases h;obtain⟨j,rfl⟩:∃j,k=j+1:=⟨k-1,by lia⟩;calc .inl ⟨rfl,rfl⟩
 |str i=>intro m y k h _ q;cases h;obtain⟨j,rfl⟩:∃j,k=j+1:=⟨k-1,by lia⟩;calc .inl ⟨rfl,rfl⟩
 | @tup n a t g e l i w=>
  intro m y k h c q;obtain⟨j,rfl⟩:∃j,k=j+1:=⟨k-1,by lia⟩
  cases c with
  |tup c=>
  cases h with
  | @tup m b ys _ z B C=>
   calc .inr ⟨a,b,t,ys,rfl,rfl,.inl ⟨bI.of e,bI.of z⟩,l.trans B.symm,λp u v r F=>?_⟩;have o:p<g.length:=by rw[<-l];exact(List.getElem?_eq_some_iff.mp r).1
   calc w p u g[p] r (cP o) (C p v g[p] F (cP o)) (c _ (aaf o)) (by lia)
 | @lst n a t g e l i w=>
  intro m y k h c q;obtain⟨j,rfl⟩:∃j,k=j+1:=⟨k-1,by lia⟩
  cases c with
  |lst c=>
  cases h with
  | @lst m b ys _ z B C=>
   calc .inr ⟨a,b,t,ys,rfl,rfl,.inr ⟨aU.of e,aU.of z⟩,l.trans B.symm,λp u v r F=>?_⟩;have o:p<g.length:=by rw[<-l];exact(List.getElem?_eq_some_iff.mp r).1
   calc w p u g[p] r (cP o) (C p v g[p] F (cP o)) (c _ (aaf o)) (by lia)
 |dict e=>intro m y k h c q;cases c
abbrev pW:Stmt:=top 74
def rD:Sp:=λvs H Q _=>∃(i:Int),vs=[.int i]/\Q (.bl true) H
theorem Ey(D:dq K mg "_law_int" "_law_int" pW ["_law_found"])(T:Tx K mg C CN CR F FD):Def P w K mg base "_law_int" 1 ["_law_found"] rD:=by
 have sc:aE ["_law_found"] ["_law_found"] (ay pW):=by walk_at "s"
 symm
 ·obtain⟨i,rfl,q⟩:=h;rfl
 ·nofun;obtain⟨i,rfl,q⟩:=h;ac_rfl;have a:=hr.units;refine⟨_,(ao (aI (jb (bc cS rfl T.aR qA (ag (aq 0) (ag (cN (v:=.ty "int") rfl T.yf XM rfl) aa))) (ja (Fl (bc cS rfl T.aR qA (ag (aq 0) (ag (cN (v:=.ty "bool") rfl T.Aj PyProof.Rows.boot_bool rfl) aa)))))))),?_⟩;right;refine cL _ true (.int _) rfl ?_;rw[if_pos rfl];exact⟨_,false,.int _,rfl,q⟩
abbrev iN:Stmt:=top 76
def A9:Sp:=λvs H Q _=>∃(a b:Addr) (ns:List Int),vs=[.ref a,.ref b]/\H a=some (.lst (ns.map V.int))/\H b=some (.lst (ns.map V.int))/\ns.length<=15000/\∀H',av H H'->Q (.bl true) H'
theorem sZ(D:dq K mg "_law_is_words" "_law_is_words" iN ["_law_found","_law_due"])(T:Tx K mg C CN CR F FD)(o:Def P w K mg base "_law_int" 1 ["_law_found"] rD):Def P w K mg base "_law_is_words" 2 ["_law_found","_law_due"] A9:=by
 have sc:aE ["_law_found","_law_due"] ["_law_found","_law_due"] (ay iN):=by walk_at "s"
 symm
 ·obtain⟨g,p,ns,rfl,a,k,r,q⟩:=h;rfl
 ·nofun;obtain⟨g,p,ns,rfl,a,k,r,q⟩:=h;ac_rfl;have d:=hr.units;refine⟨_,(aj (aW (PW.pt (pw_or (bP (bo (bc cS rfl T.aR qA (ag (aq 0) (ag (cN (v:=.ty "list") rfl T.e9 ze rfl) aa))))) (pw_or1 (aC (fz d) (dO (N':=["_law_one"]) (ix:=[none]) (cu (pv 0)) (λ_ _ _ _=>(ba (i:=0) (show(["_law_one"]:List Str).Nodup by decide +kernel) rfl (by grind))) (λ_ _ _ _=>(i3 (bP (bo (aM o hr (ag (aq 0) aa)))))) (λ_ _ _ _=>(aq 0))) (bF aa) (aG _))))) (ao (aI gP)) aJ)
   (ao (aI (ie (aT d) (aq 0) (aq 1) (aG _))))),?_⟩
  right;refine cL _ true (.lst a) rfl ?_
  try simp only[Bool.not_true,Bool.false_eq_true,if_false]
  right;calc bT ?_;right;calc .inl ⟨⟨_,aU.of a⟩,λD o=>?_⟩;refine bz (J:=wU K g) (n:=(ns.map V.int).length) (λi c H'=>c=[]/\av H H') (L' (small (by simp;lia))) ⟨rfl,av.new _ o⟩ ?_ ?_ ?_ ?_
  ·rintro i c H' j ⟨_,b⟩;exact⟨_,(ns.map V.int)[i],aU.of (b _ _ a),cP j⟩
  ·rintro c H' ⟨_,b⟩;exact⟨_,aU.of (b _ _ a),K' _⟩
  ·intro i c H' j e l t x B u;nofun;obtain⟨rfl,b⟩:=t;obtain⟨rfl,y⟩:=u;ac_rfl;have m:=y _ (aU.of (b _ _ a));walk_at "xf";obtain⟨z,rfl⟩:∃z,x=.int z:=by
    rw[List.getElem?_map]at m;nofun;obtain⟨z,_,rfl⟩:=Option.map_eq_some_iff.mp m;ac_rfl;exact⟨z,rfl⟩
   right;calc bH z rfl ?_;refine jT ?_
   try rw[if_neg (by decide)]
   exact⟨_,e,by simp,rfl,b⟩
  rintro c H2 e l ⟨rfl,g⟩;clear l;right;calc⟨aal _,λi b=>?_⟩;have c:=av.new (.lst []) b;refine .inl ⟨.inr ⟨_,_,_,_,rfl,rfl,.inr ⟨aU.of (c _ _ e),aU.of af⟩,rfl,λj u v d=>by simp at d⟩,?_⟩
  try rw[if_neg (by decide)]
  right;have b:=g.trans c;calc .inl ⟨zb (jw (b _ _ a) (dM.ints (n:=1) ns)) (jw (b _ _ k) (dM.ints (n:=1) ns)) jX (by decide),?_⟩;calc q _ b
abbrev iO:Stmt:=top 75
def Ba:Sp:=λvs H Q _=>∃(x y:V) (ns row:List Int) (m:Nat),vs=[x,y]/\HT H 2 x (wY ns row)/\HT H m y (wY ns row)/\ns.length<=4/\row.length<=12/\∀H',av H H'->Q (.bl true) H'
theorem tf(D:dq K mg "_law_is_state" "_law_is_state" iO ["_law_found","_law_due"])(T:Tx K mg C CN CR F FD)(O:Def P w K mg base "_law_int" 1 ["_law_found"] rD):Def P w K mg base "_law_is_state" 2 ["_law_found","_law_due"] Ba:=by
 have sc:aE ["_law_found","_law_due","_law_part"] ["_law_found","_law_due"] (ay iO):=by walk_at "s"
 symm
 ·obtain⟨x,y,ns,row,m,rfl,o,p,R,S,q⟩:=h;rfl
 ·nofun;obtain⟨x,y,ns,row,m,rfl,o,p,R,S,q⟩:=h;ac_rfl;have d:=hr.units;refine⟨_,(aj (aW (PW.pt (pw_or (bP (bo (bc cS rfl T.aR qA (ag (aq 0) (ag (cN (v:=.ty "tuple") rfl T.cB tq rfl) aa))))) (pw_or1 (aC (fz d) (bc aP rfl T.cp T' (ag (aq 0) aa)) ai (aG _))))) (ao (aI gP)) aJ)
   (aj (fm PassesOwn.never rfl (cu (pv 0)) (ba (i:=2) sc.nd rfl (by grind))
   (ao (aW (PW.pt (pw_or (bP (bo (bc cS rfl T.aR qA (ag (aq 2) (ag (cN (v:=.ty "tuple") rfl T.cB tq rfl) aa))))) (pw_or1 (aC (fz d) (dO (N':=["_law_one"]) (ix:=[none]) (cu (pv 2)) (λ_ _ _ _=>(ba (i:=0) (show(["_law_one"]:List Str).Nodup by decide +kernel) rfl (by grind))) (λ_ _ _ _=>(i3 (bP (bo (aM O hr (ag (aq 0) aa)))))) (λ_ _ _ _=>(aq 0))) (bF aa) (aG _))))) (ao (aI gP)) aJ)))
   (ao (aI (ie (aT d) (aq 0) (aq 1) (aG _)))))),?_⟩
  nofun;obtain⟨a,u1,u2,k1,rfl,k,U,W⟩:=cD o;obtain⟨u,rfl,X⟩:=qZ U;obtain⟨G,rfl,Y⟩:=qZ W;ac_rfl;right;refine cL _ true (.tup k) rfl ?_
  try simp only[Bool.not_true,Bool.false_eq_true,if_false]
  right;calc bH _ (.inr ⟨_,bI.of k,rfl⟩) ?_;rw[if_neg (by simp)];nofun;obtain⟨Z,w1,w2,k2,rfl,y,_,_⟩:=cD p;ac_rfl;right;refine⟨_,rfl,.inr ⟨⟨_,bI.of k⟩,Kr (K:=K) (xs:=[.ref u,.ref G]) (λi σ H'=>(∃r,σ=[some (V.ref a),some (V.ref Z),r])/\av H H') ?_ ?_ ?_ ?_⟩⟩
  ·exact⟨⟨_,rfl⟩,av.refl H⟩
  ·rintro i σ H' y ⟨_,b⟩;exact bI.of (b _ _ k)
  ·intro i x σ I c pD;nofun;obtain⟨⟨r,rfl⟩,b⟩:=pD;have t:∃(l:Addr) (e:List Int),x=.ref l/\I l=some (.tup (e.map V.int))/\e.length<=12:=by
    match i,c with
    |0,c=>simp at c;subst c;calc⟨u,ns,rfl,b _ _ X,by lia⟩
    |1,c=>simp at c;subst c;calc⟨G,row,rfl,b _ _ Y,by lia⟩
    |(n+2),c=>simp at c
   obtain⟨l,e,rfl,g,c⟩:=t;ac_rfl;right;refine cL _ true (.tup g) rfl ?_
   try simp only[Bool.not_true,Bool.false_eq_true,if_false]
   right;calc bT ?_;right;calc .inr ⟨⟨_,bI.of g⟩,λD c=>?_⟩;refine bz (J:=Kq K l) (n:=(e.map V.int).length) (λi j H'=>j=[]/\av I H') (L' (small (by simp;lia))) ⟨rfl,av.new _ c⟩ ?_ ?_ ?_ ?_
   ·rintro i j H' L ⟨_,b⟩;exact⟨_,(e.map V.int)[i],bI.of (b _ _ g),cP L⟩
   ·rintro j H' ⟨_,b⟩;exact⟨_,bI.of (b _ _ g),K' _⟩
   ·intro i j H' L B M tP x H5 tR;nofun;obtain⟨rfl,b⟩:=tP;obtain⟨rfl,hy⟩:=tR;ac_rfl;have N:=hy _ (bI.of (b _ _ g));walk_at "xf";obtain⟨z,rfl⟩:∃z,x=.int z:=by
     rw[List.getElem?_map]at N;nofun;obtain⟨z,_,rfl⟩:=Option.map_eq_some_iff.mp N;ac_rfl;exact⟨z,rfl⟩
    right;calc bH z rfl ?_;refine jT ?_
    try rw[if_neg (by decide)]
    exact⟨_,B,by simp,rfl,b⟩
   rintro j H2 B M ⟨rfl,e⟩;clear M;right;calc⟨aal _,λc g=>?_⟩;have c:=av.new (.lst []) g;refine .inl ⟨.inr ⟨_,_,_,_,rfl,rfl,.inr ⟨aU.of (c _ _ B),aU.of af⟩,rfl,λj u v d=>by simp at d⟩,?_⟩
   try rw[if_neg (by decide)]
   right;exact⟨⟨_,rfl⟩,b.trans (e.trans c)⟩
  ·intro σ H' wk;nofun;obtain⟨⟨r,rfl⟩,b⟩:=wk;ac_rfl;right;calc .inl ⟨Lm (o.aL b.aV) (p.aL b.aV) (by decide),?_⟩;calc q _ b
abbrev m7:Stmt:=top 77
def CJ(c:Nat->Addr):Sp:=λvs H Q _=>∃(a:Addr) (b:Nat) (d:Bool),vs=[.ref a]/\H a=some (XO a (c b) none d)/\(b=11\/b=6)/\∀H',av H H'->Q (.str (if b=11 then "machine" else "count")) H'
theorem Bb(D:dq K mg "_law_kind" "_law_kind" m7 ["_law_e"])(T:Tx K mg C CN CR F FD)(b:DI K mg B c):Lk P w K mg base "_law_kind" 1 ["_law_e"] (CJ c):=by
 have r:aE ["_law_e","_law_others"] ["_law_e"] (ay m7):=by walk_at "s"
 refine D.okN r (λZ H Q E h=>?_) (λf dI A t s H Z Q E hr h=>?_)
 ·obtain⟨a,d,e,rfl,I,g,q⟩:=h;rfl
 ·nofun;obtain⟨a,d,e,rfl,I,g,q⟩:=h;ac_rfl;have s:=hr.units;refine⟨_,(aj (bb (i:=1) r.nd rfl (by grind) (bc uK rfl T.aR qA (ag (aq 0) (ag (bQ (ag (cF (v:=.ref (c 1)) rfl b.uL rfl) (ag (cF (v:=.ref (c 0)) rfl b.og rfl) (ag (cF (v:=.ref (c 3)) rfl b.xZ rfl) (ag (cF (v:=.ref (c 13)) rfl b.Hg rfl) (ag (cF (v:=.ref (c 18)) rfl b.yb rfl) (ag (cF (v:=.ref (c 7)) rfl b.uM rfl) (ag (cF (v:=.ref (c 4)) rfl b.r9 rfl) (ag (cF (v:=.ref (c 10)) rfl b.x6 rfl) (ag (cF (v:=.ref (c 15)) rfl b.x9 rfl) (ag (cF (v:=.ref (c 17)) rfl b.ya rfl) aa))))))))))) aa))))
   (aj (bb (i:=1) r.nd rfl (by grind) (Tq (aq 1) (ja (bc uK rfl T.aR qA (ag (aq 0) (ag (bQ (ag (cF (v:=.ref (c 16)) rfl b.BW rfl) (ag (cF (v:=.ref (c 2)) rfl b.xY rfl) (ag (cF (v:=.ref (c 5)) rfl b.se rfl) (ag (cF (v:=.ref (c 14)) rfl b.oh rfl) (ag (cF (v:=.ref (c 12)) rfl b.x8 rfl) (ag (cF (v:=.ref (c 8)) rfl b.sf rfl) (ag (cF (v:=.ref (c 9)) rfl b.uN rfl) aa)))))))) aa))))))
   (aj (aW (PW.pt (pw_or (bo (aq 1)) (pw_or (bP (bo (bc nX rfl T.aR qA (ag (aq 0) (ag (cN (v:=.ty "ValueError") rfl T.oq Ln rfl) aa))))) (pw_or1 (aC (aT s) (bc nX rfl T.aR qA (ag (aq 0) (ag (cF (v:=.ref (c 11)) rfl b.qv rfl) aa))) (bc nX rfl T.aR qA (ag (aq 0) (ag (cF (v:=.ref (c 6)) rfl b.pd rfl) aa))) (aG _)))))) (ao (aI aD)) aJ)
   (ao (aI (ak s (bF (ag aD (ag aD aa))) (dQ uj rfl T.yf XM (ag (bc nX rfl T.aR qA (ag (aq 0) (ag (cF (v:=.ref (c 6)) rfl b.pd rfl) aa))) aa)))))))),?_⟩
  have u:=I;generalize hG0:H=J at *;calc L2.cq λh L=>?_;right;calc⟨by show 10<=sizeLine;decide,λo h=>?_⟩;have M:=av.new (.tup [.ref (c 1),.ref (c 0),.ref (c 3),.ref (c 13),.ref (c 18),.ref (c 7),.ref (c 4),.ref (c 10),.ref (c 15),.ref (c 17)]) h;have x:upd J o (.tup [.ref (c 1),.ref (c 0),.ref (c 3),.ref (c 13),.ref (c 18),.ref (c 7),.ref (c 4),.ref (c 10),.ref (c 15),.ref (c 17)]) o=some (.tup [.ref (c 1),.ref (c 0),.ref (c 3),.ref (c 13),.ref (c 18),.ref (c 7),.ref (c 4),.ref (c 10),.ref (c 15),.ref (c 17)]):=af;generalize QY:upd J o (.tup [.ref (c 1),.ref (c 0),.ref (c 3),.ref (c 13),.ref (c 18),.ref (c 7),.ref (c 4),.ref (c 10),.ref (c 15),.ref (c 17)])=N at *;have k:=M _ _ u;calc⟨a,c d,B,none,o,[1,0,3,13,18,7,4,10,15,17].map c,false,e,rfl,k,(λl z=>nomatch z),b.cl d (by lia),x,(wa b (by lia) _ (by decide)).trans (by congr 1;rcases g with rfl|rfl<;>rfl),?_⟩;calc L2.cw L ?_;clear L;calc L2.cq λh O=>?_;right
  try first|rw[if_neg Bool.false_ne_true]|skip
  refine⟨by show 7<=sizeLine;decide,λp h=>?_⟩;have R:=av.new (.tup [.ref (c 16),.ref (c 2),.ref (c 5),.ref (c 14),.ref (c 12),.ref (c 8),.ref (c 9)]) h;have y:upd N p (.tup [.ref (c 16),.ref (c 2),.ref (c 5),.ref (c 14),.ref (c 12),.ref (c 8),.ref (c 9)]) p=some (.tup [.ref (c 16),.ref (c 2),.ref (c 5),.ref (c 14),.ref (c 12),.ref (c 8),.ref (c 9)]):=af;generalize J1:upd N p (.tup [.ref (c 16),.ref (c 2),.ref (c 5),.ref (c 14),.ref (c 12),.ref (c 8),.ref (c 9)])=S at *;have m:=R _ _ k;refine⟨a,c d,B,none,p,[16,2,5,14,12,8,9].map c,false,e,rfl,m,(λl z=>nomatch z),b.cl d (by lia),y,(wa b (by lia) _ (by decide)).trans (by congr 1;rcases g with rfl|rfl<;>rfl),?_⟩;refine L2.cw O ?_;clear O;refine L2.cq λh U=>?_;refine L2.oj λh k hT W=>?_;right;rw[if_neg Bool.false_ne_true];refine⟨a,c d,B,none,_,true,e,rfl,m,(λl z=>nomatch z),b.cl d (by lia),.inr ⟨_,rfl⟩,Qj b (by lia),?_⟩;refine jT ?_;rw[if_neg (by decide)];refine⟨a,c d,B,none,.ref (c 11),decide (d=11),e,rfl,m,(λl z=>nomatch z),b.cl d (by lia),.inl rfl,v9 b (by lia) (by decide),?_⟩;refine⟨a,c d,B,none,.ref (c 6),decide (d=6),e,rfl,m,(λl z=>nomatch z),b.cl d (by lia),.inl rfl,v9 b (by lia) (by decide),?_⟩;refine⟨rfl,?_⟩;refine jT ?_;rw[if_neg (by rcases g with rfl|rfl<;>decide)];refine L2.cw W ?_;right;refine L2.cw U ?_;clear U hT W;right;refine⟨du,λG h=>?_⟩;have X:=av.new (.lst [.str "machine",.str "count"]) h;have n:upd S G (.lst [.str "machine",.str "count"]) G=some (.lst [.str "machine",.str "count"]):=af;generalize QS:upd S G (.lst [.str "machine",.str "count"])=G3 at *;have h:=X _ _ m;refine⟨a,c d,B,none,.ref (c 6),decide (d=6),e,rfl,h,(λl z=>nomatch z),b.cl d (by lia),.inl rfl,v9 b (by lia) (by decide),?_⟩;refine .inr ⟨_,rfl,?_⟩;have Y:=M.trans (R.trans X);rcases g with rfl|rfl
  ·rw[if_neg (by decide)];calc bu n (aA (j:=0) rfl) ?_;exact q _ Y
  ·rw[if_pos (by decide)];calc bu n (aA (j:=1) rfl) ?_;calc q _ Y
abbrev jx:Stmt:=top 78
def CK(C CN CR:Addr):Sp:=λvs H Q _=>∃(F:Addr->Prop) (x b:Addr) (nt:NT) (r:RS) (ad:Nat->Nat->Addr) (a m j:Int) (w':Str),vs=[.ref x,.int a,.int m,.int j]/\cV C CN CR F H x b nt r ad/\r.Ok nt/\0<=a/\a<=4/\((¬(0<=m/\m<(nt.ms.length:Int))/\w'="machine")\/(a<=1/\∃k:Nat,m=k/\k<nt.ms.length/\¬(0<=j/\j<(((r.mm k).di.length:Nat):Int))/\w'="count"))/\∀H',av H H'->Q (.str w') H'
theorem ue(D:dq K mg "_law_refused" "_law_refused" jx ["_law_run","_law_door","_law_m","_law_c"])(T:Tx K mg C CN CR F FD)(O:DI K mg B c)(U:Lk P w K mg base "_law_kind" 1 ["_law_e"] (CJ c))(Y:dR P w K mg base CR "count" 4 ["self","m"] (AG C CN CR c))(Z:dR P w K mg base CR "state" 4 ["self","m"] (Cp C CN CR c))(cM:dR P w K mg base CR "state_behind" 5 ["self","m","c"] (Jj C CN CR c))(fe:dR P w K mg base CR "words" 4 ["self","m"] (AH C CN CR c))(cn:dR P w K mg base CR "words_behind" 5 ["self","m","c"] (Jk C CN CR c)):Def P w K mg base "_law_refused" 6 ["_law_run","_law_door","_law_m","_law_c"] (CK C CN CR):=by
 have sc:aE ["_law_run","_law_door","_law_m","_law_c","_law_found","_law_e"] ["_law_run","_law_door","_law_m","_law_c"] (ay jx):=by walk_at "s"
 symm
 ·obtain⟨F,x,z,t,r,ad,u,m,j,L,rfl,v,R,rm,p,G,q⟩:=h;rfl
 ·nofun;obtain⟨F,x,z,t,r,ad,u,m,j,L,rfl,v,R,rm,p,G,q⟩:=h;ac_rfl;have p:=hr.units;refine⟨_,(aj (bb (i:=4) sc.nd rfl (by grind) aD)
   (aj (Lv (i:=5) rfl rfl sc.nd rfl rfl rfl O.sh (DP O.xb) (wg (aC (aT p) (aq 1) ai (aG _)) (gR (kI (sm cM T.aS hr (aq 0) (ag (aq 2) (ag (aq 3) aa))))) (gR (wg (aC (aT p) (aq 1) ai (aG _)) (gR (kI (sm cn T.aS hr (aq 0) (ag (aq 2) (ag (aq 3) aa))))) (gR (wg (aC (aT p) (aq 1) ai (aG _)) (gR (kI (sm Z T.aS hr (aq 0) (ag (aq 2) aa)))) (gR (wg (aC (aT p) (aq 1) ai (aG _)) (gR (kI (sm fe T.aS hr (aq 0) (ag (aq 2) aa)))) (gR (kI (sm Y T.aS hr (aq 0) (ag (aq 2) aa))))))))))) (λa=>
   (ao (bb (i:=4) sc.nd rfl (by grind) (Qc U (hr.mw a) (ag (aq 5) aa))))))
   (ao (aI (aq 4))))),?_⟩
  obtain⟨p,o,I,T⟩:=v.ins;calc L2.cq λp S=>?_;right;calc L2.cw S ?_;clear S;calc L2.cq λp U=>?_;calc Lw λY T=>?_;have l:∀(p:Nat) (a:Addr) (H2:Hp),(p=11\/p=6)->(if p=11 then("machine":Str) else "count")=L->av H H2->H2 a=some (XO a (c p) none false)->Y (.ref a) none H2:=λp a H2 Y Z s2 g=>by
   refine T a (c p) none H2 g (O.cl p (by lia)) ?_
   try dsimp only[List.set]
   right;calc US a p false rfl g Y (λT O=>?_);rw[Z]
   try dsimp only[List.set]
   calc L2.cw U ?_;right;exact q _ (s2.trans O)
  clear U;have J:¬(0<=m/\m<(t.ms.length:Int))->(if (11:Nat)=11 then("machine":Str) else "count")=L:=λb=>by
   rcases G with⟨_,rfl⟩|⟨_,k,e,d,_,_⟩
   ·rfl
   ·exact absurd ⟨by lia,by lia⟩ b
  have W:∀k:Nat,m=k->k<t.ms.length->¬(0<=j/\j<(((r.mm k).di.length:Nat):Int))->(if (6:Nat)=11 then("machine":Str) else "count")=L:=λk e d _=>by
   rcases G with⟨b,_⟩|⟨_,_,_,_,_,rfl⟩
   ·exact absurd ⟨by lia,by lia⟩ b
   ·rfl
  have X:∀k i:Nat,m=k->j=i->k<t.ms.length->i<(r.mm k).di.length->False:=λk i n M d N=>by
   rcases G with⟨b,_⟩|⟨_,k',p,q,b,_⟩
   ·exact b ⟨by lia,by lia⟩
   ·obtain rfl:k=k':=by lia
    exact b ⟨by lia,by lia⟩
  have y:1<u->∀k:Nat,m=k->k<t.ms.length->False:=λp k n d=>by
   rcases G with⟨b,_⟩|⟨S,_⟩
   ·exact b ⟨by lia,by lia⟩
   ·lia
  obtain rfl|rfl|rfl|rfl|rfl:u=0\/u=1\/u=2\/u=3\/u=4:=by lia
  ·right;rw[if_pos (by decide)];calc dU I (dZ (by decide +kernel)) ?_;exact⟨F,x,z,t,r,ad,m,j,rfl,v,λk i n M d N=>absurd (X k i n M d N) id,λb a H' p g=>l 11 a H' (.inl rfl) (J b) p g,λk n d b a H' p g=>l 6 a H' (.inr rfl) (W k n d b) p g⟩
  ·right;rw[if_neg (by decide)];rw[if_pos (by decide)];calc dU I (dZ (by decide +kernel)) ?_;exact⟨F,x,z,t,r,ad,m,j,rfl,v,R,λk i n M d N=>absurd (X k i n M d N) id,λb a H' p g=>l 11 a H' (.inl rfl) (J b) p g,λk n d b a H' p g=>l 6 a H' (.inr rfl) (W k n d b) p g⟩
  ·right;rw[if_neg (by decide)];rw[if_neg (by decide)];rw[if_pos (by decide)];calc dU I (dZ (by decide +kernel)) ?_;exact⟨F,x,z,t,r,ad,m,rfl,v,R,λk n d=>absurd (y (by decide) k n d) id,λb a H' p g=>l 11 a H' (.inl rfl) (J b) p g⟩
  ·right;rw[if_neg (by decide)];rw[if_neg (by decide)];rw[if_neg (by decide)];rw[if_pos (by decide)];calc dU I (dZ (by decide +kernel)) ?_;exact⟨F,x,z,t,r,ad,m,rfl,v,λk n d=>absurd (y (by decide) k n d) id,λb a H' p g=>l 11 a H' (.inl rfl) (J b) p g⟩
  ·right;rw[if_neg (by decide)];rw[if_neg (by decide)];rw[if_neg (by decide)];rw[if_neg (by decide)];calc dU I (dZ (by decide +kernel)) ?_;calc⟨F,x,z,t,r,ad,m,rfl,v,λk n d=>absurd (y (by decide) k n d) id,λb a H' p g=>l 11 a H' (.inl rfl) (J b) p g⟩
structure wI(C CN CR:Addr)(F1 F2:Addr->Prop)(H:Hp)(x bG d:Addr)(tn:V)(nt:NT)(r:RS)(fU gN:Nat->Nat->Addr):Prop where
 run:cV C CN CR F1 H x bG nt r fU
 twin:cy F2 H d tn nt r gN
 ok:r.Ok nt
 MR:r.picks.length<=400
theorem wI.same{C CN CR:Addr}{a b:Addr->Prop}{x c:Addr}{nt:NT}{e f:Nat->Nat->Addr}(h:wI C CN CR a b H x c d tn nt r e f)(s:av H H'):wI C CN CR a b H' x c d tn nt r e f:=⟨h.run.same s,h.twin.same s,h.ok,h.MR⟩
theorem cy.Y4{F:Addr->Prop}{nt:NT}(h:cy F H d tn nt r ad)(e:r.Ok nt){m i:Nat}(c:m<nt.ms.length)(f:i<(r.mm m).di.length):∃b lw,H (ad 2 m)=some (.lst b)/\b[i]?=some (.ref lw)/\H lw=some (.lst (((r.mm m).wp.getD i []).map V.int)):=by
 obtain⟨b,g,j⟩:=h.cE.lst (t:=2) (i:=m) c rfl;have k:i<(r.mm m).wp.length:=by rw[<-e.lw m c];exact f
 obtain⟨v,l,n⟩:=j.get (i:=i) (d:=.lst (((r.mm m).wp.getD i []).map .int)) (by rw[List.getElem?_map,bA (d:=[]) k];rfl);obtain⟨a,rfl,c⟩:=rB (n.cv fC);calc⟨b,a,g,l,c⟩
theorem cy.sat{F:Addr->Prop}{nt:NT}(h:cy F H d tn nt r ad){m i:Nat}(c:m<nt.ms.length)(e:i<(r.mm m).di.length):∃a v,H (ad 1 m)=some (.lst a)/\a.length=(r.mm m).di.length/\a[i]?=some v/\HT H 2 v (mC ((r.mm m).di.getD i ([],[]))):=by
 obtain⟨a,f,b⟩:=h.cE.lst (t:=1) (i:=m) c rfl;obtain⟨v,g,h⟩:=b.get (i:=i) (d:=mC ((r.mm m).di.getD i ([],[]))) (by rw[List.getElem?_map,bA (d:=([],[])) e];rfl);calc⟨a,v,f,by simpa using b.1,g,Co (h.cv fC)⟩
abbrev kh:Stmt:=top 79
inductive Jl(C CN CR:Addr)(vs:List V)(H:Hp)(Q:VK):Prop
 |mk (F1 F2:Addr->Prop) (x bG d:Addr) (tn:V) (nt:NT) (r:RS) (fU gN:Nat->Nat->Addr) (m i:Nat) (h0:vs=[.ref x,.ref d,.int (m:Nat),.int (i:Nat)]) (h1:wI C CN CR F1 F2 H x bG d tn nt r fU gN) (h2:m<nt.ms.length) (h3:i<(r.mm m).di.length) (h4:∀H',av H H'->Q (.bl true) H'):Jl C CN CR vs H Q
def wJ(C CN CR:Addr):Sp:=λvs H Q _=>Jl C CN CR vs H Q
theorem wK(D:dq K mg "_law_behind" "_law_behind" kh ["_law_run","_law_own","_law_m","_law_c"])(T:Tx K mg C CN CR F FD)(d7:Def P w K mg base "_law_is_state" 2 ["_law_found","_law_due"] Ba)(v:Def P w K mg base "_law_is_words" 2 ["_law_found","_law_due"] A9)(cM:dR P w K mg base CR "state_behind" 5 ["self","m","c"] (Jj C CN CR c))(S:dR P w K mg base CR "words_behind" 5 ["self","m","c"] (Jk C CN CR c)):Def P w K mg base "_law_behind" 6 ["_law_run","_law_own","_law_m","_law_c"] (wJ C CN CR):=by
 have sc:aE ["_law_run","_law_own","_law_m","_law_c","_law_words"] ["_law_run","_law_own","_law_m","_law_c"] (ay kh):=by walk_at "s"
 symm
 ·obtain⟨p,F2,x,G,d,tn,I,r,J,gN,m,i,rfl,a,j,u,q⟩:=h;rfl
 ·nofun;obtain⟨p,F2,x,G,d,tn,I,r,J,gN,m,i,rfl,a,j,u,q⟩:=h;ac_rfl;have p:=hr.units;refine⟨_,(aj (bb (i:=4) sc.nd rfl (by grind) (fF S oo T.aS hr (aq 0) (ag (aq 2) (ag (aq 3) aa))))
   (aj (aW (PW.pt (pw_or (bP (bo (aM d7 hr (ag (fF cM oo T.aS hr (aq 0) (ag (aq 2) (ag (aq 3) aa))) (ag (ak p (ak p (ak p (aq 1) aD) (aq 2)) (aq 3)) aa))))) (pw_or1 (bP (bo (aM v hr (ag (aq 4) (ag (ak p (ak p (ak p (aq 1) aD) (aq 2)) (aq 3)) aa)))))))) (ao (aI gP)) aJ)
   (aj (bV (dA nJ qm qo bW (aq 4) (ag ai aa)))
   (ao (aI (aM v hr (ag (fF S oo T.aS hr (aq 0) (ag (aq 2) (ag (aq 3) aa))) (ag (ak p (ak p (ak p (aq 1) aD) (aq 2)) (aq 3)) aa)))))))),?_⟩
  nofun;obtain⟨p,o,N,v⟩:=a.run.ins;obtain⟨p,O,v,S,R⟩:=a.twin.dk;ac_rfl;have Ef:=a.twin.ok.gd j;have X:=a.ok.so m j _ (getD_mem (d:=([],[])) u);have p:=a.ok.bw m j _ (getD_mem (l:=(r.mm m).wp) (i:=i) (d:=[]) (by rw[<-a.ok.lw m j];calc u));have p:=a.MR;have Y:=av.refl H;have t:∀g:Nat,((m:Nat):Int)=g->0<=((i:Nat):Int)/\((i:Nat):Int)<(((r.mm g).di.length:Nat):Int):=λg e=>by
   obtain rfl:m=g:=by lia
   exact⟨by lia,by lia⟩
  calc L2.cq λp Z=>?_;right;calc dU (Y _ _ N) (dZ (by decide +kernel)) ?_;calc⟨_,x,G,I,r,J,((m:Nat):Int),((i:Nat):Int),rfl,a.run.same Y,a.ok,λg B n L _ _ y DZ=>?_,λk=>absurd ⟨by lia,by lia⟩ k,λg n _ k=>absurd (t g n) k⟩;nofun;obtain rfl:m=g:=by lia
  obtain rfl:i=B:=by lia
  have z:=av.new (.lst (((r.mm m).wp.getD i []).map V.int)) DZ;have Xt:upd H y (.lst (((r.mm m).wp.getD i []).map V.int)) y=some (.lst (((r.mm m).wp.getD i []).map V.int)):=af;generalize QY:upd H y (.lst (((r.mm m).wp.getD i []).map V.int))=G1 at *;ac_rfl;calc L2.cw Z ?_;clear Z;calc L2.cq λp h2=>?_;calc L2.oj λp v hT hU=>?_;right;calc dU (z _ _ N) (dZ (by decide +kernel)) ?_;calc⟨_,x,G,I,r,J,((m:Nat):Int),((i:Nat):Int),rfl,a.run.same z,λg B n L _ _ sv Io=>?_,λk=>absurd ⟨by lia,by lia⟩ k,λg n _ k=>absurd (t g n) k⟩;nofun;obtain rfl:m=g:=by lia
  obtain rfl:i=B:=by lia
  ac_rfl;right;calc bH _ (wG (z _ _ O)) ?_;nofun;obtain⟨S,v,n,Y,p,T⟩:=(a.twin.same z).sat j u;ac_rfl;right;calc bu (z _ _ (R 1 (by decide) (by decide)).1) (aX j) ?_;calc bu n (aA p) ?_;calc Qn sv v _ _ 2 rfl Io T (by rw[X.ln];calc Ef.l4) X.lr (λH2 S=>?_);calc jT ?_;rw[if_neg (by decide)];have p:=z.trans S;calc bH _ (Ek (p _ _ O)) ?_;nofun;obtain⟨v,lw,L,T,X⟩:=(a.twin.same p).Y4 a.ok j u;ac_rfl;right;calc bu (p _ _ (R 2 (by decide) (by decide)).1) (aX j) ?_;calc bu L (aA T) ?_;calc UT y lw _ rfl (S _ _ Xt) X (by lia) (λH3 v=>?_);calc jT ?_;rw[if_neg (by decide)];calc L2.cw hU ?_;right;calc L2.cw h2 ?_;clear h2 hT hU;have T:=p.trans v;have z:=(S.trans v) _ _ Xt;calc L2.cq λp h3=>?_;right;calc⟨.inl ⟨rfl,_,aU.of z⟩,_,z,small (by rw[List.length_map];lia),?_⟩;have U:av H (upd H3 y (.lst (((r.mm m).wp.getD i []).map V.int++[.int 0]))):=λb o e=>by rw[az (au e DZ)];exact T _ _ e
  generalize VN:upd H3 y (.lst (((r.mm m).wp.getD i []).map V.int++[.int 0]))=G4 at *;calc L2.cw h3 ?_;clear h3;right;calc dU (U _ _ N) (dZ (by decide +kernel)) ?_;calc⟨_,x,G,I,r,J,((m:Nat):Int),((i:Nat):Int),rfl,a.run.same U,a.ok,λg B n L _ _ M W=>?_,λk=>absurd ⟨by lia,by lia⟩ k,λg n _ k=>absurd (t g n) k⟩;nofun;obtain rfl:m=g:=by lia
  obtain rfl:i=B:=by lia
  have s5:=av.new (.lst (((r.mm m).wp.getD i []).map V.int)) W;have Y5:upd G4 M (.lst (((r.mm m).wp.getD i []).map V.int)) M=some (.lst (((r.mm m).wp.getD i []).map V.int)):=af;generalize QU:upd G4 M (.lst (((r.mm m).wp.getD i []).map V.int))=G5 at *;ac_rfl;have g:=U.trans s5;calc bH _ (Ek (g _ _ O)) ?_;nofun;obtain⟨p,i,t,k,n⟩:=(a.twin.same g).Y4 a.ok j u;ac_rfl;right;calc bu (g _ _ (R 2 (by decide) (by decide)).1) (aX j) ?_;calc bu t (aA k) ?_;calc⟨M,i,_,rfl,Y5,n,by lia,λv p=>q _ (g.trans p)⟩
theorem RB:Fy 10 59:=⟨by decide,by decide,by decide +kernel⟩
theorem Oa:(0:Int)<10^Int.toNat 59:=by decide +kernel
abbrev lg:Stmt:=top 80
inductive Jm(C CN CR:Addr)(vs:List V)(H:Hp)(Q:VK):Prop
 |mk (F1 F2:Addr->Prop) (x bG d:Addr) (tn:V) (nt:NT) (r:RS) (fU gN:Nat->Nat->Addr) (z:Int) (h0:vs=[.ref x,.ref d,.int z]) (h1:wI C CN CR F1 F2 H x bG d tn nt r fU gN) (h4:∀H',av H H'->Q (.bl true) H'):Jm C CN CR vs H Q
def CL(C CN CR:Addr):Sp:=λvs H Q _=>Jm C CN CR vs H Q
theorem zc(D:dq K mg "_law_asked" "_law_asked" lg ["_law_run","_law_own","_law_cell"])(T:Tx K mg C CN CR F FD)(eD:Def P w K mg base "_law_behind" 6 ["_law_run","_law_own","_law_m","_law_c"] (wJ C CN CR))(gO:Def P w K mg base "_law_refused" 6 ["_law_run","_law_door","_law_m","_law_c"] (CK C CN CR)):Def P w K mg base "_law_asked" 7 ["_law_run","_law_own","_law_cell"] (CL C CN CR):=by
 have sc:aE ["_law_run","_law_own","_law_cell","_law_many","_law_far","_law_m","_law_last","_law_stranger"] ["_law_run","_law_own","_law_cell"] (ay lg):=by walk_at "s"
 symm
 ·obtain⟨F1,F2,x,J,d,tn,b,r,L,N,z,rfl,c,q⟩:=h;rfl
 ·nofun;obtain⟨F1,F2,x,J,d,tn,b,r,L,N,z,rfl,c,q⟩:=h;ac_rfl;have k:=hr.units;refine⟨_,(aj (bb (i:=3) sc.nd rfl (by grind) (bc aP rfl T.cp T' (ag (ak k (aq 1) aD) aa)))
   (aj (bb (i:=4) sc.nd rfl (by grind) (aQ cH (aQ eE (aq 2) ai) (aQ nQ ai ai)))
   (aj (bb (i:=5) sc.nd rfl (by grind) (aQ cH (aQ eE (aq 2) ai) (aq 3)))
   (aj (bb (i:=6) sc.nd rfl (by grind) (aQ ei (bc aP rfl T.cp T' (ag (ak k (ak k (aq 1) aD) (aq 5)) aa)) ai))
   (aj (aW (aC (aT k) (aQ cH (aq 2) ai) ai (aG _)) (aj (bb (i:=7) sc.nd rfl (by grind) (ak k (bF (ag (aQ cC (aq 3) (aq 4)) (ag (aQ ei (jI gu ai) (aq 4)) aa))) (aQ cH (aQ eE (aq 2) ai) ai)))
   (ao (aI (ie (aT k) (aM gO hr (ag (aq 0) (ag (aQ cH (aQ eE (aq 2) ai) ai) (ag (aq 7) (ag (ak k (bF (ag ai (ag (jI gu ai) (ag (aq 4) aa)))) (aQ cH (aQ eE (aq 2) ai) ai)) aa))))) aD (aG _))))) aJ)
   (aj (aW (aC (aT k) (aQ cH (aq 2) ai) ai (aG _)) (aj (bb (i:=7) sc.nd rfl (by grind) (ak k (bF (ag (aQ cC (aQ cC (aq 6) ai) (aq 4)) (ag (aQ ei (jI gu ai) (aq 4)) (ag (aQ cC (aq 6) ai) (ag (jI gu ai) aa))))) (aQ cH (aQ eE (aq 2) ai) ai)))
   (ao (aI (ie (aT k) (aM gO hr (ag (aq 0) (ag (aQ cH (aQ eE (aq 2) ai) ai) (ag (aq 5) (ag (aq 7) aa))))) aD (aG _))))) aJ)
   (ao (aI (aM eD hr (ag (aq 0) (ag (aq 1) (ag (aq 5) (ag (aQ cH (aQ eE (aq 2) ai) (aQ cC (aq 6) ai)) aa))))))))))))),?_⟩
  nofun;obtain⟨k,o,T,ho⟩:=c.run.ins;obtain⟨T,hd,nF,nP,k⟩:=c.twin.dk;ac_rfl;have l1:=(k 1 (by decide) (by decide)).1;have T:=c.twin.ok.ms1;have k:=c.twin.ok.UQ;have k:(iH b.n N 1).length=b.ms.length:=oC;calc L2.cq λN1 T=>?_;right;calc⟨_,wG hd,_,.inl ⟨_,aU.of l1,rfl⟩,?_⟩;rw[k];calc L2.cw T ?_;clear T;calc L2.cq λN2 h2=>?_;right;calc aau ⟨by decide,by decide +kernel⟩ RB Oa ?_;have k:0<=z/30%10^Int.toNat 59:=aaK _ (by have:=Oa;lia);generalize z/30%10^Int.toNat 59=a at *;calc L2.cw h2 ?_;clear h2;calc L2.cq λk h3=>?_;right;calc gW ⟨by decide,by decide +kernel⟩ (by lia) ?_;have QC:0<=z/6%((b.ms.length:Nat):Int):=aaK _ (by lia);have k:z/6%((b.ms.length:Nat):Int)<((b.ms.length:Nat):Int):=aaG _ (by lia);nofun;generalize z/6%((b.ms.length:Nat):Int)=mz at *;obtain⟨m,rfl⟩:=W' QC;ac_rfl;have G:m<b.ms.length:=by lia
  calc L2.cw h3 ?_;clear h3;obtain⟨k,T,d1⟩:=c.twin.cE.lst (t:=1) (i:=m) G rfl;have z1:k.length=(r.mm m).di.length:=by simpa using d1.1
  have k:=c.ok.we G;calc L2.cq λN4 k=>?_;right;calc bH _ (wG hd) ?_;right;calc bu l1 (aX G) ⟨_,.inl ⟨_,aU.of T,rfl⟩,?_⟩;rw[z1];calc L2.cw k ?_;clear k;calc L2.cq λN5 l=>?_;calc L2.oj λT0 U0 p u=>?_;right;calc⟨by decide,?_⟩;by_cases zX:z%6=1
  ·rw[if_pos (by simpa using zX)];calc L2.cw p ?_;clear p u l;calc L2.cq λN6 I=>?_;right;calc⟨du,λv O=>⟨⟨by decide,by decide +kernel⟩,by decide,?_⟩⟩;have M:=av.new (.lst [.int ((b.ms.length:Nat)+a),.int (-1-a)]) O;have R:upd H v (.lst [.int ((b.ms.length:Nat)+a),.int (-1-a)]) v=some (.lst [.int ((b.ms.length:Nat)+a),.int (-1-a)]):=af;generalize QY:upd H v (.lst [.int ((b.ms.length:Nat)+a),.int (-1-a)])=S at *;obtain⟨g,y,B⟩:∃g:Int,ia [V.int ((b.ms.length:Nat)+a),.int (-1-a)] (z/30%2)=some (.int g)/\¬(0<=g/\g<(b.ms.length:Int)):=by
    have:z/30%2=0\/z/30%2=1:=by lia
    rcases this with e|e<;>rw[e]
    ·exact⟨_,aA (j:=0) rfl,by lia⟩
    ·exact⟨_,aA (j:=1) rfl,by lia⟩
   calc bu R y ?_;calc L2.cw I ?_;clear I;right;calc⟨⟨by decide,by decide +kernel⟩,by decide,by show 3<=sizeLine;decide,λU k=>⟨⟨by decide,by decide +kernel⟩,by decide,?_⟩⟩;have s2:=av.new (.lst [.int 0,.int (-1),.int a]) k;have W:upd S U (.lst [.int 0,.int (-1),.int a]) U=some (.lst [.int 0,.int (-1),.int a]):=af;generalize J1:upd S U (.lst [.int 0,.int (-1),.int a])=G2 at *;obtain⟨X,Y⟩:∃X:Int,ia [V.int 0,.int (-1),.int a] (z/60%3)=some (.int X):=by
    have:z/60%3=0\/z/60%3=1\/z/60%3=2:=by lia
    rcases this with e|e|e<;>rw[e]
    ·exact⟨_,aA (j:=0) rfl⟩
    ·exact⟨_,aA (j:=1) rfl⟩
    ·exact⟨_,aA (j:=2) rfl⟩
   refine bu W Y ?_;have k:=M.trans s2;refine⟨_,x,J,b,r,L,_,g,X,"machine",rfl,c.run.same k,c.ok,by lia,by lia,.inl ⟨B,rfl⟩,λH3 Z=>?_⟩;right;exact q _ (k.trans Z)
  ·rw[if_neg (by simpa using zX)];calc L2.cw u ?_;right;calc L2.cw l ?_;clear p u l;calc L2.cq λN5 l=>?_;calc L2.oj λT0 U0 p u=>?_;right;calc⟨by decide,?_⟩;by_cases zY:z % 6=2
   ·rw[if_pos (by simpa using zY)];calc L2.cw p ?_;clear p u l;generalize hn:(((r.mm m).di.length:Nat):Int)-1=n1 at *;calc L2.cq λN6 I=>?_;right;calc⟨by show 4<=sizeLine;decide,λv O=>⟨⟨by decide,by decide +kernel⟩,by decide,?_⟩⟩;have M:=av.new (.lst [.int (n1+1+a),.int (-1-a),.int (n1+1),.int (-1)]) O;have R:upd H v (.lst [.int (n1+1+a),.int (-1-a),.int (n1+1),.int (-1)]) v=some (.lst [.int (n1+1+a),.int (-1-a),.int (n1+1),.int (-1)]):=af;generalize QY:upd H v (.lst [.int (n1+1+a),.int (-1-a),.int (n1+1),.int (-1)])=S at *;obtain⟨g,y,B⟩:∃g:Int,ia [V.int (n1+1+a),.int (-1-a),.int (n1+1),.int (-1)] (z/60%4)=some (.int g)/\¬(0<=g/\g<(((r.mm m).di.length:Nat):Int)):=by
     have:z/60%4=0\/z/60%4=1\/z/60%4=2\/z/60%4=3:=by lia
     rcases this with e|e|e|e<;>rw[e]
     ·exact⟨_,aA (j:=0) rfl,by lia⟩
     ·exact⟨_,aA (j:=1) rfl,by lia⟩
     ·exact⟨_,aA (j:=2) rfl,by lia⟩
     ·exact⟨_,aA (j:=3) rfl,by lia⟩
    refine bu R y ?_;refine L2.cw I ?_;clear I;right;refine gW ⟨by decide,by decide +kernel⟩ (by decide) ?_;refine⟨_,x,J,b,r,L,_,((m:Nat):Int),g,"count",rfl,c.run.same M,c.ok,by lia,by lia,.inr ⟨by lia,m,rfl,G,B,rfl⟩,λH3 Z=>?_⟩;right;exact q _ (M.trans Z)
   ·rw[if_neg (by simpa using zY)];calc L2.cw u ?_;right;calc L2.cw l ?_;clear p u l;right;calc gW ⟨by decide,by decide +kernel⟩ (by lia) ?_;have Aw:0<=z/30%((((r.mm m).di.length:Nat):Int)-1+1):=aaK _ (by lia);have a:z/30%((((r.mm m).di.length:Nat):Int)-1+1)<(((r.mm m).di.length:Nat):Int)-1+1:=aaG _ (by lia);nofun;generalize z/30%((((r.mm m).di.length:Nat):Int)-1+1)=iz at *;obtain⟨i,rfl⟩:=W' Aw;ac_rfl;calc⟨F1,F2,x,J,d,tn,b,r,L,N,m,i,rfl,c,G,by lia,q⟩
theorem cy.weak{F c:Addr->Prop}{nt:NT}(h:cy F H d tn nt r ad)(s:av H H')(g:∀b,c b->H b=none):cy c H' d tn nt r ad:=by
 have f:∀{b:Addr} {o:HO},H b=some o->¬c b:=λ{b o} e z=>by rw[g b z]at e;cases e
 have j:Cv (jR (λb=>F b\/FP nt.n ad b) H) (jR (λb=>c b\/FP nt.n ad b) H'):=λb u g n=>by
  obtain⟨i,c⟩:=dS g n;rw[gV (λz=>z.elim (f c) (λq=>i (.inr q)))];exact s _ _ c
 obtain⟨⟨o,i,n,k,c⟩,g,⟨ls,l⟩,m⟩:=h;refine⟨⟨o,s _ _ i,f i,k,λt a b=>⟨s _ _ (c t a b).1,f (c t a b).1,(c t a b).2.2⟩⟩,⟨g.inj,λt i h=>?_,λt i h=>?_⟩,⟨ls,l.cv j⟩,m⟩
 ·obtain⟨c,e,_⟩:=g.EO t i h;exact f e
 ·obtain⟨c,e,f⟩:=g.EO t i h;calc⟨c,s _ _ e,f.cv j⟩
theorem RC{K:W.Frag}{xs:List V}(f:Fr Z H H')(n:¬Z a)(h:aU K H a xs):aU K H' a xs:=by
 rcases h with(h|⟨o,h⟩)|h
 ·exact .inl (.inl (f.at h n))
 ·exact .inl (.inr ⟨o,f.at h n⟩)
 ·calc .inr h
theorem Jn{nt:NT}{w k:Nat}:((r.pick nt w k).mm (nt.goal w)).di.length=(r.mm (nt.goal w)).di.length+1:=by
 unfold RS.pick;rw[(RS.q9 _).1];simp[RS.step]
abbrev vj:Stmt:=top 81
def wL(K:W.Frag):Sp:=λvs H Q _=>∃(a:Addr) (ns:List Int),vs=[.ref a]/\aU K H a (ns.map V.int)/\ns.length<=63/\∀H',Q (.bl true) H'
theorem RD{f:Addr}{fd:FuncData}(D:EJ K "law" "law" vj f fd)(T:Tx K mg C CN CR F FD)(lj:Def P w K mg base "_law_asked" 7 ["_law_run","_law_own","_law_cell"] (CL C CN CR))(gm:Def P w K mg base "_law_at" 1 ["_law_script","_law_k"] (HK K))(lp:Def P w K mg base "_law_begun" 1 ["_law_net_here"] CH)(eD:Def P w K mg base "_law_behind" 6 ["_law_run","_law_own","_law_m","_law_c"] (wJ C CN CR))(nc:Def P w K mg base "_law_free" 2 ["_law_run"] II)(fg:Def P w K mg base "_law_int" 1 ["_law_found"] rD)(d7:Def P w K mg base "_law_is_state" 2 ["_law_found","_law_due"] Ba)(dg:Def P w K mg base "_law_is_words" 2 ["_law_found","_law_due"] A9)(pX:Def P w K mg base "_law_net" 5 ["_law_script"] (CB K))(iP:Def P w K mg base "_law_net_made" 9 ["_law_net_here"] (vi C CN))(ng:Def P w K mg base "_law_pick" 3 ["_law_run","_law_way","_law_number"] CC)(fc:dR P w K mg base CR "count" 4 ["self","m"] (AG C CN CR c))(nh:eV P w K mg base CR "pick" 7 ["self","way","number"] (IA C CN CR))(dE:dR P w K mg base CR "state" 4 ["self","m"] (Cp C CN CR c))(fe:dR P w K mg base CR "words" 4 ["self","m"] (AH C CN CR c))(Jo:xO P w K mg base "Run" CR 2 ["self","net"] (Cw C CN CR)):jJ P w K mg base wW 10 f fd ["_law_script"] (wL K):=by
 have L:aE ["_law_script","_law_net_here","_law_own","_law_run","_law_asked_here","_law_cell","_law_free_here","_law_way","_law_number","_law_m","_law_c","_law_last","_law_words"] ["_law_script"] (ay vj):=by walk_at "s"
 refine D.ok L (λvs H Q E h=>?_) (λdI A outer s H vs Q E u h=>?_)
 ·obtain⟨a,ns,rfl,hS,YN,q⟩:=h;rfl
 ·nofun;obtain⟨a,ns,rfl,hS,YN,q⟩:=h;ac_rfl;have G:=u.units;refine⟨_,(aj (bb (i:=1) L.nd rfl (by grind) (aM pX u (ag (aq 0) aa)))
   (aj (bb (i:=2) L.nd rfl (by grind) (aM lp u (ag (aq 1) aa)))
   (aj (bb (i:=3) L.nd rfl (by grind) (GZ Jo u (ag (aM iP u (ag (aq 1) aa)) aa)))
   (aj (bb (i:=4) L.nd rfl (by grind) (Hu (aq 0) (ig ai) (ig ai)))
   (aj (fm PassesOwn.never rfl (cu (Hu (aq 0) (ig ai) (ig ai))) (ba (i:=5) L.nd rfl (by grind))
   (aj (bb (i:=6) L.nd rfl (by grind) (aM nc u (ag (aq 2) aa)))
   (ao (aW (aC (fz G) (aq 6) (bF aa) (aG _)) (aj (fA (ak G (aq 6) (aQ cH (aq 5) (bc aP rfl T.cp T' (ag (aq 6) aa)))) (iB (i:=7) (j:=8) rfl L.nd rfl rfl (by grind) (by grind)))
   (aj (fA (aM ng u (ag (aq 2) (ag (aq 7) (ag (aq 8) aa)))) (iB (i:=9) (j:=10) rfl L.nd rfl rfl (by grind) (by grind)))
   (aj (bV (kq nh T.aS u (aq 3) (ag (aq 7) (ag (aq 8) aa))))
   (ao (aW (bP (bo (aM eD u (ag (aq 3) (ag (aq 2) (ag (aq 9) (ag (aq 10) aa))))))) (ao (aI gP)) aJ))))) aJ))))
   (aj (fm PassesOwn.never rfl (cu (aQ cC (bF (ag (aM gm u (ag (aq 0) (ag ai aa))) aa)) (aq 4))) (ba (i:=5) L.nd rfl (by grind))
   (ao (aW (bP (bo (aM lj u (ag (aq 3) (ag (aq 2) (ag (aq 5) aa)))))) (ao (aI gP)) aJ)))
   (aj (fm PassesOwn.never rfl (dw rfl T.ff (ag (bc aP rfl T.cp T' (ag (ak G (aq 2) aD) aa)) aa)) (ba (i:=9) L.nd rfl (by grind))
   (aj (bb (i:=11) L.nd rfl (by grind) (aQ ei (bc aP rfl T.cp T' (ag (ak G (ak G (aq 2) aD) (aq 9)) aa)) ai))
   (aj (aW (PW.pt (pw_or (bP (bo (aM fg u (ag (fF fc oo T.aS u (aq 3) (ag (aq 9) aa)) aa)))) (pw_or1 (aC (fz G) (fF fc oo T.aS u (aq 3) (ag (aq 9) aa)) (aq 11) (aG _))))) (ao (aI gP)) aJ)
   (aj (fm PassesOwn.never rfl (dw rfl T.ff (ag (aQ cC (aq 11) ai) aa)) (ba (i:=10) L.nd rfl (by grind))
   (ao (aW (bP (bo (aM eD u (ag (aq 3) (ag (aq 2) (ag (aq 9) (ag (aq 10) aa))))))) (ao (aI gP)) aJ)))
   (aj (bb (i:=12) L.nd rfl (by grind) (fF fe oo T.aS u (aq 3) (ag (aq 9) aa)))
   (aj (aW (PW.pt (pw_or (bP (bo (aM d7 u (ag (fF dE oo T.aS u (aq 3) (ag (aq 9) aa)) (ag (ak G (ak G (ak G (aq 2) aD) (aq 9)) (aq 11)) aa))))) (pw_or1 (bP (bo (aM dg u (ag (aq 12) (ag (ak G (ak G (ak G (aq 2) aD) (aq 9)) (aq 11)) aa)))))))) (ao (aI gP)) aJ)
   (aj (bV (dA nJ qm qo bW (aq 12) (ag ai aa)))
   (ao (aW (aC (fz G) (fF fe oo T.aS u (aq 3) (ag (aq 9) aa)) (ak G (ak G (ak G (aq 2) aD) (aq 9)) (aq 11)) (aG _)) (ao (aI gP)) aJ)))))))))
   (ao (aI gP))))))))),?_⟩
  calc L2.cq λs h1=>?_;left;calc tN a ns rfl hS YN (λt s u A mv wv lv gX ws ls H1 M g1 g2 g3 g4 g5 g6 g7 g=>?_);have hTN:ToldN H1 (.ref t) gX ws ls:=⟨t,s,u,A,mv,wv,lv,rfl,g1,g2,g3,g4,g5,g6,g7⟩
  clear g1 g2 g3 g4 g5 g6 g7;calc L2.cw h1 ?_;clear h1;generalize V.ref t=v at *;obtain⟨m,u⟩:∃m:NT,m=⟨gX,ws⟩:=⟨_,rfl⟩
  have s:∀l∈ls,0<=l.1/\l.1<m.ws.length:=λl A=>by rw[u];exact⟨(g.lo l A).1,(g.lo l A).2.1⟩
  have Xv:m.Ok:=by rw[u];exact g.nt
  calc L2.cq λE A=>?_;left;refine⟨λ_=>False,v,m,ls,rfl,?_,λb O=>O.elim,Xv,g.YM,s,λd B H2 N f2 fd JY=>?_⟩
  ·rw[u];calc hTN.cv λb o e n=>?_;rw[gV id];exact e
  calc L2.cw A ?_;clear A;calc L2.cq λE h3=>?_;left;calc⟨v,gX,ws,ls,rfl,hTN.cv N.cv,g,λn ms wv lv H3 s3 hnA hnF hnL=>?_⟩;rw[<-u]at hnA;left;intro x A E L T;have sx:av H3 (upd (upd H3 A (.own x)) x (.ins CR A [])):=λb o e=>by rw[az (au e E),az (au e L)];exact e
  have hT3:=JY.same s3;calc⟨FP m.n B,x,A,n,m,ls,ms,wv,lv,rfl,af,hnA.fr (Z:=λ_=>False) sx.fr,hnF.same sx,hnL.aL sx.aV,g.YM,s,λb O=>(hT3.same sx).cE.fp O,λy H4 k4 f4 hR4=>⟨rfl,?_⟩⟩;have NW:av H3 H4:=λb o e=>k4 b o (au e E) (sx _ _ e);have f43:∀b,FP m.n y b->H3 b=none:=λb O=>by
   cases e:H3 b with
   |none=>rfl
   |some o=>
    have:=f4 b O;rw[sx _ _ e]at this;cases this
  have hk:∀Z:Addr->Prop,(∀b,Z b->H1 b=none)->∀{s u:Hp},Fr Z s u->aU K s a (ns.map V.int)->aU K u a (ns.map V.int):=λZ hZ s u f h=>by
   by_cases z:Z a
   ·rcases hS with(e | ⟨o,e⟩) | e
    ·have:=hZ a z;rw[M _ _ e]at this;cases this
    ·have:=hZ a z;rw[M _ _ e]at this;cases this
    ·exact .inr e
   ·exact RC f z h
  have Wv:= @hk _ f2;have QI:= @hk (FP m.n y) λb O=>by
   cases e:H1 b with
   |none=>rfl
   |some o=>
    have:=f43 b O;rw[s3 _ _ (N _ _ e)]at this;cases this
  have s:cy (FP m.n y) H4 d v m (RS.begin m ls) B:=hT3.weak NW f43;obtain⟨u,Yu⟩:=IB Xv g.YM;have Y7:wI C CN CR (FP m.n B) (FP m.n y) H4 x n d v m (RS.begin m ls) y B:=⟨hR4,s,u,by rw[Yu];simp⟩
  calc L2.cw h3 ?_;have s4:av H H4:=M.trans (N.trans (s3.trans NW));clear hk h3 s hR4 f43 k4 f4 hnA hnF hnL hTN JY hT3 sx NW M N s3;calc L2.cq λg h4=>?_;left;calc bH _ (s4.seq hS) (λR SU=>?_);have sla:=av.new (.lst (dj (ns.map V.int) (some 44) (some 54))) SU;have Y8:=Y7.same sla;have YU:upd H4 R (.lst (dj (ns.map V.int) (some 44) (some 54))) R=some (.lst (dj (ns.map V.int) (some 44) (some 54))):=af;have ml1:¬FP m.n y R:=λz=>by
   obtain⟨o,e,_⟩:=Y7.run.cE.fp z;rw[SU]at e;cases e
  have ml2:¬FP m.n B R:=λz=>by
   obtain⟨o,e,_⟩:=Y7.twin.cE.fp z;rw[SU]at e;cases e
  have Cb:(dj (ns.map V.int) (some 44) (some 54)).length<=10:=BZ (i:=44) (j:=54);have hai:∀c∈dj (ns.map V.int) (some 44) (some 54),∃z,c=.int z:=λc X=>by
   nofun;obtain⟨z,_,rfl⟩:=List.mem_map.mp (B0 X);ac_rfl;exact⟨z,rfl⟩
  have s5:=s4.trans sla;generalize QU:upd H4 R (.lst (dj (ns.map V.int) (some 44) (some 54)))=G5 at *;generalize has:dj (ns.map V.int) (some 44) (some 54)=as at *;calc L2.cw h4 ?_;clear h4 Y7 s4 sla SU;calc L2.cq λN5 h5=>?_;left;calc⟨_,rfl,_,rfl,_,s5.seq hS,λlc Y9=>?_⟩;have slc:=av.new (.lst (dj (ns.map V.int) (some 8) (some 44))) Y9;have hB9:=Y8.same slc;have elc:upd G5 lc (.lst (dj (ns.map V.int) (some 8) (some 44))) lc=some (.lst (dj (ns.map V.int) (some 8) (some 44))):=af;have nl1:¬FP m.n y lc:=λz=>by
   obtain⟨o,e,_⟩:=Y8.run.cE.fp z;rw[Y9]at e;cases e
  have nl2:¬FP m.n B lc:=λz=>by
   obtain⟨o,e,_⟩:=Y8.twin.cE.fp z;rw[Y9]at e;cases e
  have RW:(dj (ns.map V.int) (some 8) (some 44)).length<=36:=BZ (i:=8) (j:=44);have hci:∀c∈dj (ns.map V.int) (some 8) (some 44),∃z,c=.int z:=λc X=>by
   nofun;obtain⟨z,_,rfl⟩:=List.mem_map.mp (B0 X);ac_rfl;exact⟨z,rfl⟩
  have Xw:=slc _ _ YU;have Sf:aU K (upd G5 lc (.lst (dj (ns.map V.int) (some 8) (some 44)))) a (ns.map V.int):=(s5.trans slc).seq hS;generalize hG9:upd G5 lc (.lst (dj (ns.map V.int) (some 8) (some 44)))=G9 at *;generalize RU:dj (ns.map V.int) (some 8) (some 44)=cs at *;clear Y8 s5 Y9 QU hG9 YU;refine .inl ⟨⟨_,aU.of elc⟩,ir (K:=K) (xs:=cs) (λi σ H'=>(∃z5 z6 z7 z8 z9 yH Ja yQ,σ=[some (V.ref a),some v,some (V.ref d),some (V.ref x),some (V.ref R),z5,z6,z7,z8,z9,yH,Ja,yQ])/\aU K H' a (ns.map V.int)/\∃r,wI C CN CR (FP m.n B) (FP m.n y) H' x n d v m r y B/\r.picks.length<=i/\H' lc=some (.lst cs)/\H' R=some (.lst as)) ?_ ?_ ?_ ?_⟩
  ·exact⟨⟨_,_,_,_,_,_,_,_,rfl⟩,Sf,_,hB9,by rw[Yu];simp,elc,Xw⟩
  ·intro i σ H' hi g;nofun;obtain⟨_,_,r,_,_,e,_⟩:=g;ac_rfl;exact aU.of e
  ·intro i c σ Hq X j5;nofun;obtain⟨⟨z5,z6,z7,z8,z9,yH,Ja,yQ,rfl⟩,Xx,r,S,hpk,Mm,Jq⟩:=j5;clear h5 hB9;have g:i < 36:=by have:=(List.getElem?_eq_some_iff.mp X).1;lia
   obtain⟨cz,rfl⟩:=hci c (X' X);ac_rfl;left;calc⟨_,d,v,m,r,B,rfl,S.twin,S.ok,S.MR,λu ys H9 g s bL EK=>?_⟩;have hBf:=S.same g;left;calc⟨aal _,λp hp=>?_⟩;have Y:=av.new (.lst []) hp;have U:=hBf.same Y;have Mr:=Y _ _ bL;have Xy:=EK.aL Y.aV;have Sa:=Y _ _ (g _ _ Mm);have Xz:=Y _ _ (g _ _ Jq);have wV:=(g.trans Y).seq Xx;have hep:upd H9 p (.lst []) p=some (.lst []):=af;generalize hGp:upd H9 p (.lst [])=Gp at *;clear hBf S Mm EK bL Jq Xx;by_cases hy:ys=[]
   ·subst hy;calc .inl ⟨.inr ⟨_,_,[],[],rfl,rfl,.inr ⟨aU.of Mr,aU.of hep⟩,rfl,λj u v G=>by simp at G⟩,?_⟩;rw[if_neg (by decide)];left;refine⟨?_,wV,r,U,by lia,Sa,Xz⟩
    first
     |calc⟨_,_,_,_,_,_,_,_,rfl⟩
     |exact⟨_,_,_,_,_,_,_,_,rfl,rfl,rfl,rfl,rfl,rfl,rfl,rfl⟩
   calc .inr ⟨⟨ys,[],λh=>hy (List.length_eq_zero_iff.mp h),.inl ⟨aU.of Mr,aU.of hep⟩⟩,?_⟩;rw[if_pos trivial];left;have g:0<ys.length:=List.length_pos_iff.mpr hy;nofun;obtain⟨k,hk⟩:∃k:Nat,cz%(ys.length:Int)=k:=⟨(cz%(ys.length:Int)).toNat,by have:=aaK cz (show(ys.length:Int)≠0 by lia);lia⟩
   have BS:k<ys.length:=by have:=aaG cz (show(0:Int)<ys.length by lia);lia
   have hlen:ys.length=(kr m r m.ws.length).length:=by simpa using Xy.1
   have hkf:k<(kr m r m.ws.length).length:=by lia
   have hel:=Xy.2 k ys[k] _ (cP BS) (by rw[List.getElem?_map,cP hkf];rfl);have xE:=aaf hkf;generalize (kr m r m.ws.length)[k]=pr at *;obtain⟨wy,W⟩:=pr;have Ms:=IH U.ok xE;obtain⟨g,s,u,A,eta,AF,y1,y2⟩:=cD hel;obtain rfl:=y1.bR;obtain rfl:=y2.bR;ac_rfl;calc⟨_,.inl ⟨_,aU.of Mr,rfl⟩,by lia,_,_,.inl (aU.of Mr),by rw[hk];calc aA (cP BS),?_⟩;rw[eta];calc zo (bI.of AF) ?_;left;calc AW.mk (FP m.n y) d v m r B wy W rfl U.twin (λb O=>U.run.cE.fp O) U.ok Ms U.MR λt2 g NA XA adm=>?_;have XB:=U.run.keep NA;nofun;obtain⟨t2,e3,e4,k2,rfl,nK,y1,y2⟩:=cD (id adm);obtain rfl:=y1.bR;obtain rfl:=y2.bR;ac_rfl;calc zo (bI.of nK) ?_;left;obtain⟨s,A,g,u⟩:=XB.ins;calc dU g (dZ (by decide +kernel)) ?_;calc Iz.mk (FP m.n B) x n m r y wy W rfl XB (λb O=>XA.cE.fp O) U.ok Ms U.MR λE u s A g=>?_;have g:=RS.Ok.pick U.twin.ok U.ok (k:=W) Ms.lt;have E:wI C CN CR (FP m.n B) (FP m.n y) u x n d v m (r.pick m wy W) y B:=⟨A,XA.keep s,g.1,by rw[g.2];simp;lia⟩
   have k:u lc=some (.lst cs):=s.at (NA.at Sa nl2) nl1;have G:u R=some (.lst as):=s.at (NA.at Xz ml2) ml1;have u:(r.pick m wy W).picks.length<=i+1:=by rw[g.2];simp;lia
   have A:=QI s (Wv NA wV);left;calc⟨_,_,x,n,d,v,m,_,y,B,m.goal wy,(r.mm (m.goal wy)).di.length,rfl,E,Xv.i5 Ms.lt,by rw[Jn];lia,λL g=>?_⟩;calc jT ?_;rw[if_neg (by decide)];left;refine⟨?_,g.seq A,_,E.same g,u,g _ _ k,g _ _ G⟩
   first
    |calc⟨_,_,_,_,_,_,_,_,rfl⟩
    |exact⟨_,_,_,_,_,_,_,_,rfl,rfl,rfl,rfl,rfl,rfl,rfl,rfl⟩
  intro σ H6 pD;nofun;obtain⟨⟨z5,z6,z7,z8,z9,yH,Ja,yQ,rfl⟩,Xx,r,S,hpk,_,Jq⟩:=pD;ac_rfl;show N5 _ _;calc L2.cw h5 ?_;clear h5 hB9 elc nl1 nl2 ml1 ml2 QI Wv Xw Sf RW hci RU;calc L2.cq λN6 h6=>?_;left;calc⟨a,ns,_,rfl,Xx,by lia,λc8=>⟨by show 1<=sizeLine;decide,λp hp=>?_⟩⟩;have Y:=av.new (.lst [.int c8]) hp;calc .inl ⟨_,_,af,Y _ _ Jq,L' (small (by simp;lia)),λlq Mm=>?_⟩;have sq:=Y.trans (av.new (.lst ([.int c8]++as)) Mm);have WK:upd (upd H6 p (.lst [.int c8])) lq (.lst ([.int c8]++as)) lq=some (.lst ([.int c8]++as)):=af;generalize J2:upd (upd H6 p (.lst [.int c8])) lq (.lst ([.int c8]++as))=G6 at *;have hBs:=S.same sq;have hqi:∀c ∈ [V.int c8]++as,∃z,c=.int z:=λc X=>by
   rcases List.mem_cons.mp X with h|h
   ·exact⟨_,h⟩
   ·exact hai c h
  generalize [V.int c8]++as=qs at *;clear S Xx J2 sq Y hp Mm Jq hai has Cb;refine .inl ⟨⟨_,aU.of WK⟩,ir (K:=K) (xs:=qs) (λi σ H'=>(∃z5 z6 z7 z8 z9 yH Ja yQ,σ=[some (V.ref a),some v,some (V.ref d),some (V.ref x),some (V.ref R),z5,z6,z7,z8,z9,yH,Ja,yQ])/\wI C CN CR (FP m.n B) (FP m.n y) H' x n d v m r y B/\H' lq=some (.lst qs)) ?_ ?_ ?_ ?_⟩
  ·exact⟨⟨_,_,_,_,_,_,_,_,rfl⟩,hBs,WK⟩
  ·rintro i σ H' hi ⟨_,_,e⟩;exact aU.of e
  ·intro i c σ Hq X tP;nofun;obtain⟨⟨y5,y6,y7,y8,y9,y10,y11,y12,rfl⟩,S,Mm⟩:=tP;obtain⟨cz,rfl⟩:=hqi c (X' X);ac_rfl;left;calc⟨_,_,x,n,d,v,m,r,y,B,cz,rfl,S,λH7 s7=>?_⟩;calc jT ?_;rw[if_neg (by decide)];left;refine⟨?_,S.same s7,s7 _ _ Mm⟩
   first
    |calc⟨_,_,_,_,_,_,_,_,rfl⟩
    |exact⟨_,_,_,_,_,_,_,_,rfl,rfl,rfl,rfl,rfl,rfl,rfl,rfl⟩
  intro σ H7 tR;nofun;obtain⟨⟨y5,y6,y7,y8,y9,y10,y11,y12,rfl⟩,I,_⟩:=tR;ac_rfl;show N6 _ _;calc L2.cw h6 ?_;clear h6 hBs WK hqi;calc L2.cq λN7 h7=>?_;left;nofun;obtain⟨s,g,BM,k⟩:=I.run.ins;obtain⟨k,hd,s,u,g⟩:=I.twin.dk;ac_rfl;have l1:=(g 1 (by decide) (by decide)).1;have l2:=(g 2 (by decide) (by decide)).1;have k:=Xv.UQ;have g:=I.MR;have hlen:(iH m.n B 1).length=m.ms.length:=oC;refine⟨_,wG hd,⟨_,.inl ⟨_,aU.of l1,rfl⟩,⟨_,rfl,by lia,by lia,jH (n:=(iH m.n B 1).length) (λi σ H'=>(∃z5 z6 z7 z8 z9 yH Ja yQ,σ=[some (V.ref a),some v,some (V.ref d),some (V.ref x),some (V.ref R),z5,z6,z7,z8,z9,yH,Ja,yQ])/\av H7 H') ?_ ?_ ?_⟩⟩⟩
  ·exact⟨⟨_,_,_,_,_,_,_,_,rfl⟩,av.refl H7⟩
  ·intro i σ H' hi wk;nofun;obtain⟨⟨u5,u6,u7,u8,u9,u10,u11,u12,rfl⟩,M⟩:=wk;ac_rfl;clear h7;have J:i < m.ms.length:=by lia
   rw[Int.zero_add];have RE:=I.same M;obtain⟨v1,e1,d1⟩:=RE.twin.cE.lst (t:=1) (i:=i) J rfl;have z1:v1.length=(r.mm i).di.length:=by simpa using d1.1
   have g:=RE.ok.we J;left;calc bH _ (wG (M _ _ hd)) ?_;left;calc bu (M _ _ l1) (aX J) ⟨_,.inl ⟨_,aU.of e1,rfl⟩,?_⟩;rw[z1];obtain⟨j,k⟩:∃j,(r.mm i).di.length=j+1:=⟨(r.mm i).di.length-1,by lia⟩
   have ej:(((r.mm i).di.length:Nat):Int)-1=((j:Nat):Int):=by lia
   rw[ej];have k:=RE.ok.lw i J;have k:=RE.ok.bp i J;have es:(r.mm i).di.bE ([],[])=(r.mm i).di.getD j ([],[]):=by
    have h:=jS (d:=([],[])) g;rw[show(r.mm i).di.length-1=j by lia]at h;rw[List.getD_eq_getElem?_getD,h];rfl
   have ew:(r.mm i).wp.bE []=(r.mm i).wp.getD j []:=by
    have h:=jS (l:=(r.mm i).wp) (d:=[]) (by lia);rw[show(r.mm i).wp.length-1=j by lia]at h;rw[List.getD_eq_getElem?_getD,h];rfl
   have Ef:=Xv.gd J;have Xs:=I.ok.so i J _ (getD_mem (l:=(r.mm i).di) (i:=j) (d:=([],[])) (by lia));have g:=I.ok.bw i J _ (getD_mem (l:=(r.mm i).wp) (i:=j) (d:=[]) (by lia));left;calc dU (M _ _ BM) (dZ (by decide +kernel)) ?_;calc⟨_,x,n,m,r,y,((i:Nat):Int),rfl,RE.run,λk0 e0 Nl=>?_,λno=>absurd ⟨by lia,by lia⟩ no⟩;obtain rfl:i=k0:=by lia
   calc bH _ rfl ?_;calc jT ?_;rw[if_neg (by decide)];calc dU (M _ _ BM) (dZ (by decide +kernel)) ?_;calc⟨_,x,n,m,r,y,((i:Nat):Int),rfl,RE.run,λk0 e0 Nl=>?_,λno=>absurd ⟨by lia,by lia⟩ no⟩;obtain rfl:i=k0:=by lia
   rw[ej];left;refine⟨_,rfl,by lia,by lia,jH (n:=(((j:Nat):Int)+1).toNat) (λi2 σ H'=>(∃z5 z6 z7 z8 yH yQ,σ=[some (V.ref a),some v,some (V.ref d),some (V.ref x),some (V.ref R),z5,z6,z7,z8,some (.int ((i:Nat):Int)),yH,some (.int ((j:Nat):Int)),yQ])/\av H7 H') ?_ ?_ ?_⟩
   ·exact⟨⟨_,_,_,_,_,_,rfl⟩,M⟩
   ·intro i2 σ H2 hi2 HW;nofun;obtain⟨⟨u5,u6,u7,u8,u10,u12,rfl⟩,N⟩:=HW;ac_rfl;rw[Int.zero_add];left;calc⟨_,_,x,n,d,v,m,r,y,B,i,i2,rfl,I.same N,J,by lia,λH3 s3=>?_⟩;calc jT ?_;rw[if_neg (by decide)];left;refine⟨?_,N.trans s3⟩
    first
     |calc⟨_,_,_,_,_,_,rfl⟩
     |exact⟨_,_,_,_,_,_,rfl,rfl,rfl,rfl,rfl,rfl⟩
   intro σ H2 LM;nofun;obtain⟨⟨u5,u6,u7,u8,u10,u12,rfl⟩,N⟩:=LM;ac_rfl;clear M RE e1 d1 z1 v1;left;calc dU (N _ _ BM) (dZ (by decide +kernel)) ?_;calc⟨_,x,n,m,r,y,((i:Nat):Int),rfl,I.run.same N,λk0 e0 Nl S0 XF=>?_,λno=>absurd ⟨by lia,by lia⟩ no⟩;obtain rfl:i=k0:=by lia
   rw[ew];have s3:=av.new (.lst (((r.mm i).wp.getD j []).map V.int)) XF;have Xt:upd H2 S0 (.lst (((r.mm i).wp.getD j []).map V.int)) S0=some (.lst (((r.mm i).wp.getD j []).map V.int)):=af;generalize QS:upd H2 S0 (.lst (((r.mm i).wp.getD j []).map V.int))=G3 at *;have mh:=N.trans s3;left;calc dU (mh _ _ BM) (dZ (by decide +kernel)) ?_;calc⟨_,x,n,m,r,y,((i:Nat):Int),rfl,I.run.same mh,I.ok,λk0 e0 Nl sv Io=>?_,λno=>absurd ⟨by lia,by lia⟩ no⟩;obtain rfl:i=k0:=by lia
   rw[es]at Io;left;calc bH _ (wG (mh _ _ hd)) ?_;nofun;obtain⟨v1,g,e1,z1,h,k⟩:=(I.twin.same mh).sat J (i:=j) (by lia);ac_rfl;left;calc bu (mh _ _ l1) (aX J) ?_;calc bu e1 (aA h) ?_;calc Qn sv g _ _ 2 rfl Io k (by rw[Xs.ln];calc Ef.l4) Xs.lr (λH4 s4=>?_);calc jT ?_;rw[if_neg (by decide)];have g:=mh.trans s4;calc bH _ (Ek (g _ _ hd)) ?_;nofun;obtain⟨s,lw,k,h,l⟩:=(I.twin.same g).Y4 I.ok J (i:=j) (by lia);ac_rfl;left;calc bu (g _ _ l2) (aX J) ?_;calc bu k (aA h) ?_;calc UT S0 lw _ rfl (s4 _ _ Xt) l (by lia) (λH5 s5=>?_);calc jT ?_;rw[if_neg (by decide)];left;have h:=g.trans s5;have k:=(s4.trans s5) _ _ Xt;calc⟨.inl ⟨rfl,_,aU.of k⟩,_,k,small (by rw[List.length_map];lia),?_⟩;have s6:av H7 (upd H5 S0 (.lst ((((r.mm i).wp.getD j []).map V.int)++[.int 0]))):=λb o e=>by rw[az (au (N _ _ e) XF)];exact h _ _ e
   generalize J2:upd H5 S0 (.lst ((((r.mm i).wp.getD j []).map V.int)++[.int 0]))=G6 at *;left;calc dU (s6 _ _ BM) (dZ (by decide +kernel)) ?_;calc⟨_,x,n,m,r,y,((i:Nat):Int),rfl,I.run.same s6,λk0 e0 Nl l7 hl7=>?_,λno=>absurd ⟨by lia,by lia⟩ no⟩;obtain rfl:i=k0:=by lia
   rw[ew];have tY:=av.new (.lst (((r.mm i).wp.getD j []).map V.int)) hl7;have el7:upd G6 l7 (.lst (((r.mm i).wp.getD j []).map V.int)) l7=some (.lst (((r.mm i).wp.getD j []).map V.int)):=af;generalize VO:upd G6 l7 (.lst (((r.mm i).wp.getD j []).map V.int))=G7 at *;have s7:=s6.trans tY;calc bH _ (Ek (s7 _ _ hd)) ?_;nofun;obtain⟨l,m,g,h,k⟩:=(I.twin.same s7).Y4 I.ok J (i:=j) (by lia);ac_rfl;left;calc bu (s7 _ _ l2) (aX J) ?_;calc bu g (aA h) ?_;calc .inl ⟨zb (jw el7 (dM.ints (n:=1) _)) (jw k (dM.ints (n:=1) _)) jX (by decide),?_⟩;calc jT ?_;rw[if_neg (by decide)];left;refine⟨?_,s7⟩
   first
    |calc⟨_,_,_,_,_,_,_,_,rfl⟩
    |exact⟨_,_,_,_,_,_,_,_,rfl,rfl,rfl,rfl,rfl,rfl,rfl,rfl⟩
  ·intro σ H8 LO;nofun;obtain⟨⟨u5,u6,u7,u8,u9,u10,u11,u12,rfl⟩,M⟩:=LO;ac_rfl;show N7 _ _;calc L2.cw h7 ?_;left;calc q _
end
end ER
namespace ER
open PySem L2 DD
variable {p0 p1:Str}{K:W.Frag}
structure iY(K:W.Frag)(B C:Addr)(x:Str):Prop where
 ax:W.nsIn K mainGlobals x=some (some (.ref C))
 ob:∃nm q N bs sn sub ab col dd k0 k1 k2 k3 k5,K.lookup C=some (excClassObj nm q C N bs (.ref B::rN) true sn sub ab col dd k0 k1 k2 k3 k5 "ValueError.__new__")
 ga:W.findIn K (.ref C) "__getattribute__"=some (some (.builtin "BaseException.__getattribute__"))
 gt:W.findIn K (.ref C) "__getattr__"=some none
 sa:W.findIn K (.ref C) "__setattr__"=some (some (.builtin "object.__setattr__"))
 cl:W.findIn K (.ref C) "__class__"=some (some (.builtin "object.__class__"))
 kp:W.keepIn K (.ref C)=true
theorem XG{B C:Addr}{x c q:Str}{N:Addr}{bs a:List Value}{d:List Str}{e:Bool}{b:Option Bool}{f:Option Addr}{g h i j k:Option Value}(l:W.nsIn K mainGlobals x=some (some (.ref C)))(m:K.lookup C=some (excClassObj c q C N bs (.ref B::rN) true d a e b f g h i j k "ValueError.__new__"))
  (a:W.findIn K (.ref C) "__getattribute__"=some (some (.builtin "BaseException.__getattribute__"))) (b:W.findIn K (.ref C) "__getattr__"=some none) (c:W.findIn K (.ref C) "__setattr__"=some (some (.builtin "object.__setattr__"))) (d:W.findIn K (.ref C) "__class__"=some (some (.builtin "object.__class__"))) (e:W.keepIn K (.ref C)=true):iY K B C x:=
 ⟨l,⟨_,_,_,_,_,_,_,_,_,_,_,_,_,_,m⟩,a,b,c,d,e⟩
theorem iY.cls{B C:Addr}{x:Str}(h:iY K B C x)(a:W.specialIn K (.builtin "object.__class__") "__get__"=some (some (.builtin "getset_descriptor.__get__")))(ct:W.takesIn K (.builtin "object.__class__")=some true):iX K C B:=
 ⟨h.ob,h.ga,h.gt,h.sa,h.cl,a,ct,h.kp⟩
def FnAt(K:W.Frag)(f:Addr)(x q:Str)(a:Stmt):Prop:=∃od c d e kV g h b ct,K.lookup f=some ⟨e,od,.func (W.fnOf x q (eR a) (cG a) (ay a) .none kV g h c b ct),d⟩/\W.codeIn K b q=true/\W.keepIn K (.ref f)=true
def DF(K:W.Frag)(x:Str)(a:Stmt):Prop:=∃f,W.nsIn K mainGlobals x=some (some (.ref f))/\FnAt K f x x a
def MF(K:W.Frag)(C:Addr)(m q:Str)(a:Stmt):Prop:=∃f,W.findIn K (.ref C) m=some (some (.ref f))/\W.isFn K (.ref f)=true/\FnAt K f m q a
def Ob(x q:Str)(a:Stmt)(c:List Str):Prop:=∀(kV b d:Value) (e:Option Addr) (f ct:Value) (us:List Value),us.length=c.length->bindArgs (W.fnOf x q (eR a) (cG a) (ay a) .none kV b d e f ct) ⟨us,[]⟩=pure (c.zip us)
section
variable {K:W.Frag}{h:Heap}{mg:Str->Option Value}{x m q:Str}{C f:Addr}{st:Stmt}{ps:List Str}{od an:Option Addr}{sl:Array (Option Value)}{oc kV dc pm cd ct:Value}
theorem Oc(a:W.nsIn K mainGlobals x=some (some (.ref f)))(l:K.lookup f=some ⟨oc,od,.func (W.fnOf x x (eR st) (cG st) (ay st) .none kV dc pm an cd ct),sl⟩)(c:W.codeIn K cd x=true)(k:W.keepIn K (.ref f)=true):DF K x st:=⟨f,a,_,_,_,_,_,_,_,_,_,l,c,k⟩
theorem Od(a:W.findIn K (.ref C) m=some (some (.ref f)))(i:W.isFn K (.ref f)=true)(l:K.lookup f=some ⟨oc,od,.func (W.fnOf m q (eR st) (cG st) (ay st) .none kV dc pm an cd ct),sl⟩)(c:W.codeIn K cd q=true)(k:W.keepIn K (.ref f)=true):MF K C m q st:=⟨f,a,i,_,_,_,_,_,_,_,_,_,l,c,k⟩
theorem bq(X:K.In h)(G:h.Ns mainGlobals mg)(d:DF K x st)(b:Ob x x st ps):dq K mg x x st ps:=by
 obtain⟨f,a,_,_,_,_,_,_,_,_,_,l,c,k⟩:=d;calc⟨_,_,mn l c k,W.mg_of X G a,(mn l c k).binds b⟩
theorem cO(d:MF K C m q st)(b:Ob m q st ps):gQ K C m q st ps:=by
 obtain⟨f,a,i,_,_,_,_,_,_,_,_,_,l,c,k⟩:=d;calc⟨_,_,⟨a,i,k⟩,mn l c k,(mn l c k).binds b⟩
theorem wM(X:K.In h)(G:h.Ns mainGlobals mg)(e:W.makesIn K C=true)(g:W.keepIn K (.ref C)=true)(d:MF K C "__init__" q st)(j:W.nsIn K mainGlobals x=some (some (.ref C)))(b:Ob "__init__" q st ps):DB K mg x C q st ps:=by
 obtain⟨f,a,i,_,_,_,_,_,_,_,_,_,l,c,k⟩:=d;calc⟨⟨_,_,⟨e,a,i,g⟩,mn l c k,(mn l c k).binds b⟩,W.mg_of X G j⟩
theorem ni{us:List Value}{n:Nat}(h:us.length=n+1):∃x r,us=x::r/\r.length=n:=by
 cases us with
 |nil=>cases h
 |cons x r=>calc⟨x,r,rfl,Nat.succ.inj h⟩
theorem nj(e:∀(kV a pm:Value) (an:Option Addr) (c ct b:Value),bindArgs (W.fnOf x q (eR st) (cG st) (ay st) .none kV a pm an c ct) ⟨[b],[]⟩=pure ([p0].zip [b])):Ob x q st [p0]:=λkV a pm an c ct g d=>by
 obtain⟨b,h,rfl,f⟩:=ni d
 cases List.length_eq_zero_iff.mp f;calc e ..
theorem jY(e:∀(kV a pm:Value) (an:Option Addr) (d ct b c:Value),bindArgs (W.fnOf x q (eR st) (cG st) (ay st) .none kV a pm an d ct) ⟨[b,c],[]⟩=pure ([p0,p1].zip [b,c])):Ob x q st [p0,p1]:=λkV a pm an d ct i f=>by
 obtain⟨b,j,rfl,g⟩:=ni f;obtain⟨c,k,rfl,h⟩:=ni g
 cases List.length_eq_zero_iff.mp h;calc e ..
theorem pY{f:Str}(e:∀(kV a pm:Value) (an:Option Addr) (g ct b c d:Value),bindArgs (W.fnOf x q (eR st) (cG st) (ay st) .none kV a pm an g ct) ⟨[b,c,d],[]⟩=pure ([p0,p1,f].zip [b,c,d])):Ob x q st [p0,p1,f]:=λkV a pm an g ct f h=>by
 obtain⟨b,l,rfl,i⟩:=ni h;obtain⟨c,m,rfl,j⟩:=ni i;obtain⟨d,n,rfl,k⟩:=ni j
 cases List.length_eq_zero_iff.mp k;calc e ..
theorem pZ{g h:Str}(e:∀(kV a pm:Value) (an:Option Addr) (i ct b c d f:Value),bindArgs (W.fnOf x q (eR st) (cG st) (ay st) .none kV a pm an i ct) ⟨[b,c,d,f],[]⟩=pure ([p0,p1,g,h].zip [b,c,d,f])):Ob x q st [p0,p1,g,h]:=λkV a pm an i ct g j=>by
 obtain⟨b,o,rfl,k⟩:=ni j;obtain⟨c,p,rfl,l⟩:=ni k;obtain⟨d,r,rfl,m⟩:=ni l;obtain⟨f,s,rfl,n⟩:=ni m
 cases List.length_eq_zero_iff.mp n;calc e ..
theorem RF{h i j:Str}(e:∀(kV a pm:Value) (an:Option Addr) (k ct b c d f g:Value),bindArgs (W.fnOf x q (eR st) (cG st) (ay st) .none kV a pm an k ct) ⟨[b,c,d,f,g],[]⟩=pure ([p0,p1,h,i,j].zip [b,c,d,f,g])):Ob x q st [p0,p1,h,i,j]:=λkV a pm an k ct h l=>by
 obtain⟨b,s,rfl,m⟩:=ni l;obtain⟨c,t,rfl,n⟩:=ni m;obtain⟨d,u,rfl,o⟩:=ni n;obtain⟨f,v,rfl,p⟩:=ni o;obtain⟨g,w,rfl,r⟩:=ni p
 cases List.length_eq_zero_iff.mp r;calc e ..
end
theorem all_mk{l:W.OpenLaw}{w:World}{h:Heap}{S:Str->Option Value}{fa C c CR F B k m n o p q r t u x g y z I J L M N O:Addr}(X:K.In h)(G:h.Ns mainGlobals S)(hfa:S "law"=some (.ref fa))
  {cdB:ClassData} (aB:W.nsIn K mainGlobals "NetError"=some (some (.ref B))) (UO:W.clsIn K B=some cdB) (tyB:W.typeIn K (.ref B)=some (.type "type"))
  {adw q_B:Str} {N_B:Addr} {adx XH:List Value} {ady:List Str} {adz:Bool} {XI:Option Bool} {adA:Option Addr} {adB adC adD adF adG:Option Value} (RG:K.lookup B=some (excClassObj adw q_B B N_B adx rN true ady XH adz XI adA adB adC adD adF adG "ValueError.__new__")) (EA:iY K B k "BadMachine") (Mt:iY K B m "BadDeed") (EB:iY K B n "NoText") (EC:iY K B o "BadNet") (Mu:iY K B p "NoLetter") (Mv:iY K B q "NotFirst") (ED:iY K B r "NoCount") (EF:iY K B t "NoEvent") (Mw:iY K B u "Orphaned") (EG:iY K B x "TooMany") (CM:iY K B g "NoLine") (vk:iY K B y "NoMachine") (CP:iY K B z "NotRow") (vm:iY K B I "Busy") (CQ:iY K B J "NotReached") (vn:iY K B L "NoMark") (vo:iY K B M "NoRow") (vp:iY K B N "NoName") (vq:iY K B O "NoDeed") (gf:W.findIn K (.ref m) "at"=some none) (fu:W.findIn K (.ref p) "at"=some none) (fw:W.findIn K (.ref q) "at"=some none) (dB:W.findIn K (.ref u) "letter"=some none) (eZ:W.findIn K (.ref g) "falls"=some none) (eF:W.findIn K (.ref g) "letter"=some none) (gh:W.findIn K (.ref z) "way"=some none) (cT:W.findIn K (.ref J) "machine"=some none) (RH:W.findIn K (.ref k) "__init__"=some (some (.builtin "ValueError.__init__"))) (RI:W.findIn K (.ref n) "__init__"=some (some (.builtin "ValueError.__init__"))) (RJ:W.findIn K (.ref o) "__init__"=some (some (.builtin "ValueError.__init__"))) (RK:W.findIn K (.ref r) "__init__"=some (some (.builtin "ValueError.__init__"))) (RL:W.findIn K (.ref t) "__init__"=some (some (.builtin "ValueError.__init__"))) (RM:W.findIn K (.ref x) "__init__"=some (some (.builtin "ValueError.__init__"))) (Js:W.findIn K (.ref y) "__init__"=some (some (.builtin "ValueError.__init__"))) (Jt:W.findIn K (.ref I) "__init__"=some (some (.builtin "ValueError.__init__"))) (Ju:W.findIn K (.ref L) "__init__"=some (some (.builtin "ValueError.__init__"))) (Jv:W.findIn K (.ref M) "__init__"=some (some (.builtin "ValueError.__init__"))) (Jw:W.findIn K (.ref N) "__init__"=some (some (.builtin "ValueError.__init__"))) (Jx:W.findIn K (.ref O) "__init__"=some (some (.builtin "ValueError.__init__"))) (oM:W.nsIn K mainGlobals "Machine"=some (some (.ref C))) (Mx:W.nsIn K mainGlobals "Net"=some (some (.ref c))) (My:W.nsIn K mainGlobals "Run"=some (some (.ref CR))) (p5:DF K "_law_int" pW) (iQ:DF K "_law_is_state" iO) (iR:DF K "_law_is_words" iN) (nk:DF K "is_whole" mE) (lu:DF K "is_within" kK) (fL:MF K CR "need_machine" "Run.need_machine" fI) (gG:MF K CR "need_count" "Run.need_count" gF) (fM:MF K CR "state_behind" "Run.state_behind" fJ) (fN:MF K CR "words_behind" "Run.words_behind" fK) (ki:DF K "_law_behind" kh) (nr:DF K "_law_kind" m7) (lx:MF K CR "count" "Run.count" kY) (ly:MF K CR "state" "Run.state" kX) (lA:MF K CR "words" "Run.words" kZ) (jy:DF K "_law_refused" jx) (lB:DF K "_law_asked" lg) (tj:DF K "_law_at" su) (lC:DF K "_law_begun" k9) (lD:DF K "_law_lying" k7) (nu:DF K "_law_free" mW) (lE:DF K "_law_digit" kL) (lG:DF K "_law_value" kP) (nv:DF K "_law_deed" mK) (jz:DF K "_law_machine" jh) (p6:DF K "_law_pot" ph) (p7:DF K "_law_net" pT) (p8:DF K "form_of" pq) (ny:DF K "is_value" mF) (p9:DF K "is_part" pw) (qa:DF K "is_deed" pA) (iS:DF K "refuse_deeds" iC) (qb:DF K "is_list" pk) (jA:DF K "are_counted" je) (gH:DF K "refuse_machine" gy) (qd:MF K C "__init__" "Machine.__init__" pH) (lH:DF K "is_letter" kN) (tm:DF K "is_way" sD) (kj:DF K "refuse_net" j7) (Jy:MF K c "__init__" "Net.__init__" Ij) (iT:DF K "_law_net_made" iM) (lI:DF K "_law_worth" kU) (kl:DF K "_law_worked" ke) (nz:DF K "_law_pick" mX) (gI:DF K "change_numbers" gA) (km:DF K "change_row" j8) (nC:DF K "left_out" mN) (lJ:DF K "values_of" kR) (jB:DF K "plain_worth" ji) (nE:DF K "worth_of" mM) (gJ:MF K C "worked" "Machine.worked" gB) (iU:MF K c "machines" "Net.machines" iG) (nH:MF K c "ways" "Net.ways" mR) (jC:MF K c "ways_at" "Net.ways_at" jl) (jD:MF K c "ways_in" "Net.ways_in" jm) (iV:MF K c "ways_out" "Net.ways_out" iI) (iW:MF K CR "need_way" "Run.need_way" iJ) (gn:MF K CR "need_letter" "Run.need_letter" gj) (hV:MF K CR "need_pick" "Run.need_pick" gY) (gK:MF K CR "put_letter" "Run.put_letter" gD) (jE:MF K CR "pick_at" "Run.pick_at" jo) (nI:MF K CR "pick" "Run.pick" mT) (eQ:MF K C "first_state" "Machine.first_state" eO) (jF:MF K c "letters" "Net.letters" jk) (Jz:MF K CR "__init__" "Run.__init__" IC) (JA:DF K "law" vj) (qf:W.plainGet K C Str.empty=true) (qg:W.hasDictIn K C=true) (qh:W.plainOver K C=true) (qi:W.findIn K (.ref C) "__setattr__"=some (some (.builtin "object.__setattr__"))) (qj:W.makesIn K C=true) (qk:W.keepIn K (.ref C)=true) (DQ:W.findIn K (.ref C) "__class__"=some (some (.builtin "object.__class__"))) (DR:W.mroIn K C (.type "object")=some true) (Ng:W.findIn K (.ref C) "own_modulus"=some none) (Qt:W.findIn K (.ref C) "own_state"=some none) (Nh:W.findIn K (.ref C) "own_deeds"=some none) (JB:W.plainGet K c Str.empty=true) (JC:W.hasDictIn K c=true) (JD:W.plainOver K c=true) (JE:W.findIn K (.ref c) "__setattr__"=some (some (.builtin "object.__setattr__"))) (JF:W.makesIn K c=true) (JG:W.keepIn K (.ref c)=true) (HF:W.findIn K (.ref c) "__class__"=some (some (.builtin "object.__class__"))) (HG:W.mroIn K c (.type "object")=some true) (yg:W.findIn K (.ref c) "own_machines"=some none) (yh:W.findIn K (.ref c) "own_ways"=some none) (Ak:W.findIn K (.ref c) "own_letters"=some none) (JH:W.plainGet K CR Str.empty=true) (JI:W.hasDictIn K CR=true) (JJ:W.plainOver K CR=true) (JK:W.findIn K (.ref CR) "__setattr__"=some (some (.builtin "object.__setattr__"))) (JL:W.makesIn K CR=true) (JM:W.keepIn K (.ref CR)=true) (HH:W.findIn K (.ref CR) "__class__"=some (some (.builtin "object.__class__"))) (HI:W.mroIn K CR (.type "object")=some true) (de:W.findIn K (.ref CR) "own_net"=some none) (dG:W.findIn K (.ref CR) "picks_done"=some none) (bO:W.findIn K (.ref CR) "states_had"=some none) (dC:W.findIn K (.ref CR) "words_had"=some none) (cA:W.findIn K (.ref CR) "words_said"=some none) (cf:W.findIn K (.ref CR) "letters_say"=some none) (fH:W.findIn K (.ref CR) "senders"=some none) (dH:W.findIn K (.ref CR) "workers"=some none) (a:W.specialIn K (.builtin "object.__class__") "__get__"=some (some (.builtin "getset_descriptor.__get__"))) (b:W.takesIn K (.builtin "object.__class__")=some true)
  (kn:W.nsIn K mainGlobals "isinstance"=some none) (JN:W.nsIn K mainGlobals "int"=some none) (Bc:W.nsIn K mainGlobals "bool"=some none) (JO:W.nsIn K mainGlobals "str"=some none) (wN:W.nsIn K mainGlobals "tuple"=some none) (Bd:W.nsIn K mainGlobals "list"=some none) (JP:W.nsIn K mainGlobals "len"=some none) (wO:W.nsIn K mainGlobals "range"=some none) (JQ:W.nsIn K mainGlobals "min"=some none) (JR:W.nsIn K mainGlobals "max"=some none) (JS:W.nsIn K mainGlobals "all"=some none) (JT:W.nsIn K mainGlobals "any"=some none) (JU:W.nsIn K mainGlobals "zip"=some none) (lK:W.nsIn K mainGlobals "enumerate"=some none) (ko:W.nsIn K mainGlobals "ValueError"=some none) {uf:Tok} (eA:W.nsIn K mainGlobals "MOST_DEEDS"=some (some (.int 24 uf))) {qR:Tok} (dW:W.nsIn K mainGlobals "MOST_MODULUS"=some (some (.int 1000000000000 qR))) {qS:Tok} (dX:W.nsIn K mainGlobals "MOST_NUMBERS"=some (some (.int 4 qS))) {zd:Tok} (fG:W.nsIn K mainGlobals "MOST_ROW"=some (some (.int 12 zd))) {ql:Tok} (dy:W.nsIn K mainGlobals "MOST_MACHINES"=some (some (.int 5 ql))) {wQ:Tok} (fO:W.nsIn K mainGlobals "MOST_WAYS"=some (some (.int 10 wQ))) {qT:Tok} (dY:W.nsIn K mainGlobals "MOST_LETTERS"=some (some (.int 20 qT))) {ug:Tok} (eB:W.nsIn K mainGlobals "SAID_BOUND"=some (some (.int 1000000000000000000000000000000000000000000000000000000000000 ug)))
  {fh0 fh1 fh2 fh3 fh4 fh5 fh6 fh7:Int} {fk0 fk1 fk2 fk3 fk4 fk5 fk6 fk7:Tok} {U Y Z Tb Tc Td Te Tf:Addr} {fep:Nat}
  (aF:W.nsIn K mainGlobals "FORMS"=some (some (.ref F))) (lF:K.lookup F=some {cls:=.type "dict",dict:=none,data:=.dict #[⟨fh0,.str "set" fk0,.ref U⟩,⟨fh1,.str "add" fk1,.ref Y⟩,⟨fh2,.str "times" fk2,.ref Z⟩,⟨fh3,.str "put" fk3,.ref Tb⟩,⟨fh4,.str "drop" fk4,.ref Tc⟩,⟨fh5,.str "send" fk5,.ref Td⟩,⟨fh6,.str "say" fk6,.ref Te⟩,⟨fh7,.str "skip" fk7,.ref Tf⟩] fep,slots:=#[]}) (neF:(F==sysModules)=false) {Oe Of:Tok} {fo0:Option Addr} {fn0:Nat} {fs0:Array (Option Value)} (lP0:K.lookup U=some ⟨.type "tuple",fo0,.seq #[.str "number" Oe,.str "value" Of] fn0,fs0⟩) {Og Oh:Tok} {fo1:Option Addr} {fn1:Nat} {fs1:Array (Option Value)} (lP1:K.lookup Y=some ⟨.type "tuple",fo1,.seq #[.str "number" Og,.str "value" Oh] fn1,fs1⟩) {Oi Oj:Tok} {fo2:Option Addr} {fn2:Nat} {fs2:Array (Option Value)} (lP2:K.lookup Z=some ⟨.type "tuple",fo2,.seq #[.str "number" Oi,.str "value" Oj] fn2,fs2⟩) {Ol:Tok} {fo3:Option Addr} {fn3:Nat} {fs3:Array (Option Value)} (lP3:K.lookup Tb=some ⟨.type "tuple",fo3,.seq #[.str "value" Ol] fn3,fs3⟩) {fo4:Option Addr} {fn4:Nat} {fs4:Array (Option Value)} (lP4:K.lookup Tc=some ⟨.type "tuple",fo4,.seq #[] fn4,fs4⟩) {Om Oo:Tok} {fo5:Option Addr} {fn5:Nat} {fs5:Array (Option Value)} (lP5:K.lookup Td=some ⟨.type "tuple",fo5,.seq #[.str "way" Om,.str "value" Oo] fn5,fs5⟩) {Oq:Tok} {fo6:Option Addr} {fn6:Nat} {fs6:Array (Option Value)} (lP6:K.lookup Te=some ⟨.type "tuple",fo6,.seq #[.str "value" Oq] fn6,fs6⟩) {Ot Ou Ov:Tok} {fo7:Option Addr} {fn7:Nat} {fs7:Array (Option Value)} (lP7:K.lookup Tf=some ⟨.type "tuple",fo7,.seq #[.str "value" Ot,.str "value" Ou,.str "many" Ov] fn7,fs7⟩)
  (RN:∀i,i<19->∀j,j<19->([k,m,n,o,p,q,r,t,u,x,g,y,z,I,J,L,M,N,O]:List Addr).getD i 0=([k,m,n,o,p,q,r,t,u,x,g,y,z,I,J,L,M,N,O]:List Addr).getD j 0->i=j) (hnB:∀i,i<19->([k,m,n,o,p,q,r,t,u,x,g,y,z,I,J,L,M,N,O]:List Addr).getD i 0≠B)
  :∃fd:FuncData,(∀(s:Shared) (v:Value),BindsTo s fd ⟨[v],[]⟩ [("_law_script",v)])/\∀base:Heap,K.In base->base.Ns mainGlobals S->jJ l.prog w K S base wW 10 fa fd ["_law_script"] (wL K):=by
 have FR:PyProof.Rows.KTD.Rows RelV (#[⟨fh0,.str "set" fk0,.ref U⟩,⟨fh1,.str "add" fk1,.ref Y⟩,⟨fh2,.str "times" fk2,.ref Z⟩,⟨fh3,.str "put" fk3,.ref Tb⟩,⟨fh4,.str "drop" fk4,.ref Tc⟩,⟨fh5,.str "send" fk5,.ref Td⟩,⟨fh6,.str "say" fk6,.ref Te⟩,⟨fh7,.str "skip" fk7,.ref Tf⟩]:Array DictEntry).toList ([("set",V.ref U),("add",V.ref Y),("times",V.ref Z),("put",V.ref Tb),("drop",V.ref Tc),("send",V.ref Td),("say",V.ref Te),("skip",V.ref Tf)]:List (Str×V)):=.cons rfl rfl (.cons rfl rfl (.cons rfl rfl (.cons rfl rfl (.cons rfl rfl (.cons rfl rfl (.cons rfl rfl (.cons rfl rfl (.nil))))))));have T:Tx K S C c CR F ([("set",V.ref U),("add",V.ref Y),("times",V.ref Z),("put",V.ref Tb),("drop",V.ref Tc),("send",V.ref Td),("say",V.ref Te),("skip",V.ref Tf)]:List (Str×V)):={
  aR:=aaH X G kn
  yf:=aaH X G JN
  Aj:=aaH X G Bc
  B1:=aaH X G JO
  cB:=aaH X G wN
  e9:=aaH X G Bd
  cp:=aaH X G JP
  ff:=aaH X G wO
  U5:=aaH X G JQ
  Nf:=aaH X G JR
  uR:=aaH X G JS
  U6:=aaH X G JT
  HE:=aaH X G JU
  fb:=aaH X G lK
  oq:=aaH X G ko
  eA:=⟨_,W.mg_of X G eA⟩
  dW:=⟨_,W.mg_of X G dW⟩
  dX:=⟨_,W.mg_of X G dX⟩
  fG:=⟨_,W.mg_of X G fG⟩
  dy:=⟨_,W.mg_of X G dy⟩
  fO:=⟨_,W.mg_of X G fO⟩
  dY:=⟨_,W.mg_of X G dY⟩
  eB:=⟨_,W.mg_of X G eB⟩
  cW:=⟨qf,qg,qh,qi⟩
  uS:=W.mg_of X G oM
  DQ:=DQ
  DR:=DR
  Ng:=Ng
  Qt:=Qt
  Nh:=Nh
  da:=⟨JB,JC,JD,JE⟩
  U7:=W.mg_of X G Mx
  HF:=HF
  HG:=HG
  yg:=yg
  yh:=yh
  Ak:=Ak
  aS:=⟨JH,JI,JJ,JK⟩
  U8:=W.mg_of X G My
  HH:=HH
  HI:=HI
  de:=de
  dG:=dG
  bO:=bO
  dC:=dC
  cA:=cA
  cf:=cf
  fH:=fH
  dH:=dH
  eN:=a
  cI:=b
  i_k:=by unfold W.kitOne;rw[if_pos (by simp)]
  B2:=W.mg_of X G aF
  B3:=⟨⟨_,_,_,lF,⟨rfl,rfl,rfl⟩,rfl,FR⟩,neF⟩
  Ni:=λd=>by
   cases d with
   |set _ _=>calc⟨U,by kernel_rfl,λH=>.inr ⟨_,_,_,lP0,rfl,rfl,by show 2<=sizeLine;decide,(.cons ⟨Oe,rfl⟩ (.cons ⟨Of,rfl⟩ .nil))⟩⟩
   |add _ _=>calc⟨Y,by kernel_rfl,λH=>.inr ⟨_,_,_,lP1,rfl,rfl,by show 2<=sizeLine;decide,(.cons ⟨Og,rfl⟩ (.cons ⟨Oh,rfl⟩ .nil))⟩⟩
   |times _ _=>calc⟨Z,by kernel_rfl,λH=>.inr ⟨_,_,_,lP2,rfl,rfl,by show 2<=sizeLine;decide,(.cons ⟨Oi,rfl⟩ (.cons ⟨Oj,rfl⟩ .nil))⟩⟩
   |put _=>calc⟨Tb,by kernel_rfl,λH=>.inr ⟨_,_,_,lP3,rfl,rfl,by show 1<=sizeLine;decide,(.cons ⟨Ol,rfl⟩ .nil)⟩⟩
   |drop=>calc⟨Tc,by kernel_rfl,λH=>.inr ⟨_,_,_,lP4,rfl,rfl,by show 0<=sizeLine;decide,.nil⟩⟩
   |send _ _=>calc⟨Td,by kernel_rfl,λH=>.inr ⟨_,_,_,lP5,rfl,rfl,by show 2<=sizeLine;decide,(.cons ⟨Om,rfl⟩ (.cons ⟨Oo,rfl⟩ .nil))⟩⟩
   |say _=>calc⟨Te,by kernel_rfl,λH=>.inr ⟨_,_,_,lP6,rfl,rfl,by show 1<=sizeLine;decide,(.cons ⟨Oq,rfl⟩ .nil)⟩⟩
   |skip _ _ _=>exact⟨Tf,by kernel_rfl,λH=>.inr ⟨_,_,_,lP7,rfl,rfl,by show 3<=sizeLine;decide,(.cons ⟨Ot,rfl⟩ (.cons ⟨Ou,rfl⟩ (.cons ⟨Ov,rfl⟩ .nil)))⟩⟩
 }
 have c:∀C∈([k,m,n,o,p,q,r,t,u,x,g,y,z,I,J,L,M,N,O]:List Addr),iX K C B:=(List.forall_mem_cons.mpr ⟨EA.cls a b,(List.forall_mem_cons.mpr ⟨Mt.cls a b,(List.forall_mem_cons.mpr ⟨EB.cls a b,(List.forall_mem_cons.mpr ⟨EC.cls a b,(List.forall_mem_cons.mpr ⟨Mu.cls a b,(List.forall_mem_cons.mpr ⟨Mv.cls a b,(List.forall_mem_cons.mpr ⟨ED.cls a b,(List.forall_mem_cons.mpr ⟨EF.cls a b,(List.forall_mem_cons.mpr ⟨Mw.cls a b,(List.forall_mem_cons.mpr ⟨EG.cls a b,(List.forall_mem_cons.mpr ⟨CM.cls a b,(List.forall_mem_cons.mpr ⟨vk.cls a b,(List.forall_mem_cons.mpr ⟨CP.cls a b,(List.forall_mem_cons.mpr ⟨vm.cls a b,(List.forall_mem_cons.mpr ⟨CQ.cls a b,(List.forall_mem_cons.mpr ⟨vn.cls a b,(List.forall_mem_cons.mpr ⟨vo.cls a b,(List.forall_mem_cons.mpr ⟨vp.cls a b,(List.forall_mem_cons.mpr ⟨vq.cls a b,(λ_ h=>absurd h (by simp))⟩)⟩)⟩)⟩)⟩)⟩)⟩)⟩)⟩)⟩)⟩)⟩)⟩)⟩)⟩)⟩)⟩)⟩)⟩)
 have R:DI K S B (λi:Nat=>([k,m,n,o,p,q,r,t,u,x,g,y,z,I,J,L,M,N,O]:List Addr).getD i 0):={
  og:=W.mg_of X G EA.ax
  uL:=W.mg_of X G Mt.ax
  xY:=W.mg_of X G EB.ax
  xZ:=W.mg_of X G EC.ax
  r9:=W.mg_of X G Mu.ax
  se:=W.mg_of X G Mv.ax
  pd:=W.mg_of X G ED.ax
  uM:=W.mg_of X G EF.ax
  sf:=W.mg_of X G Mw.ax
  uN:=W.mg_of X G EG.ax
  x6:=W.mg_of X G CM.ax
  qv:=W.mg_of X G vk.ax
  x8:=W.mg_of X G CP.ax
  Hg:=W.mg_of X G vm.ax
  oh:=W.mg_of X G CQ.ax
  x9:=W.mg_of X G vn.ax
  BW:=W.mg_of X G vo.ax
  ya:=W.mg_of X G vp.ax
  yb:=W.mg_of X G vq.ax
  sh:=W.mg_of X G aB
  v8:=⟨EA.cls a b,RH,W.mg_of X G EA.ax⟩
  Hh:=⟨EB.cls a b,RI,W.mg_of X G EB.ax⟩
  Hi:=⟨EC.cls a b,RJ,W.mg_of X G EC.ax⟩
  uO:=⟨ED.cls a b,RK,W.mg_of X G ED.ax⟩
  DJ:=⟨EF.cls a b,RL,W.mg_of X G EF.ax⟩
  DK:=⟨EG.cls a b,RM,W.mg_of X G EG.ax⟩
  qw:=⟨vk.cls a b,Js,W.mg_of X G vk.ax⟩
  Qi:=⟨vm.cls a b,Jt,W.mg_of X G vm.ax⟩
  Hk:=⟨vn.cls a b,Ju,W.mg_of X G vn.ax⟩
  Lo:=⟨vo.cls a b,Jv,W.mg_of X G vo.ax⟩
  Hl:=⟨vp.cls a b,Jw,W.mg_of X G vp.ax⟩
  Hm:=⟨vq.cls a b,Jx,W.mg_of X G vq.ax⟩
  cl:=λi a=>c _ (by
   have e:([k,m,n,o,p,q,r,t,u,x,g,y,z,I,J,L,M,N,O]:List Addr).getD i 0=([k,m,n,o,p,q,r,t,u,x,g,y,z,I,J,L,M,N,O]:List Addr)[i]'a:=by simp only[List.getD_eq_getElem?_getD,cP (show i<([k,m,n,o,p,q,r,t,u,x,g,y,z,I,J,L,M,N,O]:List Addr).length from a),Option.getD_some]
   show([k,m,n,o,p,q,r,t,u,x,g,y,z,I,J,L,M,N,O]:List Addr).getD i 0 ∈ ([k,m,n,o,p,q,r,t,u,x,g,y,z,I,J,L,M,N,O]:List Addr);rw[e];calc aaf _)
  inj:=λi j a b e=>RN i a j b e
  nB:=hnB
  UO:=by rw[UO];rfl
  tyB:=tyB
  xb:=⟨⟨_,_,_,_,_,_,_,_,_,_,_,_,_,_,RG⟩⟩
  gf:=gf
  fu:=fu
  fw:=fw
  dB:=dB
  eZ:=eZ
  eF:=eF
  gh:=gh
  cT:=cT
 }
 obtain⟨f,a,b,an,c,d,kV,dc,pm,cd,ct,ll,lc,lk⟩:=JA;have e:=hfa.symm.trans (W.mg_of X G a)
 cases e;refine⟨W.fnOf "law" "law" (eR vj) (cG vj) (ay vj) .none kV dc pm an cd ct,λs v=>.of_eq rfl,λbase _ _=>?_⟩;have c:=Ey (P:=l.prog) (w:=w) (base:=base) (bq X G p5 (nj λ_ _ _ _ _ _ _=>rfl)) T;have g:=tf (bq X G iQ (jY λ_ _ _ _ _ _ _ _=>rfl)) T c;have i:=sZ (bq X G iR (jY λ_ _ _ _ _ _ _ _=>rfl)) T c;have d:=Al (P:=l.prog) (w:=w) (base:=base) (bq X G nk (nj λ_ _ _ _ _ _ _=>rfl)) T;have a:=yk (bq X G lu (pY λ_ _ _ _ _ _ _ _ _=>rfl)) T d;have b:=mS (cO fL (jY λ_ _ _ _ _ _ _ _=>rfl)) T R a;have e:=pV (cO gG (pY λ_ _ _ _ _ _ _ _ _=>rfl)) T R a b;have j:=mY (cO fM (pY λ_ _ _ _ _ _ _ _ _=>rfl)) T R e;have k:=mZ (cO fN (pY λ_ _ _ _ _ _ _ _ _=>rfl)) T R e;have m:=wK (bq X G ki (pZ λ_ _ _ _ _ _ _ _ _ _=>rfl)) T g i j k;have p:=Bb (P:=l.prog) (w:=w) (base:=base) (bq X G nr (nj λ_ _ _ _ _ _ _=>rfl)) T R;have n:=yO (cO lx (jY λ_ _ _ _ _ _ _ _=>rfl)) T R b;have e:=yN (cO ly (jY λ_ _ _ _ _ _ _ _=>rfl)) T R b;have o:=yP (cO lA (jY λ_ _ _ _ _ _ _ _=>rfl)) T R b;have q:=ue (bq X G jy (pZ λ_ _ _ _ _ _ _ _ _ _=>rfl)) T R p n e j o k;have r:=zc (bq X G lB (pY λ_ _ _ _ _ _ _ _ _=>rfl)) T m q;have j:=HL (P:=l.prog) (w:=w) (base:=base) (bq X G tj (jY λ_ _ _ _ _ _ _ _=>rfl)) T;have p:=yZ (P:=l.prog) (w:=w) (base:=base) (bq X G lC (nj λ_ _ _ _ _ _ _=>rfl)) T;have k:=yW (P:=l.prog) (w:=w) (base:=base) (bq X G lD (jY λ_ _ _ _ _ _ _ _=>rfl)) T;have q:=AS (bq X G nu (nj λ_ _ _ _ _ _ _=>rfl)) T k;have b:=yl (P:=l.prog) (w:=w) (base:=base) (bq X G lE (jY λ_ _ _ _ _ _ _ _=>rfl)) T;have k:=yu (bq X G lG (jY λ_ _ _ _ _ _ _ _=>rfl)) T b;have t:=Au (bq X G nv (jY λ_ _ _ _ _ _ _ _=>rfl)) T b k;have u:=tS (bq X G jz (nj λ_ _ _ _ _ _ _=>rfl)) T t b;have k:=DS (P:=l.prog) (w:=w) (base:=base) (bq X G p6 (nj λ_ _ _ _ _ _ _=>rfl)) T;have t:=Es (bq X G p7 (nj λ_ _ _ _ _ _ _=>rfl)) T j b u k;have v:=DU (P:=l.prog) (w:=w) (base:=base) (bq X G p8 (nj λ_ _ _ _ _ _ _=>rfl)) T;have b:=An (bq X G ny (jY λ_ _ _ _ _ _ _ _=>rfl)) T d a;have k:=DW (bq X G p9 (pY λ_ _ _ _ _ _ _ _ _=>rfl)) T b d a;have u:=DX (bq X G qa (jY λ_ _ _ _ _ _ _ _=>rfl)) T v k;have d:=sC (bq X G iS (jY λ_ _ _ _ _ _ _ _=>rfl)) T u;have b:=DT (P:=l.prog) (w:=w) (base:=base) (bq X G qb (pY λ_ _ _ _ _ _ _ _ _=>rfl)) T;have k:=tO (bq X G jA (pZ λ_ _ _ _ _ _ _ _ _ _=>rfl)) T b a;have u:=pE (bq X G gH (pZ λ_ _ _ _ _ _ _ _ _ _=>rfl)) T k a;have v:=D0 (wM X G qj qk qd oM (RF λ_ _ _ _ _ _ _ _ _ _ _=>rfl)) T d u;have k:=yp (bq X G lH (jY λ_ _ _ _ _ _ _ _=>rfl)) T a;have d:=HU (bq X G tm (jY λ_ _ _ _ _ _ _ _=>rfl)) T a;have u:=wq (bq X G kj (pY λ_ _ _ _ _ _ _ _ _=>rfl)) T k b d;have x:=VA (wM X G JF JG Jy Mx (pZ λ_ _ _ _ _ _ _ _ _ _=>rfl)) T u;have y:=sX (bq X G iT (nj λ_ _ _ _ _ _ _=>rfl)) T v x;have b:=yJ (P:=l.prog) (w:=w) (base:=base) (bq X G lI (RF λ_ _ _ _ _ _ _ _ _ _ _=>rfl)) T;have d:=wz (bq X G kl (pZ λ_ _ _ _ _ _ _ _ _ _=>rfl)) T b;have u:=AX (bq X G nz (pY λ_ _ _ _ _ _ _ _ _=>rfl)) T d;have b:=pJ (P:=l.prog) (w:=w) (base:=base) (bq X G gI (pZ λ_ _ _ _ _ _ _ _ _ _=>rfl)) T;have k:=wu (P:=l.prog) (w:=w) (base:=base) (bq X G km (pY λ_ _ _ _ _ _ _ _ _=>rfl)) T;have v:=Ax (P:=l.prog) (w:=w) (base:=base) (bq X G nC (jY λ_ _ _ _ _ _ _ _=>rfl)) T;have x:=yC (P:=l.prog) (w:=w) (base:=base) (bq X G lJ (nj λ_ _ _ _ _ _ _=>rfl)) T;have d:=tU (P:=l.prog) (w:=w) (base:=base) (bq X G jB (pZ λ_ _ _ _ _ _ _ _ _ _=>rfl)) T;have z:=Av (bq X G nE (RF λ_ _ _ _ _ _ _ _ _ _ _=>rfl)) T d;have B:=pK (cO gJ (pZ λ_ _ _ _ _ _ _ _ _ _=>rfl)) T b k v x z;have d:=sI (P:=l.prog) (w:=w) (base:=base) (cO iU (nj λ_ _ _ _ _ _ _=>rfl)) T;have b:=AA (P:=l.prog) (w:=w) (base:=base) (cO nH (nj λ_ _ _ _ _ _ _=>rfl)) T;have k:=tZ (cO jC (pY λ_ _ _ _ _ _ _ _ _=>rfl)) T a;have v:=t9 (cO jD (jY λ_ _ _ _ _ _ _ _=>rfl)) T k;have x:=sO (cO iV (jY λ_ _ _ _ _ _ _ _=>rfl)) T k;have z:=sT (cO iW (pY λ_ _ _ _ _ _ _ _ _=>rfl)) T a;have k:=oG (cO gn (pZ λ_ _ _ _ _ _ _ _ _ _=>rfl)) T a z;have C:=qO (cO hV (pZ λ_ _ _ _ _ _ _ _ _ _=>rfl)) T b k;have a:=pN (P:=l.prog) (w:=w) (base:=base) (cO gK (pZ λ_ _ _ _ _ _ _ _ _ _=>rfl)) T;have k:=ub (cO jE (pZ λ_ _ _ _ _ _ _ _ _ _=>rfl)) T B d b v x C a e;have z:=AN (cO nI (pY λ_ _ _ _ _ _ _ _ _=>rfl)) T k;have v:=ku (P:=l.prog) (w:=w) (base:=base) (cO eQ (nj λ_ _ _ _ _ _ _=>rfl)) T;have k:=tW (P:=l.prog) (w:=w) (base:=base) (cO jF (nj λ_ _ _ _ _ _ _=>rfl)) T;have l:=V3 (wM X G JL JM Jz My (jY λ_ _ _ _ _ _ _ _=>rfl)) T v k d b a;exact RD (mn ll lc lk) T r j p m q c g i t y u n z e o l
theorem walk{l:W.OpenLaw}{q:Program}{a:List Str}{g:(Str->Option Value)->Heap->Prop}{c:World->Heap->Prop}{d:DefRec}{K:Params->W.Frag}(i:l.most=some 63)(j:d.params.defaults=[])
  (m:∀(w:World) (h:Heap),c w h->(K w.params).In h)
  (F:∀(w:World) (b:Str->Option Value) (e:Addr) (h:Heap),(K w.params).In h->h.Ns mainGlobals b->b d.name=some (.ref e)->
   ∃f:FuncData,(∀(s:Shared) (u:Value),BindsTo s f ⟨[u],[]⟩ [("_law_script",u)])/\∀base:Heap,(K w.params).In base->base.Ns mainGlobals b->jJ l.prog w (K w.params) b base wW 10 e f ["_law_script"] (wL (K w.params))):
  W.WalkO q a g c l.row.toRowW d [] (λf vs=>PySem.call f vs):=
 L2.KW (n:=63) (k:=10) (x:="_law_script") (CX:=λ_=>wW) (sp:=λw=>wL (K w.params)) i (by decide) j ⟨rfl,by decide,by decide⟩ m F (λ_ _ a b c _ d=>⟨a,b,rfl,d,c,λ_=>rfl⟩) λ_ _ _ _ _ z=>z
end ER
end
namespace PySem.W.Fast
def tw11382317349881854299:=Nat
def tw11228628045894094588:=Nat
def tw1199737416587061000:=Nat
def tw10529794497499738762:=Nat
def tw7501059799000431542:=Nat
def tw6349947877605185635:=Nat
def tw12221949448860541588:=Nat
def tw14914017178843941803:=Nat
def tw11226803550491259964:=Nat
def tw10955463980932147789:=Nat
def tw9074108831502021609:=Nat
def tw14681634425118673056:=Nat
def tw10708344990469813063:=Nat
def tw14126643071747540646:=Nat
def tw5220618478428883230:=Nat
def tw10413715845066560268:=Nat
def tw13681674849663529408:=Nat
def tw10939991989016637748:=Nat
def tw14001675323792076666:=Nat
def tw9824765823762284842:=Nat
def tw18026537443581625483:=Nat
def tw17057610401971013243:=Nat
def tw1083944768630209761:=Nat
def tw13933675141509676508:=Nat
def tw9968808364788720937:=Nat
def tw7317750175386944035:=Nat
def tw13579265486080113673:=Nat
def tw6388751730737913199:=Nat
def tw98117506946207592:=Nat
def tw15450700437241510360:=Nat
def tw17375981420492765039:=Nat
def tw17374547119148173042:=Nat
def tw291369295325089084:=Nat
def tw16804112532108179886:=Nat
def tw4010341389968769736:=Nat
def tw4586507928342252397:=Nat
def tw4769583539456473367:=Nat
def tw3647821218197180702:=Nat
def tw11960800015295909216:=Nat
def tw13685295522688219987:=Nat
def tw1313139894581874076:=Nat
def tw3821663614753866278:=Nat
def tw7764392511830219064:=Nat
def tw2876724604603210422:=Nat
def tw10443306069832874032:=Nat
def tw13598770776664250184:=Nat
def tw17701843541072058600:=Nat
def tw13371018932154054113:=Nat
def tw17121683938761108072:=Nat
def tw16425817940580624452:=Nat
def tw5887731365378459923:=Nat
def tw1376987798456538683:=Nat
def tw7350857256859576495:=Nat
def tw3928547620258604906:=Nat
def tw11014212713748857260:=Nat
def tw17850266685365442348:=Nat
def tw18287697739010580406:=Nat
def tw1334300108290761749:=Nat
def tw8345244685056817301:=Nat
def tw18289998389054725944:=Nat
def tw2213268750647419338:=Nat
def tw10160195209165312595:=Nat
def tw13540249117129626173:=Nat
def tw17299128753353837774:=Nat
def tw4444355958464718763:=Nat
def tw10605173071252456306:=Nat
def tw16456199850826390243:=Nat
def tw8731817711303667229:=Nat
def tw1037383764007003023:=Nat
def tw15536988030907784783:=Nat
def tw14492667401123430465:=Nat
def tw1123789351758133031:=Nat
def tw3724219089985269028:=Nat
def tw15809891643691298690:=Nat
def tw12110529367493779922:=Nat
def tw6912161074786593196:=Nat
def tw9496692284974818468:=Nat
def tw668134133882757044:=Nat
def tw8173916643607536922:=Nat
def tw6334995684666835090:=Nat
def tw2013384277004759850:=Nat
def tw3463602997853028123:=Nat
def tw3852386229876078363:=Nat
def tw14215020633037633932:=Nat
def tw7630286420751605726:=Nat
def tw7010155561654742412:=Nat
def tw4650726370474038086:=Nat
def tw16149548582213183221:=Nat
def tw780004562505401781:=Nat
def tw12350513374811937221:=Nat
def tw9146608329355586440:=Nat
def tw8574600373043317154:=Nat
def tw1186177014922352946:=Nat
def tw10664883498436047417:=Nat
def tw4090505074744600607:=Nat
def tw9092272482074759944:=Nat
def tw4871247317326143976:=Nat
def tw17597846570431180972:=Nat
def tw10451300186278264257:=Nat
def tw10534945011079285232:=Nat
def tw1864094224152568098:=Nat
def tw14898782773963036275:=Nat
def tw14401151406824311360:=Nat
def tw16659091358169834835:=Nat
def tw15008075989497251601:=Nat
def tw214997330060701438:=Nat
def tw2781120570919841298:=Nat
def tw7472995598459044259:=Nat
def tw10466970495906599638:=Nat
def tw3990597505300739510:=Nat
def tw18191708893848921369:=Nat
def tw3097641605123923272:=Nat
def tw12085177555785364300:=Nat
def tw13986376407369763330:=Nat
def tw16540330347941640295:=Nat
def tw18055859642498420272:=Nat
def tw13259777540042560438:=Nat
def tw9244723078442531851:=Nat
def tw14954833107859091700:=Nat
def tw11012044406880444314:=Nat
def tw16872202039831244115:=Nat
def tw12616178598154022065:=Nat
def tw14389585090603478791:=Nat
def tw4604981155077837887:=Nat
def tw4570385065226423104:=Nat
def tw8530940958673077081:=Nat
def tw622529813252701888:=Nat
def tw1943232827583722458:=Nat
def tw6513177584109859002:=Nat
def tw13816133147092294279:=Nat
def tw5668056637845884237:=Nat
def tw6665068656054966826:=Nat
def tw685869288012014728:=Nat
def tw6839336753585459238:=Nat
def tw11938679571450300910:=Nat
def tw1648031813967563882:=Nat
def tw17534569992932039499:=Nat
def tw10522207931162434857:=Nat
def tw7379943009350173832:=Nat
def tw3468923251830311207:=Nat
def tw16169539464556154171:=Nat
def tw8055472309257854539:=Nat
def tw14197317520457818678:=Nat
def tw6561394405306718769:=Nat
def tw2761686466825836440:=Nat
def tw12732043589668721887:=Nat
def tw15118379833162122736:=Nat
def tw10367204302974696521:=Nat
def tw15367755692420111741:=Nat
def tw3392109578051042614:=Nat
def tw6821317687891709516:=Nat
def tw8057415356928870159:=Nat
def tw18075574618545071853:=Nat
def tw15921918241584699434:=Nat
def tw11440784556212021037:=Nat
def tw15031483064444362522:=Nat
def tw507491097124837862:=Nat
def tw16284141456343807537:=Nat
def tw5293178203493872540:=Nat
def tw18090894096984722010:=Nat
def tw6981147997393938702:=Nat
def tw6584370166526474581:=Nat
def tw17876770064172417512:=Nat
def tw4433379040988144211:=Nat
def tw9436328428371306816:=Nat
def tw729500840998568687:=Nat
def tw6646985716390226139:=Nat
def tw1327522981360716474:=Nat
def tw5115706379532585643:=Nat
def tw17705650107351599202:=Nat
def tw7328840733219273117:=Nat
def tw16271953330718328989:=Nat
def tw3109056177982883727:=Nat
def tw16757530985605685301:=Nat
def tw1482725208610075948:=Nat
def tw14450042067277228698:=Nat
def tw4048523578761564091:=Nat
def tw530636420866535850:=Nat
def tw6058057236062260578:=Nat
def tw4898127311395883347:=Nat
def tw7567369256104521045:=Nat
def tw10658728514683255898:=Nat
def tw4870445850967772092:=Nat
def tw18416315629918434695:=Nat
def tw2641906791191779764:=Nat
def tw4960795444866628668:=Nat
def tw10125604000858376956:=Nat
def tw9019154189412105794:=Nat
def tw1560571092652856846:=Nat
def tw3976564218049211434:=Nat
def tw17293689223355577117:=Nat
def tw1640020896227574138:=Nat
def tw6898936214735667874:=Nat
def tw18065795930035949742:=Nat
def tw9756441570208865924:=Nat
def tw2547965330853375517:=Nat
def tw12922046548830403227:=Nat
def tw15809745172861147093:=Nat
def tw14719848613147111103:=Nat
def tw3383662264801100909:=Nat
def tw4904545980708284200:=Nat
def tw5688206836010218030:=Nat
def tw1745223948967912133:=Nat
def tw5400787462095230282:=Nat
def tw7183852444219005396:=Nat
def tw423503699474696010:=Nat
def tw13086680793193295291:=Nat
def tw7825668490695025158:=Nat
def tw5430657845901837627:=Nat
def tw16682875204394343318:=Nat
def tw10097708891101790424:=Nat
def tw3546957003817929956:=Nat
def tw1417873551952155780:=Nat
def tw17891961021056472316:=Nat
def tw13821320166705228306:=Nat
def tw4837440965826549141:=Nat
def tw9855658161697299074:=Nat
def tw6370300041037432598:=Nat
def tw12299160918746831505:=Nat
def tw18310810382199432669:=Nat
def tw1833383512733770587:=Nat
def tw9528778564696159474:=Nat
def tw6409729807576581315:=Nat
def tw1225437184235393262:=Nat
def tw1492858195893410269:=Nat
def tw12471588024082610757:=Nat
def tw1860814923464324783:=Nat
def tw14872907236374999195:=Nat
def tw17147364540566278098:=Nat
def tw1491882994693518045:=Nat
def tw15297328675589037427:=Nat
def tw17181591188374614152:=Nat
def tw11793443203429139503:=Nat
def tw8429888915727473938:=Nat
def tw4632143126146717365:=Nat
def tw3763031183308142328:=Nat
def tw4644435353420433904:=Nat
def tw13223823751357962405:=Nat
def tw8404525252775478086:=Nat
def tw4319691684654039956:=Nat
def tw17583148756105039731:=Nat
def tw14636612745803915777:=Nat
def tw5975262708708469578:=Nat
def tw6976431155444716215:=Nat
def tw9088359931974100706:=Nat
def tw3650486926352340953:=Nat
def tw695533266265428724:=Nat
def tw8386094200834875840:=Nat
def tw16547278695926732316:=Nat
def tw7657965269809633229:=Nat
def tw8201118997526253278:=Nat
def tw16519299452535886939:=Nat
def tw7123043913172853535:=Nat
def tw17163814516170605360:=Nat
def tw2072595161937611139:=Nat
def tw6874810385693063153:=Nat
def tw17113892333458353246:=Nat
def tw4869993011931766951:=Nat
def tw16173631254939523565:=Nat
def tw15063068379707259270:=Nat
def tw11821030163532616012:=Nat
def tw9244579463747121985:=Nat
def tw1009250435555174463:=Nat
def tw12908867834189144386:=Nat
def tw5287069093217034429:=Nat
def tw6058276764527141521:=Nat
def tw765297893494135985:=Nat
def tw1994841148720423772:=Nat
def tw8481807128889538523:=Nat
def tw16922809432076380716:=Nat
def tw10702719172793329466:=Nat
def tw17631253396197341327:=Nat
def tw702076902332508984:=Nat
def tw5632825981767105124:=Nat
def tw15302710236321473189:=Nat
def tw3278217620690068158:=Nat
def tw13633000134457659299:=Nat
def tw2495005465673246897:=Nat
def tw2593065534275296718:=Nat
def tw1423108018532320817:=Nat
def tw4405907087921962666:=Nat
def tw4247333508445269859:=Nat
def tw10320300944839564153:=Nat
def tw12720140544176846615:=Nat
def tw15782911692913428922:=Nat
def tw7853747748731374648:=Nat
def tw4212652302498033219:=Nat
def tw1755488136962238781:=Nat
def tw3574635704847770807:=Nat
def tw5242836399338488945:=Nat
def tw18045404307790029609:=Nat
def tw13220932350772275983:=Nat
def tw17776366844875547379:=Nat
def tw7830848323417856387:=Nat
def tw6976051333832791601:=Nat
def tw5336747524170183079:=Nat
def tw2661035504707110557:=Nat
def tw7530967837387231580:=Nat
def tw15105398836656045652:=Nat
def tw1779035845361363508:=Nat
def tw7347107484209084644:=Nat
def tw12863121330242978438:=Nat
def tw14092535341372223969:=Nat
def tw14027676600827149941:=Nat
def tw13973808425739717658:=Nat
def tw15785378693401752113:=Nat
def tw10088405141176516219:=Nat
def tw4108838439218849869:=Nat
def tw12698610919662304196:=Nat
def tw12031249105975107236:=Nat
def tw3597544450210133555:=Nat
def tw15601661906346859027:=Nat
def tw474283894481154645:=Nat
def tw9639078073066528827:=Nat
def tw14741395208902023268:=Nat
def tw2488624757988988409:=Nat
def tw9128417111787212160:=Nat
def tw17155331274237533361:=Nat
def tw4886804746899709553:=Nat
def tw13814570107202159227:=Nat
def tw67447466127759906:=Nat
def tw9485361836889282288:=Nat
def tw13430542290945336213:=Nat
def tw3306210154313715287:=Nat
def tw15327347688283625361:=Nat
def tw14199481503694654352:=Nat
def tw16006082955875681910:=Nat
def tw17438315493627262735:=Nat
def tw7038562438398636651:=Nat
def tw3281782523611893870:=Nat
def tw10049282534471817156:=Nat
def tw6344219600867736998:=Nat
def tw10770194195367436881:=Nat
def tw17681193876480135569:=Nat
def tw1863109755882165585:=Nat
def tw17733684896757176925:=Nat
def tw6049863667277428268:=Nat
def tw7132465629619898185:=Nat
def tw16950856268094574420:=Nat
def tw13743076073478359912:=Nat
def tw7405211495915025154:=Nat
def tw12444596937710939252:=Nat
def tw1207788211119494474:=Nat
def tw15301120413350642932:=Nat
def tw6711950116646417080:=Nat
def tw6714876318833357803:=Nat
def tw5199675199392200470:=Nat
def tw4696757725419994730:=Nat
def tw4623012061724939641:=Nat
def tw5054380075214180348:=Nat
def tw9464497031675148260:=Nat
def tw12136967551999836988:=Nat
def tw3781659441588505896:=Nat
def tw8892236749724415028:=Nat
def tw2464460832251213189:=Nat
def tw10989982618147990946:=Nat
def tw9418290891700017352:=Nat
def tw14719728459708764809:=Nat
def tw8093141613274427384:=Nat
def tw13450333119717766231:=Nat
def tw13950523116064356363:=Nat
def tw4579333175332532021:=Nat
def tw17684694752830452872:=Nat
def tw8248519062908165696:=Nat
def tw5437693957647921494:=Nat
def tw9841844444772582006:=Nat
def tw12507284300134526364:=Nat
def tw7575332052412139678:=Nat
def tw11136966215003795767:=Nat
def tw5237903182857120976:=Nat
def tw12380251807411596438:=Nat
def tw13033989034331923044:=Nat
def tw2675092593901263817:=Nat
def tw9163809453211673091:=Nat
def tw4736465646618261405:=Nat
def tw5100190774397673193:=Nat
def tw12567497176214200861:=Nat
def tw1080722128190686909:=Nat
def tw7799394803480103395:=Nat
def tw11802712721178914033:=Nat
def tw3102028788436126786:=Nat
def tw12105135445201143894:=Nat
def tw4188089594580162202:=Nat
def tw15892008723985884946:=Nat
def tw13259330859581345888:=Nat
def tw2743435321737517332:=Nat
def tw8570280029277252763:=Nat
def tw8872805449485679901:=Nat
def tw6012225400832682446:=Nat
def tw3336957050261235756:=Nat
def tw8783785776070817162:=Nat
def tw17291136277275049339:=Nat
def tw13606465485853916222:=Nat
def tw15258700986536896002:=Nat
def tw6242652926054993593:=Nat
def tw16852472108763306646:=Nat
def tw10069521048843537537:=Nat
def tw57082164544078949:=Nat
def tw14274486954069320243:=Nat
def tw9213457730355344357:=Nat
def tw6123940795646140519:=Nat
def tw13016020512395729632:=Nat
def tw10147959397671028026:=Nat
def tw7164085807891543756:=Nat
def tw12834724192805258075:=Nat
def tw15329471338974666173:=Nat
def tw2212358828056882904:=Nat
def tw13215341240316633206:=Nat
def tw9917749869777306633:=Nat
def tw9913870206686062130:=Nat
def tw14020661240649218786:=Nat
def tw5418603683040804136:=Nat
def tw555144341739848670:=Nat
def tw11100660198108369063:=Nat
def tw4916155717349805620:=Nat
def tw14423114257944346687:=Nat
def tw12659273882166955001:=Nat
def tw2104420011490988173:=Nat
def tw17048039488645996920:=Nat
def tw11372970487252491930:=Nat
def tw1553347058141477944:=Nat
def tw16539391251304225282:=Nat
def tw9809869249359391610:=Nat
def tw11308706398900691963:=Nat
def tw16134893269447602623:=Nat
def tw17067030270268605984:=Nat
def tw5477841745706240156:=Nat
def tw15269136081565875412:=Nat
def tw3753734754602455078:=Nat
def tw15633163693918504573:=Nat
def tw8212992331330769937:=Nat
def tw2533119941447062859:=Nat
def tw17183639654000253868:=Nat
def tw8658282574979021185:=Nat
def tw3046395630100892826:=Nat
def tw4436040366062912793:=Nat
def tw17452761694832613829:=Nat
def tw12323498341174831047:=Nat
def tw10713698837675062567:=Nat
def tw5591169816290293095:=Nat
def tw17790851216299007976:=Nat
def tw5490487586769320491:=Nat
def tw5480711390323959549:=Nat
def tw15569351105019775847:=Nat
def tw7537455874134874268:=Nat
def tw3790725991819864818:=Nat
def tw11328022027052119411:=Nat
def tw7548197970637097290:=Nat
def tw6621902152384336690:=Nat
def tw3493857403038438201:=Nat
def tw15244140048243473388:=Nat
def tw6220956130898082458:=Nat
def tw10134150437157075860:=Nat
def tw3348462935136247341:=Nat
def tw9847620577881752165:=Nat
def tw4319145559813095467:=Nat
def tw3766978565749519960:=Nat
def tw11422053272462562481:=Nat
def tw9386029369724415440:=Nat
def tw1417095153256887119:=Nat
def tw15507094050111293061:=Nat
def tw10333917048091801227:=Nat
def tw2202804145562014940:=Nat
def tw13351144314432141224:=Nat
def tw124872067445404719:=Nat
def tw225244674603763361:=Nat
def tw8272025955094391718:=Nat
def tw3274048969844727631:=Nat
def tw7607925069695472066:=Nat
def tw15624918271459488704:=Nat
def tw18205999013575868313:=Nat
def tw16483505256379880273:=Nat
def tw17211539369195655497:=Nat
def tw12033477423941736719:=Nat
def tw8628388400977459191:=Nat
def tw1130489688519656847:=Nat
def tw12471417975553559495:=Nat
def tw4384496851619920501:=Nat
def tw6464930924181332396:=Nat
def tw15461154777603356433:=Nat
def tw5064049637216168273:=Nat
def tw17518607907887449263:=Nat
def tw12096623234253459133:=Nat
def tw15114810680345355839:=Nat
def tw17508174676812843814:=Nat
def tw6113528262450090424:=Nat
def tw15237101451263865760:=Nat
def tw11778168275510738415:=Nat
def tw17150343749384485111:=Nat
def tw14703657508310826430:=Nat
def tw16440099164144181578:=Nat
def tw17186302043181928642:=Nat
def tw6221719529313535635:=Nat
def tw1706802866021278050:=Nat
def tw10132013657901064314:=Nat
def tw16355568676537428270:=Nat
def tw16300639453067248160:=Nat
def tw16862029236088455237:=Nat
def tw4662736214983858746:=Nat
def tw5984591486800312121:=Nat
def tw16196733882294568802:=Nat
def tw11928882076495365896:=Nat
def tw3872634489135058434:=Nat
def tw8036259409897225281:=Nat
def tw6827575517096048669:=Nat
def tw8820485724558594456:=Nat
def tw3221947629714295677:=Nat
def tw12749140101117777230:=Nat
def tw17227572526822081433:=Nat
def tw6078868421751049773:=Nat
def tw7628679450344052828:=Nat
def tw10352870270823665301:=Nat
def tw6957692679289742448:=Nat
def tw80033533586540022:=Nat
def tw98946290729187525:=Nat
def tw13571807047953068539:=Nat
def tw13641064029301981971:=Nat
def tw9488913334502397544:=Nat
def tw11485783122835765675:=Nat
def tw11050482754712105829:=Nat
def tw11044562747493920215:=Nat
def tw1710545948878122095:=Nat
def tw4818823335868527791:=Nat
def tw12134266547555919097:=Nat
def tw5698467576805371727:=Nat
def tw15296868629137308021:=Nat
def tw5555735024525762599:=Nat
def tw17816112690408617115:=Nat
def tw4957215718939021576:=Nat
def tw5532722290968776947:=Nat
def tw5556741419160314642:=Nat
def tw4687865481738986141:=Nat
def tw8556029695317401459:=Nat
def tw16882459768958532280:=Nat
def tw11757004985804158641:=Nat
def tw10136967805739380611:=Nat
def tw14143918684552083086:=Nat
def tw2780775398957809177:=Nat
def tw2731793701028362238:=Nat
def tw10734413050510367646:=Nat
def tw8024431819687212135:=Nat
def tw8007140018044960602:=Nat
def tw17663336834979894855:=Nat
def tw17847762798516028447:=Nat
def tw4913081354758274442:=Nat
def tw18368897659981828971:=Nat
def tw5394825990111290146:=Nat
def tw18146186181623190090:=Nat
def tw474866993036907165:=Nat
def tw8814335485356930888:=Nat
def tw3445755728384108898:=Nat
def tw8233892101443602740:=Nat
def tw9215545150951590982:=Nat
def tw18166213353239916688:=Nat
def tw17585175512252274640:=Nat
def tw1129858261101747838:=Nat
def tw11594973476857026021:=Nat
def tw11255605984296141215:=Nat
def tw8595367683824111604:=Nat
def tw3677670966120154968:=Nat
def tw10502267654704091307:=Nat
def tw10603941846878566431:=Nat
def tw13640838149150246476:=Nat
def tw10633160787146987294:=Nat
def tw3789362610442130504:=Nat
def tw6744950877246433984:=Nat
def tw4098542709221602090:=Nat
def tw5952913429839766878:=Nat
def tw16899614744848090095:=Nat
def tw5940712561419667437:=Nat
def tw1221873269461310716:=Nat
def tw1713040193409776370:=Nat
def tw11007576094223028290:=Nat
def tw10968813098862645525:=Nat
def tw14164709082110784734:=Nat
def tw8693669750317500093:=Nat
def tw7329311644939794556:=Nat
def tw14125352949954560091:=Nat
def tw6381403602894068247:=Nat
def tw15824153410466481741:=Nat
def tw11717550932176504089:=Nat
def tw856887114690460319:=Nat
def tw4829323006553749558:=Nat
def tw18426152455212919744:=Nat
def tw9070030633057081674:=Nat
def tw9015801651490168072:=Nat
def tw11729622789313330130:=Nat
def tw17330207543406342653:=Nat
def tw11582568211378449645:=Nat
def tw13389541631496674585:=Nat
def tw6460982489215635988:=Nat
def tw2753737565893972776:=Nat
def tw3113495776382882072:=Nat
def tw3183627539576506284:=Nat
def tw6696267676626788644:=Nat
def tw2929351242380316072:=Nat
def tw1117097642576619484:=Nat
def tw1260299395651521725:=Nat
def tw11403056515191942908:=Nat
def tw16875052737608340887:=Nat
def tw12337389203513354730:=Nat
def tw9200713498124230978:=Nat
def tw74974341893653043:=Nat
def tw17674105486757884337:=Nat
def tw10690611796710617283:=Nat
def tw2471997494357411128:=Nat
def tw3384167031645442822:=Nat
def tw9918907034017856988:=Nat
def tw15995802860757860414:=Nat
def tw7725525402006724405:=Nat
def tw16844847391458680946:=Nat
def tw13114925831166987652:=Nat
def tw13368977108000526412:=Nat
def tw3289039860970244995:=Nat
def tw14780983339364391264:=Nat
def tw1671473524008824969:=Nat
def tw16941428206440323898:=Nat
def tw3521122716328527798:=Nat
def tw6875113958836928198:=Nat
def tw5758043322283574451:=Nat
def tw1009320547558173436:=Nat
def tw5969147768182652135:=Nat
def tw12343967901807460893:=Nat
def tw10338366152303596511:=Nat
def tw6785326516688383925:=Nat
def tw16951598010274724165:=Nat
def tw6909079352134268534:=Nat
def tw1976228531716675371:=Nat
def tw1558802919851838612:=Nat
def tw2458737425335669812:=Nat
def tw2000897507483165952:=Nat
def tw6700174882312388466:=Nat
def tw5328742449743486700:=Nat
end PySem.W.Fast
open PySem PySem.W PyProof.Rows
local macro_rules | `(tactic| walk_at "d") => `(tactic| first | exact ER.Oc (by k_is) (by k_is) (by k_is) (by k_is) | (refine' ER.Oc ?a ?l ?c ?k; (case a => k_is); (case l => k_is); (case c => k_is); (case k => k_is)))
local macro_rules | `(tactic| walk_at "x") => `(tactic| (refine' ER.XG ?a ?b ?c ?d ?e ?f ?g; (case a => k_is); (case b => k_is); (case c => k_is); (case d => k_is); (case e => k_is); (case f => k_is); (case g => k_is)))
local macro_rules | `(tactic| walk_at "m") => `(tactic| first | exact ER.Od (by k_is) (by k_is) (by k_is) (by k_is) (by k_is) | (refine' ER.Od ?a ?i ?l ?c ?k; (case a => k_is); (case i => k_is); (case l => k_is); (case c => k_is); (case k => k_is)))
set_option maxRecDepth 100000 in
set_option maxHeartbeats 0 in
theorem PySem.Challenge.cw_cutrestore_k26_states_behind_holds : PySem.Challenge.rw_cutrestore_k26_states_behind.Holds := by
 w_on;o_law;k_head;(case hw=>w_witness2)
 k_fill
 refine ER.walk (l:=PySem.Challenge.rw_cutrestore_k26_states_behind) rfl rfl (λw h Y=>W.kIn_of Y) ?F
 case F=>
  intro w mg fa h KX G T7;refine' ER.all_mk KX G T7 ?aB ?UO ?tyB ?RG ?EA ?Mt ?EB ?EC ?Mu ?Mv ?ED ?EF ?Mw ?EG ?CM ?vk ?CP ?vm ?CQ ?vn ?vo ?vp ?vq ?gf ?fu ?fw ?dB ?eZ ?eF ?gh ?cT ?RH ?RI ?RJ ?RK ?RL ?RM ?Js ?Jt ?Ju ?Jv ?Jw ?Jx ?oM ?Mx ?My ?p5 ?iQ ?iR ?nk ?lu ?fL ?gG ?fM ?fN ?ki ?nr ?lx ?ly ?lA ?jy ?lB ?tj ?lC ?lD ?nu ?lE ?lG ?nv ?jz ?p6 ?p7 ?p8 ?ny ?p9 ?qa ?iS ?qb ?jA ?gH ?qd ?lH ?tm ?kj ?Jy ?iT ?lI ?kl ?nz ?gI ?km ?nC ?lJ ?jB ?nE ?gJ ?iU ?nH ?jC ?jD ?iV ?iW ?gn ?hV ?gK ?jE ?nI ?eQ ?jF ?Jz ?JA ?qf ?qg ?qh ?qi ?qj ?qk ?DQ ?DR ?Ng ?Qt ?Nh ?JB ?JC ?JD ?JE ?JF ?JG ?HF ?HG ?yg ?yh ?Ak ?JH ?JI ?JJ ?JK ?JL ?JM ?HH ?HI ?de ?dG ?bO ?dC ?cA ?cf ?fH ?dH ?eN ?cI ?kn ?JN ?Bc ?JO ?wN ?Bd ?JP ?wO ?JQ ?JR ?JS ?JT ?JU ?lK ?ko ?eA ?dW ?dX ?fG ?dy ?fO ?dY ?eB ?aF ?lF ?neF ?lP0 ?lP1 ?lP2 ?lP3 ?lP4 ?lP5 ?lP6 ?lP7 ?RN ?hnB
  (case aB|UO|tyB|RG=>k_is)
  (case EA|Mt|EB|EC|Mu|Mv|ED|EF|Mw|EG|CM|vk|CP|vm|CQ|vn|vo|vp|vq=>walk_at "x")
  (case gf|fu|fw|dB|eZ|eF|gh|cT|RH|RI|RJ|RK|RL|RM|Js|Jt|Ju|Jv|Jw|Jx|oM|Mx|My=>k_is)
  (case p5|iQ|iR|nk|lu=>walk_at "d")
  (case fL|gG|fM|fN=>walk_at "m")
  (case ki|nr=>walk_at "d")
  (case lx|ly|lA=>walk_at "m")
  (case jy|lB|tj|lC|lD|nu|lE|lG|nv|jz|p6|p7|p8|ny|p9|qa|iS|qb|jA|gH=>walk_at "d")
  (case qd=>walk_at "m")
  (case lH|tm|kj=>walk_at "d")
  (case Jy=>walk_at "m")
  (case iT|lI|kl|nz|gI|km|nC|lJ|jB|nE=>walk_at "d")
  (case gJ|iU|nH|jC|jD|iV|iW|gn|hV|gK|jE|nI|eQ|jF|Jz=>walk_at "m")
  (case JA=>walk_at "d")
  (case qf|qg|qh|qi|qj|qk|DQ|DR|Ng|Qt|Nh|JB|JC|JD|JE|JF|JG|HF|HG|yg|yh|Ak|JH|JI|JJ|JK|JL|JM|HH|HI|de|dG|bO|dC|cA|cf|fH|dH|eN|cI|kn|JN|Bc|JO|wN|Bd|JP|wO|JQ|JR|JS|JT|JU|lK|ko|eA|dW|dX|fG|dy|fO|dY|eB|aF|lF=>k_is)
  (case neF=>first|rfl|decide)
  (case lP0|lP1|lP2|lP3|lP4|lP5|lP6|lP7=>k_is)
  (case RN|hnB=>decide +kernel)
