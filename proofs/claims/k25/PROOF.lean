import PyProof.Rows.All
import Wide.All
import OpenK.AllK
import Wide.FinOn
import Lean
import PyProof.EqAt
import PyProof.EqKinds
import PyProof.TupleCall
import PyProof.NeKinds
import PyProof.Rows.Range3
import KE.KIsAll
import PyProof.ExcClass3
import PyProof.InstStoreFacts
import PyProof.ExcArgsOwn
import PyProof.ExcBaseAll.ValueError
import PyProof.ExcAttrAll.ValueError
import PyProof.Draws
import PyProof.ZipIter
import PyProof.SumWalk
import PyProof.Rows.FactsT2
import PyProof.EnumMake
import PyProof.Rows.EnumRows
import KE.KTab
import PyProof.StationsW
import PyProof.RulesAs
import PyProof.NsDelKeeps
import PyProof.PassesOwn
import PyProof.Rows.ListMulArg
import PyProof.StrWalks
import PyProof.MeetsStr
import PyProof.MeetsStr2
import PyProof.StrBlockL
import PyProof.SliceStr2
import PyProof.StrLawsIdx
import PyProof.FitsStr
import PyProof.StrLaws
import PyProof.Rows.FStr
import KE.KIntText
import PyProof.StrLawsTight
import PyProof.Rows.StrIntSpec
import PyProof.Rows.CountFlat
import PyProof.Rows.SeqMore2
import PyProof.SeqRoads
import PyProof.StrLawsAffix
import PyProof.InstEq
import PySem.Challenge.RW_cutrestore_k25_letters_events
set_option compiler.extract_closed false
set_option Elab.async false
set_option linter.all false
set_option maxRecDepth 100000
theorem L2.fo{p:Prop}(h:∀g:Prop,(p->g)->g):p:=h p id
section
set_option hygiene false
local macro_rules | `(tactic| calc $e:term) => `(tactic| refine $e)
local macro_rules | `(tactic| lia) => `(tactic| omega)
local macro_rules | `(tactic| nofun) => `(tactic| refine L2.fo λgZ hZ => ?_)
local macro_rules | `(tactic| ac_rfl) => `(tactic| (refine hZ ?_; clear hZ gZ))
set_option hygiene true
set_option hygiene false
local macro_rules | `(tactic| grind) => `(tactic| first | exact Or.inl rfl | exact Or.inr rfl | assumption)
local macro_rules | `(tactic| symm) => `(tactic| refine D.ok sc (λvs H Q E h => ?_) (λf dN A outer s H vs Q E hr h => ?_))
local macro_rules
 | `(tactic| walk_at "xc") => `(tactic| (refine ⟨?_⟩; intro pins s σ H Q I h))
 | `(tactic| walk_at "xd") => `(tactic| (refine ⟨?_⟩; intro pins s σ H D I h))
 | `(tactic| walk_at "xf") => `(tactic| refine ⟨_, (ao (aI (fE (bg dC rfl T.bq PyProof.Rows.boot_isinstance (ag (aq 0) (ag (dB (v := .ty "int") rfl T.Em PyProof.Rows.boot_int rfl) aa))) (ic (En (bg dC rfl T.bq PyProof.Rows.boot_isinstance (ag (aq 0) (ag (dB (v := .ty "bool") rfl T.Eo PyProof.Rows.boot_bool rfl) aa)))))))), ?_⟩)
 | `(tactic| walk_at "xg") => `(tactic| refine ⟨Ext.set (Ext.refl _) rfl, ?_⟩)
 | `(tactic| walk_at "xh") => `(tactic| obtain ⟨a, u1, u2, u3, k0, rfl, ha, g1, g2, g3⟩ := bX hx)
set_option hygiene true
abbrev Sl:= @PySem.F.slot_dict_get
abbrev W9:= @PySem.F.attrBase_ValueError
abbrev oj:= @PySem.F.plainAttrs_list
abbrev qA:= @PySem.F.slot_list_append
abbrev qB:= @PySem.F.type_list_append
abbrev yK:= @PyProof.Rows.boot_isinstance
abbrev sR:= @PyProof.Rows.boot_tuple
abbrev AB:= @PyProof.Rows.boot_list
abbrev Sm:= @PyProof.Rows.boot_all
section
open PySem
abbrev J':= @wpAny_bind
abbrev K':= @Heap.get?_push_of_some
abbrev L':= @Nat.le_refl
abbrev P':= @Nat.le_of_lt
abbrev R':= @wpAny_pure
abbrev S':= @Nat.lt_of_lt_of_le
abbrev T':= @Heap.lt_size
abbrev U':= @PySem.boot_len
abbrev V':= @Bool.false_ne_true
abbrev W':= @Heap.get?_push_size
abbrev X':= @Nat.ne_of_lt
abbrev Y':= @List.mem_of_getElem?
abbrev aai:= @List.getElem_mem
abbrev aam:= @False.elim
abbrev aao:= @Nat.not_lt_zero
abbrev aap:= @Nat.le_trans
abbrev aaq:= @Int.eq_ofNat_of_zero_le
abbrev aar:= @List.mem_append_right
abbrev aat:= @wpAny_mono
abbrev aav:= @Nat.zero_le
abbrev aaw:= @True.intro
abbrev aax:= @wpAny_field
abbrev aay:= @List.mem_cons_of_mem
abbrev aaz:= @W.mg_none_of
abbrev aaA:= @wpAny_loadPart_at
abbrev aaB:= @List.mem_cons_self
abbrev aaC:= @Int.emod_lt_of_pos
abbrev aaD:= @wpAny_holding
abbrev aaE:= @Int.emod_nonneg
abbrev aaF:= @wpAny_pyIter_tuple
abbrev aaG:= @Nat.lt_irrefl
abbrev aaH:= @wpAny_callSpecial?_slot
abbrev aaI:= @wpAny_truthy_bool
abbrev aaJ:= @wpAny_newObj_type
abbrev aaR:= @PySem.mem_of_lookup
abbrev aaS:= @Nat.lt_of_le_of_lt
abbrev aaW:= @Heap.get?_update_self
abbrev aaX:= @PyProof.Rows.slot_tuple_getitem
abbrev aaY:= @wpAny_isSubtype_exc
abbrev aaZ:= @Int.toNat_of_nonneg
abbrev aa0:= @wpAny_seqItems
abbrev aa1:= @Nat.le_add_right
abbrev aa2:= @List.ext_getElem
end
namespace L2
open PySem PySem.Spec PyProof.Rows
section
theorem cE{α:Type _}{l:List α}{i:Nat}(h:i<l.length):l[i]?=some l[i]:=List.getElem?_eq_getElem h
abbrev Key:=Sum Int Str
def tP:Key->Value->Bool
 | .inl k,v=>Value.isInt k v
 | .inr x,v=>Value.isStrOf x v
def YL(w:World):Key->Int
 | .inl k=>hashInt k
 | .inr x=>hashStr w x
theorem di:∀{k:Key}{v:Value},tP k v=true->(∃i t,k=Sum.inl i/\v=Value.int i t)\/(∃x t,k=Sum.inr x/\v=Value.str x t)
 | .inl i,v,h=>by
  obtain⟨t,e⟩:=Value.isInt_shape (k:=i) (v:=v) h;calc .inl ⟨i,t,rfl,e⟩
 | .inr x,v,h=>by
  obtain⟨t,e⟩:=Value.isStrOf_shape (x:=x) (v:=v) h;calc .inr ⟨x,t,rfl,e⟩
theorem B9(i:Int)(t:Tok):tP (.inl i) (.int i t)=true:=by simp[tP,Value.isInt]
theorem Ca(x:Str)(t:Tok):tP (.inr x) (.str x t)=true:=by simp[tP,Value.isStrOf]
theorem NM(a b:Int):decide ((Sum.inl a:Key)=Sum.inl b)=(a==b):=by
 by_cases e:a=b
 ·subst e;simp
 ·have h:¬(Sum.inl a:Key)=Sum.inl b:=λq=>e (Sum.inl.inj q);rw[decide_eq_false h];calc(beq_eq_false_iff_ne.mpr e).symm
theorem NN(a b:Str):decide ((Sum.inr a:Key)=Sum.inr b)=decide (a=b):=by
 by_cases e:a=b
 ·subst e;simp
 ·have h:¬(Sum.inr a:Key)=Sum.inr b:=λq=>e (Sum.inr.inj q);rw[decide_eq_false h,decide_eq_false e]
theorem NO(a:Int)(b:Str):decide ((Sum.inl a:Key)=Sum.inr b)=false:=decide_eq_false (λq=>nomatch q)
theorem NP(a:Str)(b:Int):decide ((Sum.inr a:Key)=Sum.inl b)=false:=decide_eq_false (λq=>nomatch q)
def cX(prog:Program)(w:World):PySem.KeyKind prog w Key where
 is:=tP
 hash:=YL w
 inj:=λv a b f d=>by
  rcases di f with⟨i,t,rfl,rfl⟩|⟨x,t,rfl,rfl⟩
  ·rcases di d with⟨j,u,rfl,e⟩ | ⟨y,u,rfl,e⟩
   ·injection e with e1 _;rw[e1]
   ·exact nomatch e
  ·rcases di d with⟨j,u,rfl,e⟩ | ⟨y,u,rfl,e⟩
   ·exact nomatch e
   ·injection e with e1 _;rw[e1]
 byValue:=λk v h=>by
  rcases di h with⟨i,t,rfl,rfl⟩|⟨x,t,rfl,rfl⟩<;>rfl
 pyHash:=λc h=>by
  rcases di c with⟨i,t,rfl,rfl⟩|⟨x,t,rfl,rfl⟩
  ·exact wpAny_pyHash_int h
  ·exact wpAny_pyHash_str h
 eqBool:=λg c h=>by
  rcases di g with⟨i,t,rfl,rfl⟩|⟨x,t,rfl,rfl⟩
  ·rcases di c with⟨j,u,rfl,rfl⟩ | ⟨y,u,rfl,rfl⟩
   ·rw[NM]at h;exact wpAny_eqBool_int h
   ·rw[NO]at h;exact SeqAt.EqAt.int_str i t y u _ _ _ _ h
  ·rcases di c with⟨j,u,rfl,rfl⟩ | ⟨y,u,rfl,rfl⟩
   ·rw[NP]at h;exact SeqAt.EqAt.str_int x t j u _ _ _ _ h
   ·rw[NN]at h;exact wpAny_eqBool_str h
 «strs»:=λk x t v h=>by
  rcases di h with⟨i,u,rfl,e⟩|⟨y,u,rfl,e⟩
  ·exact nomatch e
  ·injection e with e1 _
   subst e1
   cases v<;>rfl
theorem wt(prog:Program)(w:World)(i:Int)(t:Tok):(cX prog w).is (.inl i) (.int i t)=true:=B9 i t
theorem wu(prog:Program)(w:World)(x:Str)(t:Tok):(cX prog w).is (.inr x) (.str x t)=true:=Ca x t
end
section
variable {a b:Addr}{o u:HO}{H:Hp}
inductive V where
 |bD|bl (b:Bool)|int (i:Int)|str (x:Str)|yx (b:Array UInt8)|LP (b:UInt64)|ref (a:Addr)|ty (n:String)
 deriving DecidableEq
def RelV:V->Value->Prop
 | .bD,u=>u=Value.none
 | .bl b,u=>u=Value.bool b
 | .int i,u=>∃t,u=Value.int i t
 | .str x,u=>∃t,u=Value.str x t
 | .yx b,u=>∃t,u=Value.bytes b t
 | .LP b,u=>∃t,u=Value.float b t
 | .ref a,u=>u=Value.ref a
 | .ty n,u=>u=Value.type n
abbrev Vals:List V->List Value->Prop:=Paired RelV
theorem Vals.length{xs:List V}{us:List Value}(r:Vals xs us):xs.length=us.length:=Paired.length r
theorem Vals.get:∀{xs:List V}{us:List Value}{i:Nat}{x:V},Vals xs us->xs[i]?=some x->∃u,us[i]?=some u/\RelV x u
 |_,_,_,_,.nil,e=>by simp at e
 |_,_,0,_,.cons r _,e=>by simp at e;subst e;calc⟨_,rfl,r⟩
 |_,_,i+1,x,.cons _ t,e=>by
  obtain⟨u,a,b⟩:=Vals.get (i:=i) (x:=x) t (by simpa using e);calc⟨u,by simpa using a,b⟩
theorem Vals.set{x:V}{u:Value}(r:RelV x u):∀{xs:List V}{us:List Value}(i:Nat),Vals xs us->Vals (xs.set i x) (us.set i u)
 |_,_,_,.nil=>.nil
 |_,_,0,.cons _ t=>.cons r t
 |_,_,i+1,.cons q t=>.cons q (Vals.set r i t)
theorem Vals.append:∀{xs a:List V}{us b:List Value},Vals xs us->Vals a b->Vals (xs++a) (us++b)
 |_,_,_,_,.nil,s=>s
 |_,_,_,_,.cons r t,s=>.cons r (Vals.append t s)
theorem Vals.take:∀{xs:List V}{us:List Value}(n:Nat),Vals xs us->Vals (xs.take n) (us.take n)
 |_,_,0,_=>.nil
 |_,_,_+1,.nil=>.nil
 |_,_,n+1,.cons r t=>.cons r (Vals.take n t)
theorem Vals.drop:∀{xs:List V}{us:List Value}(n:Nat),Vals xs us->Vals (xs.drop n) (us.drop n)
 |_,_,0,r=>r
 |_,_,_+1,.nil=>.nil
 |_,_,n+1,.cons _ t=>Vals.drop n t
def iR:Option V->Option Value->Prop
 |some v,some u=>RelV v u
 |none,none=>True
 |_,_=>False
def KV{κ:Type}:List (κ×V)->List (κ×Value)->Prop:=Paired λ(p:κ×V) (q:κ×Value)=>p.1=q.1/\RelV p.2 q.2
def kV:Key->V
 | .inl i=>.int i
 | .inr x=>.str x
inductive HO where
 |lst (xs:List V)
 |tup (xs:List V)
 |dK (aQ:List (Key×V))|dT (aQ:List (List Key×V))
 |set (S:Int->Bool) (n:Nat)
 |ins (C dx:Addr) (fs:List (Str×V))
 |own (x:Addr)
 |xd (fs:List (Str×V))
 |met (f x:Addr)
 |YM (lo hi:Int)
 |yy (o:Obj) (u:HO)
 |NQ (ps:Array Value)
 |ext (φ:Heap->Prop)
abbrev Hp:=Addr->Option HO
def upd(H:Hp)(a:Addr)(o:HO):Hp:=λb=>if b=a then some o else H b
theorem af:upd H a o a=some o:=by unfold upd;rw[if_pos rfl]
theorem ay(h:b≠a):upd H a o b=H b:=by unfold upd;rw[if_neg h]
theorem qC:upd (upd H a o) a u=upd H a u:=by
 funext b;unfold upd;split<;>rfl
theorem Sn(h:H a=some o)(h':H b=some u)(d:o≠u):a≠b:=by
 intro e;subst e;rw[h]at h';calc d (Option.some.inj h')
theorem au(h:H a=some o)(h':H b=none):a≠b:=by
 intro e;subst e;rw[h]at h';cases h'
section
variable (P:Program)(w:World)
def cC(H:Hp)(h:Heap)(a:Addr):HO->Prop
 | .lst xs=>xs.length<=sizeLine/\∃(b:List Value) (n:Nat),Vals xs b/\h.get? a=some {cls:=.type "list",data:=.seq b.toArray n}
 | .tup xs=>xs.length<=sizeLine/\∃b:List Value,Vals xs b/\IsTup h a b.toArray
 | .dK b=>b.length<=sizeLine/\(a==sysModules)=false/\∃vs,KV b vs/\h.DictOf (cX P w) a vs
 | .dT b=>b.length<=sizeLine/\(a == sysModules)=false/\∃xs:List (List Key×Addr×Value),
   Paired (λ(p:List Key×V) (q:List Key×Addr×Value)=>p.1=q.1/\H q.2.1=some (.tup (p.1.map kV))/\RelV p.2 q.2.2) b xs/\
   ∃o b c,h.get? a=some o/\o.ExactDict/\o.data=.dict b c/\b.toList=xs.map (entryOfKey (tupleKind (cX P w)))/\(xs.map (·.1)).Nodup
 | .set S n=>h.SetOf (intKind P w) a S n
 | .ins C d c=>H d=some (.own a)/\c.length<=1000/\d≠a/\h.get? a=some (W.instObj C d)/\
   ∃b,h.Ns1 d b/\(∀f,iR (c.lookup f) (b f))/\PySem.Within b (c.map (·.1))
 | .own _=>∃o,h.get? a=some o
 | .xd c=>∃b,h.Ns1 a b/\∀f,iR (c.lookup f) (b f)
 | .YM b c=>∃t u v,h.get? a=some {cls:=.type "range",data:=.fields #[.int b t,.int c u,.int 1 v]}
 | .yy o u=>h.get? a=some o/\cC H h a u
 | .NQ b=>h.get? a=some {cls:=.none,data:=.fields b}
 | .met f x=>h.get? a=some (W.methodObj (.ref f) (.ref x))
 | .ext φ=>φ h/\(∃o,h.get? a=some o)/\∀b c:Heap,φ b->(∀o,b.get? a=some o->c.get? a=some o)->φ c
def lN(H:Hp)(h:Heap):Prop:=∀a o,H a=some o->cC P w H h a o
end
section
variable {P:Program}{w:World}{H H':Hp}{h h':Heap}{a:Addr}{o:HO}
theorem cC.lt(x:cC P w H h a o):a<h.objs.size:=by
 cases o with
 |lst b=>obtain⟨_,_,_,_,e⟩:=x;calc T' e
 |tup b=>obtain⟨_,_,_,p⟩:=x;calc p.lt
 |dK b=>obtain⟨_,_,_,_,o,_,_,e,_⟩:=x;calc T' e
 |dT b=>obtain⟨_,_,_,_,o,_,_,e,_⟩:=x;calc T' e
 |set S n=>obtain⟨o,_,_,_,e,_⟩:=x;calc T' e
 |ins C c b=>obtain⟨_,_,_,e,_⟩:=x;calc T' e
 |own y=>obtain⟨_,e⟩:=x;calc T' e
 |xd b=>obtain⟨_,⟨_,_,_,e,_⟩,_⟩:=x;calc T' e
 |YM b c=>obtain⟨_,_,_,e⟩:=x;calc T' e
 |yy b u=>obtain⟨e,_⟩:=x;calc T' e
 |NQ b=>calc T' (show h.get? a=some _ from x)
 |met f y=>calc T' (show h.get? a=some _ from x)
 |ext φ=>obtain⟨_,⟨_,e⟩,_⟩:=x;calc T' e
theorem Paired.NR{α β:Type}{F G:α->β->Prop}:∀{c:List α}{d:List β},Paired F c d->(∀a b,F a b->G a b)->Paired G c d
 |_,_,.nil,_=>.nil
 |_,_,.cons r t,f=>.cons (f _ _ r) (Paired.NR t f)
theorem cC.aK(x:cC P w H h a o)(k:∀b u,(b=a\/H b=some (.own a))->h.get? b=some u->h'.get? b=some u)
  (m:∀b,H b=some (.own a)->H' b=some (.own a)) (j:∀b xs,H b=some (.tup xs)->H' b=some (.tup xs)):cC P w H' h' a o:=by
 induction o with
 |lst xs=>obtain⟨z,d,n,r,e⟩:=x;calc⟨z,d,n,r,k _ _ (.inl rfl) e⟩
 |tup xs=>obtain⟨z,d,r,f,e,c⟩:=x;calc⟨z,d,r,f,k _ _ (.inl rfl) e,c⟩
 |dK d=>obtain⟨z,y,l,r,f,g,i,e,c⟩:=x;calc⟨z,y,l,r,f,g,i,k _ _ (.inl rfl) e,c⟩
 |dT d=>
  obtain⟨z,y,xs,r,f,g,i,e,c⟩:=x;calc⟨z,y,xs,Paired.NR r λp q z=>⟨z.1,j _ _ z.2.1,z.2.2⟩,f,g,i,k _ _ (.inl rfl) e,c⟩
 |set S n=>obtain⟨f,g,i,t,e,c⟩:=x;calc⟨f,g,i,t,k _ _ (.inl rfl) e,c⟩
 |ins C d n=>
  obtain⟨d,z,s,e,j,⟨l,g,i,v,c⟩,r⟩:=x;calc⟨m _ d,z,s,k _ _ (.inl rfl) e,j,⟨l,g,i,k _ _ (.inr d) v,c⟩,r⟩
 |own y=>obtain⟨f,e⟩:=x;calc⟨f,k _ _ (.inl rfl) e⟩
 |xd n=>obtain⟨j,⟨l,g,i,e,c⟩,r⟩:=x;calc⟨j,⟨l,g,i,k _ _ (.inl rfl) e,c⟩,r⟩
 |YM c d=>obtain⟨t,u,v,e⟩:=x;calc⟨t,u,v,k _ _ (.inl rfl) e⟩
 |yy f u c=>obtain⟨e,q⟩:=x;calc⟨k _ _ (.inl rfl) e,c q⟩
 |NQ c=>
  have e:h.get? a=some {cls:=.none,data:=.fields c}:=x;show h'.get? a=some {cls:=.none,data:=.fields c};calc k a _ (.inl rfl) e
 |met f y=>
  have e:h.get? a=some (W.methodObj (.ref f) (.ref y)):=x;show h'.get? a=some (W.methodObj (.ref f) (.ref y));calc k a _ (.inl rfl) e
 |ext φ=>obtain⟨p,⟨o,e⟩,c⟩:=x;calc⟨c _ _ p λo q=>k _ _ (.inl rfl) q,⟨o,k _ _ (.inl rfl) e⟩,c⟩
theorem lN.lt(x:lN P w H h)(e:H a=some o):a<h.objs.size:=(x a o e).lt
theorem lN.fresh(x:lN P w H h)(e:h.objs.size<=a):H a=none:=by
 cases q:H a with
 |none=>rfl
 |some u=>calc absurd (S' (x.lt q) e) (aaG _)
theorem lN.kept(x:lN P w H h)(k:∀b u,h.get? b=some u->h'.get? b=some u):lN P w H h':=λa o e=>
 (x a o e).aK (λb u _ q=>k b u q) (λ_ q=>q) λ_ _ q=>q
theorem lN.laid(x:lN P w H h)(k:∀b u,h.get? b=some u->h'.get? b=some u)(g:h.objs.size<=a)(c:cC P w (upd H a o) h' a o):lN P w (upd H a o) h':=λb u e=>by
 have d:=x.fresh g;by_cases f:b=a
 ·subst f;rw[af]at e;cases e;exact c
 ·rw[ay f]at e;exact(x b u e).aK (λc v _ q=>k c v q) (λc q=>by rw[ay (au q d)];calc q) λc e q=>by rw[ay (au q d)];calc q
end
def Rd(H:Hp)(a:Addr)(u:HO):Prop:=H a=some u\/∃o,H a=some (.yy o u)
theorem Rd.ok{P:Program}{w:World}{h:Heap}(r:Rd H a u)(x:lN P w H h):cC P w H h a u:=by
 rcases r with r|⟨o,r⟩
 ·exact x a u r
 ·obtain⟨_,q⟩:=x a _ r;calc q
def So:Option HO->Prop
 |some (.lst _)=>True
 |some (.dK _)=>True
 |some (.dT _)=>True
 |some (.set _ _)=>True
 |some (.ins _ _ _)=>True
 |some (.ext _)=>True
 |_=>False
section
variable {P:Program}{w:World}{H:Hp}{h h':Heap}{x e:Addr}{o':HO}
theorem lN.write(o:lN P w H h)(a:So (H x))(l:e=x\/H e=some (.own x))(k:∀b u,b≠e->h.get? b=some u->h'.get? b=some u)(p:∃u,h'.get? e=some u)
  (j:cC P w (upd H x o') h' x o'):lN P w (upd H x o') h':=λb u q=>by
 have m:∀c y,H c=some (.own y)->c≠x:=λc y r z=>by subst z;rw[r]at a;exact a
 have s:∀c d,H c=some (.tup d)->c≠x:=λc d r z=>by subst z;rw[r]at a;exact a
 by_cases f:b=x
 ·subst f;rw[af]at q;cases q;exact j
 ·rw[ay f] at q;by_cases g:b=e
  ·have n:H b=some (.own x):=by
    rcases l with z|z
    ·exact absurd (g.trans z) f
    ·rw[g];exact z
   rw[q]at n;cases n;obtain⟨v,a⟩:=p;exact⟨v,by rw[g];calc a⟩
  ·refine(o b u q).aK (λc v i r=>k c v ?_ r) (λc r=>by rw[ay (m c b r)];calc r) λc d r=>by rw[ay (s c d r)];exact r
   rcases i with rfl|i
   ·exact g
   ·rintro rfl;rcases l with z | z
    ·exact m c b i z
    ·rw[i]at z;cases z;calc f rfl
end
structure Un(fs ex:List Addr)(H H':Hp)(h h':Heap):Prop where
 keep:∀b o,h.get? b=some o->H b=none->b∉fs->b∉ex->h'.get? b=some o
 slot:∀b o,h.get? b=some o->H b=none->b∈fs->b∉ex->∃sl,h'.get? b=some {o with slots:=sl}
 free:∀b o,h.get? b=some o->H b=none->b∉ex->H' b=none
 there:∀b o,h.get? b=some o->b∉ex->∃o',h'.get? b=some o'
 aS:∀b xs,H b=some (.tup xs)->H' b=some (.tup xs)
 oz:∀b o u,H b=some (.yy o u)->H' b=some (.yy o u)
 qa:∀b ps,H b=some (.NQ ps)->∃more,H' b=some (.NQ (ps++more))
section
variable {fs yz ex ex':List Addr}{H H1 H2:Hp}{h h1 h2 h':Heap}{a x e:Addr}{o:HO}
theorem Un.any(u:Un fs ex H H1 h h1){b:Addr}{a:Obj}(q:h.get? b=some a)(n:H b=none)(c:b∉ex):∃d,h1.get? b=some {a with slots:=d}:=by
 by_cases d:b∈fs
 ·exact u.slot b a q n d c
 ·calc⟨a.slots,u.keep b a q n d c⟩
theorem Un.trans(a:Un fs ex H H1 h h1)(b:Un fs ex H1 H2 h1 h2):Un fs ex H H2 h h2 where
 keep:=λc d q n g e=>b.keep c d (a.keep c d q n g e) (a.free c d q n e) g e
 slot:=λc d q n g e=>by
  obtain⟨i,f⟩:=a.slot c d q n g e;obtain⟨j,i⟩:=b.slot c _ f (a.free c d q n e) g e;exact⟨j,i⟩
 free:=λc d q n e=>by
  obtain⟨g,f⟩:=a.there c d q e;exact b.free c g f (a.free c d q n e) e
 there:=λc d q e=>by
  obtain⟨g,f⟩:=a.there c d q e;exact b.there c g f e
 aS:=λc e q=>b.aS c e (a.aS c e q)
 oz:=λc d e q=>b.oz c d e (a.oz c d e q)
 qa:=λc d q=>by
  obtain⟨e,f⟩:=a.qa c d q;obtain⟨g,i⟩:=b.qa c _ f;calc⟨e++g,by rw[i,Array.append_assoc]⟩
theorem Un.kept(k:∀b u,h.get? b=some u->h'.get? b=some u):Un fs ex H H h h':=
 ⟨λb a q _ _ _=>k b a q,λb a q _ _ _=>⟨a.slots,k b a q⟩,λ_ _ _ n _=>n,λb a q _=>⟨a,k b a q⟩,λ_ _ q=>q,λ_ _ _ q=>q,λ_ a q=>⟨#[],by rw[q];simp⟩⟩
theorem Un.refl:Un fs ex H H h h:=Un.kept λ_ _ q=>q
theorem Un.laid(k:∀b u,h.get? b=some u->h'.get? b=some u)(d:h.objs.size<=a)(c:H a=none):Un fs ex H (upd H a o) h h' where
 keep:=λb u q _ _ _=>k b u q
 slot:=λb u q _ _ _=>⟨u.slots,k b u q⟩
 free:=λb u q n _=>by rw[ay (Nat.ne_of_lt (Nat.lt_of_lt_of_le (Heap.lt_size q) d))];exact n
 there:=λb u q _=>⟨u,k b u q⟩
 aS:=λb d q=>by rw[ay (au q c)];exact q
 oz:=λb u d q=>by rw[ay (au q c)];exact q
 qa:=λb d q=>⟨#[],by rw[ay (au q c),q];simp⟩
theorem Un.write(a:So (H x))(i:e=x\/H e=some (.own x))(k:∀b u,b≠e->h.get? b=some u->h'.get? b=some u)(j:∃u,h'.get? e=some u):Un fs ex H (upd H x o) h h':=by
 have d:∀b,H b=none->b≠x:=λb n z=>by subst z;rw[n]at a;exact a
 have f:∀b,H b=none->b≠e:=λb n z=>by
  subst z;rcases i with r|r
  ·exact d b n r
  ·rw[n]at r;cases r
 have c:∀b u,H b=some u->¬So (some u)->b≠x:=λb u q l z=>by subst z;rw[q]at a;exact l a
 refine⟨λb u q n _ _=>k b u (f b n) q,λb u q n _ _=>⟨u.slots,k b u (f b n) q⟩,λb u q n _=>by rw[ay (d b n)];exact n,λb u q _=>?_,
  λb a q=>by rw[ay (c b _ q λz=>z)];calc q,λb u a q=>by rw[ay (c b _ q λz=>z)];calc q,λb a q=>⟨#[],by rw[ay (c b _ q λz=>z),q];simp⟩⟩
 by_cases g:b=e
 ·subst g;exact j
 ·calc⟨u,k b u g q⟩
end
def Xa(h:Heap)(H:Hp):List Addr:=(List.range h.objs.size).filter λa=>(H a).isSome
def uU(h:Heap)(H:Hp):Heap:=W.hideAll h (Xa h H)
theorem Cb(h:Heap)(H:Hp):(uU h H).objs.size=h.objs.size:=W.hideAll_size _ _
theorem Ep{h:Heap}{o:Obj}(e:h.get? b=some o)(n:H b=none):(uU h H).get? b=some o:=
 W.hideAll_get _ e λa=>by
  have q:(H b).isSome=true:=(List.mem_filter.mp a).2;rw[n]at q;simp at q
theorem JD{h:Heap}{H:Hp}{b:Addr}{o:Obj}(e:(uU h H).get? b=some o):h.get? b=some o/\H b=none:=by
 have a:h.get? b=some o:=W.of_hideAll (Xa h H) e;refine⟨a,?_⟩
 cases q:H b with
 |none=>rfl
 |some x=>
  have c:b∈Xa h H:=List.mem_filter.mpr ⟨List.mem_range.mpr (T' a),by simp[q]⟩;have z:(uU h H).get? b=none:=W.hideAll_none (Xa h H) c;rw[z]at e;cases e
def JE(g h:Heap)(L:Addr):List (Addr×Obj):=(List.range h.objs.size).filterMap λa=>if a=L\/(g.get? a).isSome=true then none else(h.get? a).map λo=>(a,o)
def rest(g h:Heap)(L d:Addr):List (Addr×Obj):=(JE g h L).filter λp=>decide (p.1≠d)
end
section
variable {A:Around}{ch:List Addr}{t':Nat}{E:Value->Shared->Prop}
structure Mod(K:W.Frag)(mg:Str->Option Value)(base:Heap):Prop where
 wx:K.In base
 glob:base.Ns mainGlobals mg
 blt:∃mb,base.Ns builtinsNs mb/\∀x:Str,x≠"__name__"->mb x=bootBuiltins x
 nolimit:base.NoLimit
structure Cx where
 prog:Program
 w:World
 K:W.Frag
 mg:Str->Option Value
 base:Heap
 A:Around
 N:List Str
 s₀:Shared
 H₀:Hp
 env:Env
 outer:List Env
 stack:List Env
 ex:List Addr
 fn:Str->Bool
 calm:Bool
 pn:List (Addr×Obj)
 xe:Value->Shared->Prop
def wg(l:List Env):List Addr:=l.filterMap (·.frame)
abbrev Cx.fs(X:Cx):List Addr:=wg X.outer
def Ss(a:Scope)(x:Str):Prop:=a.names.lookup x=some .local\/a.names.lookup x=some .cell\/a.names.lookup x=some .free
def Loc(a:Scope)(x:Str):Prop:=a.names.lookup x=some .local\/a.names.lookup x=some .cell
def Look(env:Env)(h:Heap)(m:Str->Option Value)(x:Str)(u:Value):Prop:=
 (env.kindOf x=some .local/\m x=some u)\/((env.kindOf x=some .cell\/env.kindOf x=some .free)/\∃c,env.cells.lookup x=some c/\h.IsCell c (some u))
structure Cx.Ok(X:Cx):Prop where
 mod:Mod X.K X.mg X.base
 kind:X.env.scope.kind=.function
 glob:X.env.globals=mainGlobals
 blt:X.env.builtins=builtinsNs
 above:X.s₀.heap.objs.size<=X.env.locals
 inj:∀x y c,X.env.cells.lookup x=some c->X.env.cells.lookup y=some c->x=y
 has:∀x,(X.env.kindOf x=some .cell\/X.env.kindOf x=some .free)->∃c,X.env.cells.lookup x=some c
 LQ:∀x c,X.fn x=true->X.env.cells.lookup x=some c->X.s₀.heap.objs.size<=c
 hd:X.calm=true->X.A.handled=none
 frames:X.A.frames=some X.stack
 NS:X.stack=X.outer\/(X.stack=X.env::X.outer/\X.env.frame=some X.env.locals)
 Q5:∀b∈X.ex,b≠X.env.locals/\∀x c,X.env.cells.lookup x=some c->c≠b
 bs:∀b o,X.base.get? b=some o->X.s₀.heap.get? b=some o/\X.H₀ b=none
 yL:X.base.objs.size<=X.s₀.heap.objs.size
 uV:∀b o,X.base.get? b=some o->b∉X.ex
 wz:∀b∈X.ex,b∉X.fs
 lH:X.s₀.heap.FunFrames X.base X.outer
 Er:∀b∈X.fs,X.H₀ b=none
structure Inv(X:Cx)(pins:List (Addr×Obj))(σ:List (Option V))(H:Hp)(s:Shared):Prop where
 ok:X.Ok
 os:s.os=X.s₀.os
 bare:AllBare s.gens
 base:Un X.fs X.ex X.H₀ H X.s₀.heap s.heap
 loc:∃m,s.heap.Ns X.env.locals m/\∀(i:Nat) (x:Str) (v:V),X.N[i]?=some x->σ[i]?=some (some v)->Ss X.env.scope x->∃u,RelV v u/\Look X.env s.heap m x u
 cell:∀x c,X.env.cells.lookup x=some c->∃v,s.heap.IsCell c v
 free:H X.env.locals=none
 ie:∀x c,X.env.cells.lookup x=some c->H c=none
 pin:∀p∈X.pn++pins,s.heap.get? p.1=some p.2/\H p.1=none/\p.1≠X.env.locals/\p.1∉X.fs/\∀v,p.2.data≠.cell v
 aW:lN X.prog X.w H s.heap
 len:σ.length=X.N.length
section
variable {X:Cx}{pins:List (Addr×Obj)}{σ:List (Option V)}{H H':Hp}{s:Shared}{h':Heap}
theorem Cx.Ok.NU(a:X.Ok){b:Addr}{o:Obj}(e:X.base.get? b=some o):b∉X.fs:=λc=>by
 have:=(a.lH.mem c).1;rw[e]at this;cases this
theorem Inv.bs(I:Inv X pins σ H s):∀b o,X.base.get? b=some o->s.heap.get? b=some o/\H b=none:=λb o e=>
 ⟨I.base.keep b o (I.ok.bs b o e).1 (I.ok.bs b o e).2 (I.ok.NU e) (I.ok.uV b o e),I.base.free b o (I.ok.bs b o e).1 (I.ok.bs b o e).2 (I.ok.uV b o e)⟩
theorem Inv.bk(I:Inv X pins σ H s):∀b o,X.base.get? b=some o->s.heap.get? b=some o:=λb o e=>(I.bs b o e).1
theorem Inv.mod(I:Inv X pins σ H s):Mod X.K X.mg X.base:=I.ok.mod
theorem Inv.gG(I:Inv X pins σ H s):X.K.In s.heap:=I.ok.mod.wx.keeps I.bk
theorem Inv.fr(I:Inv X pins σ H s):∃m,Fr X.base X.env.locals s.heap m:=
 let ⟨m,a,_⟩:=I.loc
 ⟨m,a,I.bk,aap I.ok.yL I.ok.above⟩
theorem Inv.lt(I:Inv X pins σ H s):X.env.locals<s.heap.objs.size:=let ⟨_,a,_⟩:=I.loc;a.lt
theorem Inv.sz(I:Inv X pins σ H s):X.s₀.heap.objs.size<=s.heap.objs.size:=aap I.ok.above (P' I.lt)
theorem Inv.NV(I:Inv X pins σ H s){a:Addr}(h:s.heap.objs.size<=a):a∉X.fs:=λa=>by
 obtain⟨_,o,b,_⟩:=I.ok.lH.mem a;calc absurd (S' (T' b) (aap I.sz h)) (aaG _)
theorem Inv.Es(I:Inv X pins σ H s):∀x c,X.env.cells.lookup x=some c->c≠X.env.locals:=λx c e z=>by
 obtain⟨v,o,a,b⟩:=I.cell x c e;obtain⟨m,⟨g,h,i,d,f,_⟩,_⟩:=I.loc;rw[z,d]at a;cases a;rw[f]at b;cases b
theorem Inv.lH(I:Inv X pins σ H s):s.heap.FunFrames X.base X.outer:=by
 have a:∀(l:List Env),(∀b∈wg l,b∈X.fs)->X.s₀.heap.FunFrames X.base l->s.heap.FunFrames X.base l:=by
  intro l;induction l with
  |nil=>intro _ _;trivial
  |cons c r h=>
   intro g e;obtain⟨i,⟨L,o,c,j,f,k⟩,l⟩:=e;have d:L∈X.fs:=g L (by unfold wg;rw[List.filterMap_cons,c];calc aaB);obtain⟨m,e⟩:=I.base.slot L o f (I.ok.Er L d) d λz=>I.ok.wz L z d;exact⟨i,⟨L,_,c,j,e,k⟩,h (λb f=>g b (by unfold wg;rw[List.filterMap_cons,c];calc aay _ f)) l⟩
 calc a X.outer (λ_ f=>f) I.ok.lH
theorem Inv.stack(I:Inv X pins σ H s):s.heap.FunFrames X.base X.stack:=by
 rcases I.ok.NS with e|⟨e,a⟩
 ·rw[e];exact I.lH
 ·rw[e];obtain⟨m,b,_⟩:=I.loc;calc .cons (by rw[I.ok.kind];decide) a b ?_ I.lH;calc Heap.get?_none_of_le (aap I.ok.yL I.ok.above)
theorem Inv.uW(I:Inv X pins σ H s):∀b∈wg X.stack,b∈X.env.locals::X.fs:=λb a=>by
 rcases I.ok.NS with e|⟨e,b⟩
 ·rw[e]at a;exact aay _ a
 ·rw[e]at a;unfold wg at a;rw[List.filterMap_cons,b]at a;calc a
theorem Inv.qD(I:Inv X pins σ H s):∀b∈wg X.stack,H b=none:=λb a=>by
 rcases List.mem_cons.mp (I.uW b a) with e|a
 ·rw[e];exact I.free
 ·obtain⟨_,o,c,_⟩:=I.ok.lH.mem a;calc I.base.free b o c (I.ok.Er b a) λz=>I.ok.wz b z a
theorem Inv.step{g':Array GenState}{t':Nat}{d':Drawn}(I:Inv X pins σ H s)
  (j:∀b∈ch,(b∈X.ex\/X.s₀.heap.objs.size<=b)/\b≠X.env.locals/\(∀x c,X.env.cells.lookup x=some c->c≠b)/\∀p∈X.pn++pins,p.1≠b)
  (keep:∀b o,b≠X.env.locals->b∉X.fs->b∉ch->s.heap.get? b=some o->H b=none->h'.get? b=some o)
  (slot:∀b o,b≠X.env.locals->b∈X.fs->b∉ch->s.heap.get? b=some o->H b=none->∃D,h'.get? b=some {o with slots:=D}) (free:∀b o,b∉ch->s.heap.get? b=some o->H b=none->H' b=none)
  (there:∀b o,b∉ch->s.heap.get? b=some o->∃k,h'.get? b=some k)
  (J:∀b xs,H b=some (.tup xs)->H' b=some (.tup xs)) (K:∀b o u,H b=some (.yy o u)->H' b=some (.yy o u)) (L:∀b B,H b=some (.NQ B)->∃q,H' b=some (.NQ (B++q)))
  (M:∀m,s.heap.Ns X.env.locals m->h'.Ns X.env.locals m) (N:lN X.prog X.w H' h') (O:AllBare g'):
  Inv X pins σ H' {s with heap:=h',gens:=g',drawn:=d',toks:=t'}:=by
 have t:∀b o,X.s₀.heap.get? b=some o->b≠X.env.locals:=λb o e=>X' (S' (T' e) I.ok.above);have C:∀b o,X.s₀.heap.get? b=some o->b∉X.ex->b∉ch:=λb o e a g=>by
  rcases(j b g).1 with z|z
  ·exact a z
  ·exact absurd (S' (T' e) z) (aaG _)
 have d:∀x c,X.env.cells.lookup x=some c->∀v,s.heap.IsCell c v->h'.IsCell c v:=λx c e v ⟨o,h,E⟩=>by
  have y:c∉ch:=λz=>(j c z).2.2.1 x c e rfl;by_cases F:c∈X.fs
  ·obtain⟨D,q⟩:=slot c o (I.Es x c e) F y h (I.ie x c e);exact⟨_,q,E⟩
  ·exact⟨o,keep c o (I.Es x c e) F y h (I.ie x c e),E⟩
 refine⟨I.ok,I.os,O,⟨λb o e n g a=>?_,λb o e n g a=>?_,λb o e n a=>?_,λb o e a=>?_,λb xs e=>J b xs (I.base.aS b xs e),λb o xs e=>K b o xs (I.base.oz b o xs e),λb B e=>?_⟩,?_,λx c e=>?_,?_,λx c e=>?_,λp G=>?_,N,I.len⟩
 ·exact keep b o (t b o e) g (C b o e a) (I.base.keep b o e n g a) (I.base.free b o e n a)
 ·obtain⟨D,f⟩:=I.base.slot b o e n g a;obtain⟨q,A⟩:=slot b _ (t b o e) g (C b o e a) f (I.base.free b o e n a);exact⟨q,A⟩
 ·obtain⟨k,f⟩:=I.base.there b o e a;exact free b k (C b o e a) f (I.base.free b o e n a)
 ·obtain⟨k,f⟩:=I.base.there b o e a;exact there b k (C b o e a) f
 ·obtain⟨a,f⟩:=I.base.qa b B e;obtain⟨g,A⟩:=L b _ f;exact⟨a++g,by rw[A,Array.append_assoc]⟩
 ·obtain⟨m,a,P⟩:=I.loc;calc⟨m,M m a,λi x v f A Q=>?_⟩;obtain⟨u,r,l⟩:=P i x v f A Q;calc⟨u,r,?_⟩;rcases l with l | ⟨k,c,e,z⟩
  ·exact .inl l
  ·exact .inr ⟨k,c,e,d x c e _ z⟩
 ·obtain⟨v,z⟩:=I.cell x c e;exact⟨v,d x c e v z⟩
 ·obtain⟨m,⟨o,_,_,h,_⟩,_⟩:=I.loc;exact free _ o (λz=>(j _ z).2.1 rfl) h I.free
 ·obtain⟨v,o,h,E⟩:=I.cell x c e;exact free c o (λz=>(j c z).2.2.1 x c e rfl) h (I.ie x c e)
 ·obtain⟨e,n,a,b,d⟩:=I.pin p G;have y:p.1∉ch:=λz=>(j p.1 z).2.2.2 p G rfl;calc⟨keep p.1 p.2 a b y e n,free p.1 p.2 y e n,a,b,d⟩
theorem Inv.un(I:Inv X pins σ H s)(u:Un X.fs [] H H' s.heap h')(f:lN X.prog X.w H' h'):Inv X pins σ H' {s with heap:=h',toks:=t'}:=by
 obtain⟨m,⟨o,a,b,c,r⟩,_⟩:=id I.loc;obtain⟨a,g⟩:=u.any c I.free (by simp);exact I.step (g':=s.gens) (d':=s.drawn) (ch:=[]) (λ_ z=>nomatch z) (λb o _ a _ e n=>u.keep b o e n a (by simp)) (λb o _ a _ e n=>u.slot b o e n a (by simp)) (λb o _ e n=>u.free b o e n (by simp)) (λb o _ e=>u.there b o e (by simp)) u.aS u.oz u.qa (λa h=>by
  obtain⟨a,i,j,d,k⟩:=h;rw[c] at d;cases d;calc⟨_,i,j,g,k⟩) f I.bare
theorem Inv.call{g':Array GenState}{d':Drawn}(I:Inv X pins σ H s)(u:Un (wg X.stack) ch H H' s.heap h')(i:lN X.prog X.w H' h')(j:AllBare g')
  (f:∀b∈ch,(b∈X.ex\/X.s₀.heap.objs.size<=b)/\b≠X.env.locals/\(∀x c,X.env.cells.lookup x=some c->c≠b)/\∀p∈X.pn++pins,p.1≠b):
  Inv X pins σ H' {s with heap:=h',gens:=g',drawn:=d',toks:=t'}:=by
 obtain⟨m,⟨o,a,c,g,r⟩,_⟩:=id I.loc;obtain⟨a,d⟩:=u.any g I.free λz=>(f _ z).2.1 rfl;exact I.step (ch:=ch) f (λb o d c a e n=>u.keep b o e n (λz=>(List.mem_cons.mp (I.uW b z)).elim d c) a) (λb o _ _ a e n=>u.any e n a) (λb o a e n=>u.free b o e n a) (λb o a e=>u.there b o e a) u.aS u.oz u.qa (λc k=>by
  obtain⟨a,l,q,h,t⟩:=k;rw[g] at h;cases h;calc⟨_,l,q,d,t⟩) i j
theorem Inv.turned{a:Addr}(I:Inv X pins σ H s)(k:∀b o,b≠a->s.heap.get? b=some o->h'.get? b=some o)(j:H a=none)(g:a≠X.env.locals)
  (l:a∈X.ex\/X.s₀.heap.objs.size<=a) (r:∀x c,X.env.cells.lookup x=some c->c≠a) (t:∀p∈X.pn++pins,p.1≠a):Inv X pins σ H {s with heap:=h',toks:=t'}:=by
 have i:∀b u,H b=some u->b≠a:=λb u e z=>by rw[z,j]at e;cases e
 refine I.step (g':=s.gens) (d':=s.drawn) (ch:=[a]) (λb j=>?_) (λb o _ _ d e _=>k b o (λz=>d (by simp[z])) e) (λb o _ _ d e _=>⟨o.slots,k b o (λz=>d (by simp[z])) e⟩) (λ_ _ _ _ n=>n)
  (λb o d e=>⟨o,k b o (λz=>d (by simp[z])) e⟩) (λ_ _ e=>e) (λ_ _ _ e=>e) (λb m e=>⟨#[],by rw[e];simp⟩) (λm v=>?_) (λb u e=>?_) I.bare
 ·have e:b=a:=by simpa using j
  subst e;exact⟨l,g,r,t⟩
 ·obtain⟨o,a,j,l,r⟩:=v;exact⟨o,a,j,k _ o (Ne.symm g) l,r⟩
 ·calc(I.aW b u e).aK (λc v d q=>k c v ?_ q) (λ_ q=>q) λ_ _ q=>q;rcases d with z | z
  ·rw[z];exact i b u e
  ·calc i c _ z
theorem Inv.tok(I:Inv X pins σ H s)(t:Nat):Inv X pins σ H {s with toks:=t}:=I.un (h':=s.heap) (t':=t) Un.refl I.aW
theorem Inv.kept(I:Inv X pins σ H s)(k:∀b u,s.heap.get? b=some u->h'.get? b=some u):Inv X pins σ H {s with heap:=h',toks:=t'}:=I.un (Un.kept k) (I.aW.kept k)
theorem Inv.laid{a:Addr}{o:HO}(I:Inv X pins σ H s)(k:∀b u,s.heap.get? b=some u->h'.get? b=some u)(c:s.heap.objs.size<=a)(d:cC X.prog X.w (upd H a o) h' a o):
  Inv X pins σ (upd H a o) {s with heap:=h',toks:=t'}:=I.un (Un.laid k c (I.aW.fresh c)) (I.aW.laid k c d)
theorem Inv.write{x e:Addr}{o:HO}(I:Inv X pins σ H s)(c:So (H x))(d:e=x\/H e=some (.own x))(k:∀b u,b≠e->s.heap.get? b=some u->h'.get? b=some u)(f:∃u,h'.get? e=some u)
  (a:cC X.prog X.w (upd H x o) h' x o):Inv X pins σ (upd H x o) {s with heap:=h',toks:=t'}:=I.un (Un.write c d k f) (I.aW.write c d k f a)
theorem Inv.uX{a:List (Addr×Obj)}(I:Inv X pins σ H s)(h:∀p∈a,s.heap.get? p.1=some p.2/\H p.1=none/\p.1≠X.env.locals/\p.1∉X.fs/\∀v,p.2.data≠.cell v):Inv X a σ H s:=
 ⟨I.ok,I.os,I.bare,I.base,I.loc,I.cell,I.free,I.ie,λp a=>(List.mem_append.mp a).elim (λz=>I.pin p (List.mem_append_left _ z)) (h p),I.aW,I.len⟩
theorem qX{N:List Str}(c:N.Nodup){i j:Nat}{x:Str}(a:N[i]?=some x)(b:N[j]?=some x):i=j:=by
 obtain⟨e,d⟩:=List.getElem?_eq_some_iff.mp a;obtain⟨g,e⟩:=List.getElem?_eq_some_iff.mp b;calc(List.getElem_inj c).mp (d.trans e.symm)
theorem Cc{M:Model}{i:Nat}{x:Str}{v:V}{u:Value}{Q:Unit->Shared->Prop}(I:Inv X pins σ H s)(hN:X.N.Nodup)(L:X.N[i]?=some x)(C:Loc X.env.scope x)(r:RelV v u)
  (h:∀s',Inv X pins (σ.set i (some v)) H s'->(∃a,Heap.SameBut a s.heap s'.heap/\(a=X.env.locals\/X.env.cells.lookup x=some a))->Q () s') (hf:X.fn x=true\/X.env.scope.names.lookup x=some .local:=by grind):wpAny M A (storeName X.env x u) Q E s:=by
 obtain⟨m,T,hl⟩:=id I.loc;have YR:(X.env.scope.kind == .class||(X.env.scope.kind == .module&&X.env.locals !=X.env.globals))=false:=by rw[I.ok.kind];rfl
 have Sv:i<σ.length:=by rw[I.len];exact(List.getElem?_eq_some_iff.mp L).1
 have U:=I.Es;have l:∀{a:Addr} {h':Heap},(∃o,s.heap.get? a=some o/\H a=none)->Heap.SameBut a s.heap h'->lN X.prog X.w H h':=λ{a h'} v g b M e=>by
  obtain⟨_,_,LU⟩:=v;calc(I.aW b M e).aK (λc P B q=>(g.2 c ?_).trans q) (λ_ q=>q) λ_ _ q=>q;rintro rfl;rcases B with rfl|B
  ·rw[LU]at e;cases e
  ·rw[LU]at B;cases B
 rcases C with G|G
 ·calc wpAny_storeName_local G T (λh' v g=>?_) YR;obtain⟨M,_,_,a,_⟩:=id T;refine h _ ⟨I.ok,I.os,I.bare,⟨λb o e n J C=>?_,λb o e n J C=>?_,I.base.free,λb o e C=>?_,I.base.aS,I.base.oz,I.base.qa⟩,⟨_,v,λj y W t F Y=>?_⟩,λy c e=>?_,I.free,I.ie,λp Z=>?_,l ⟨M,a,I.free⟩ g,by simpa using I.len⟩ ⟨_,g,.inl rfl⟩
  ·exact(g.2 b (X' (S' (T' e) I.ok.above))).trans (I.base.keep b o e n J C)
  ·obtain⟨sl,t⟩:=I.base.slot b o e n J C;exact⟨sl,(g.2 b (X' (S' (T' e) I.ok.above))).trans t⟩
  ·obtain⟨o',t⟩:=I.base.there b o e C;exact⟨o',(g.2 b (X' (S' (T' e) I.ok.above))).trans t⟩
  ·by_cases K:j=i
   ·subst K;rw[L] at t;cases t;rw[List.getElem?_set_self Sv] at F
    cases F;exact⟨u,r,.inl ⟨G,by simp⟩⟩
   ·rw[List.getElem?_set_ne (Ne.symm K)] at F;obtain⟨u',r',q⟩:=hl j y W t F Y;calc⟨u',r',?_⟩;rcases q with⟨k,e⟩ | ⟨k,c,e,z⟩
    ·calc .inl ⟨k,?_⟩;have:y≠x:=λe=>K (qX hN t (e▸L));simp[this,e]
    ·exact .inr ⟨k,c,e,z.sameBut g (U y c e)⟩
  ·obtain⟨P,z⟩:=I.cell y c e;exact⟨P,z.sameBut g (U y c e)⟩
  ·obtain⟨e,n,R,nf,d⟩:=I.pin p Z;exact⟨(g.2 p.1 R).trans e,n,R,nf,d⟩
 ·have NW:X.fn x=true:=by
   rcases hf with z|z
   ·exact z
   ·rw[z]at G;cases G
  obtain⟨c,B⟩:=I.ok.has x (.inl G);obtain⟨P,z⟩:=I.cell x c B;calc wpAny_storeName_cell I.ok.kind G B z (λh' LV g=>?_);obtain⟨oc,Xc,YS⟩:=id z;refine h {s with heap:=h'} ⟨I.ok,I.os,I.bare,⟨λb o e n J C=>?_,λb o e n J C=>?_,I.base.free,λb o e C=>?_,I.base.aS,I.base.oz,I.base.qa⟩,⟨m,T.sameBut g (Ne.symm (U x c B)),λj y W t F Y=>?_⟩,λy S e=>?_,I.free,I.ie,λp Z=>?_,l ⟨oc,Xc,I.ie x c B⟩ g,by simpa using I.len⟩ ⟨c,g,.inr B⟩
  ·exact(g.2 b (X' (S' (T' e) (I.ok.LQ x c NW B)))).trans (I.base.keep b o e n J C)
  ·obtain⟨sl,t⟩:=I.base.slot b o e n J C;exact⟨sl,(g.2 b (X' (S' (T' e) (I.ok.LQ x c NW B)))).trans t⟩
  ·obtain⟨o',t⟩:=I.base.there b o e C;exact⟨o',(g.2 b (X' (S' (T' e) (I.ok.LQ x c NW B)))).trans t⟩
  ·by_cases K:j=i
   ·subst K;rw[L] at t;cases t;rw[List.getElem?_set_self Sv] at F
    cases F;exact⟨u,r,.inr ⟨.inl G,c,B,LV⟩⟩
   ·rw[List.getElem?_set_ne (Ne.symm K)] at F;obtain⟨u',r',q⟩:=hl j y W t F Y;calc⟨u',r',?_⟩;rcases q with q | ⟨k,S,e,z'⟩
    ·exact .inl q
    ·calc .inr ⟨k,S,e,z'.sameBut g ?_⟩;rintro rfl;exact K (qX hN t (I.ok.inj _ _ _ e B▸L))
  ·by_cases O:S=c
   ·subst O;exact⟨_,LV⟩
   ·obtain⟨a,b⟩:=I.cell y S e;exact⟨a,b.sameBut g O⟩
  ·obtain⟨e,n,R,nf,d⟩:=I.pin p Z;calc⟨(g.2 p.1 ?_).trans e,n,R,nf,d⟩;intro q;rw[q,Xc]at e;have a:oc=p.2:=Option.some.inj e;calc d P (by rw[<-a];calc YS)
theorem ju{M:Model}{i:Nat}{x:Str}{v:V}{u:Value}{Q:Unit->Shared->Prop}(I:Inv X pins σ H s)(a:X.N.Nodup)(b:X.N[i]?=some x)(c:Loc X.env.scope x)(r:RelV v u)
  (h:∀s',Inv X pins (σ.set i (some v)) H s'->Q () s') (d:X.fn x=true\/X.env.scope.names.lookup x=some .local:=by grind):wpAny M A (storeName X.env x u) Q E s:=
 Cc I a b c r (λs' e _=>h s' e) d
theorem Inv.LW{s':Shared}(I:Inv X pins σ H s)(f:s'.os=s.os)(u:Un (wg X.stack) ch H H' s.heap s'.heap)(g:lN X.prog X.w H' s'.heap)(h:AllBare s'.gens)
  (i:∀b∈ch,(b∈X.ex\/X.s₀.heap.objs.size<=b)/\b≠X.env.locals/\(∀x c,X.env.cells.lookup x=some c->c≠b)/\∀p∈X.pn++pins,p.1≠b):Inv X pins σ H' s':=by
 obtain⟨h',a,d,t',b⟩:=s';have e:b=s.os:=f;subst e;calc I.call (g':=a) (t':=t') (d':=d) u g h i
end
abbrev XK:=Value->Option Addr->Hp->Prop
abbrev St:=List (Option V)
abbrev VK:=V->Hp->Prop
abbrev TE:=St->Hp->VK->Prop
abbrev TT:=St->Hp->(Bool->Hp->Prop)->Prop
abbrev TA:=St->Hp->(List V->Hp->Prop)->Prop
structure Ends where
 nx:St->Hp->Prop
 rt:VK
 bk:St->Hp->Prop:=λ_ _=>False
 ct:St->Hp->Prop:=λ_ _=>False
abbrev TS:=Ends->St->Hp->Prop
def EP(X:Cx)(pins:List (Addr×Obj))(σ:St)(Q:VK)(u:Value)(s':Shared):Prop:=∃v a,Inv X pins σ a s'/\RelV v u/\Q v a
def TP(X:Cx)(pins:List (Addr×Obj))(σ:St)(Q:Bool->Hp->Prop)(b:Bool)(s':Shared):Prop:=∃a,Inv X pins σ a s'/\Q b a
def AP(X:Cx)(pins:List (Addr×Obj))(σ:St)(Q:List V->Hp->Prop)(us:List Value)(s':Shared):Prop:=∃vs a,Inv X pins σ a s'/\Vals vs us/\Q vs a
def SP(X:Cx)(pins:List (Addr×Obj))(D:Ends)(f:Flow)(s':Shared):Prop:=
 match f with
 | .next=>∃a b,Inv X pins a b s'/\D.nx a b
 | .brk=>∃a b,Inv X pins a b s'/\D.bk a b
 | .cont=>∃a b,Inv X pins a b s'/\D.ct a b
 | .ret u=>∃v a b,Inv X pins a b s'/\RelV v u/\D.rt v b
structure PE(X:Cx)(e:Expr)(t:TE):Prop where
 out:
  ∀(pins:List (Addr×Obj)) (s:Shared) (σ:St) (H:Hp) (Q:VK),Inv X pins σ H s->t σ H Q->wpAny (model X.prog X.w) X.A (eval e X.env) (EP X pins σ Q) X.xe s
instance {X:Cx}{e:Expr}{t:TE}:CoeFun (PE X e t) λ_=>
 ∀(pins:List (Addr×Obj)) (s:Shared) (σ:St) (H:Hp) (Q:VK),Inv X pins σ H s->t σ H Q->wpAny (model X.prog X.w) X.A (eval e X.env) (EP X pins σ Q) X.xe s:=⟨PE.out⟩
structure PT(X:Cx)(e:Expr)(t:TT):Prop where
 out:
  ∀(pins:List (Addr×Obj)) (s:Shared) (σ:St) (H:Hp) (Q:Bool->Hp->Prop),Inv X pins σ H s->t σ H Q->wpAny (model X.prog X.w) X.A (isTrue e X.env (eval e X.env)) (TP X pins σ Q) X.xe s
instance {X:Cx}{e:Expr}{t:TT}:CoeFun (PT X e t) λ_=>
 ∀(pins:List (Addr×Obj)) (s:Shared) (σ:St) (H:Hp) (Q:Bool->Hp->Prop),Inv X pins σ H s->t σ H Q->wpAny (model X.prog X.w) X.A (isTrue e X.env (eval e X.env)) (TP X pins σ Q) X.xe s:=⟨PT.out⟩
structure PW(X:Cx)(e:Expr)(t:TT):Prop where
 out:
  ∀(whole:Sem Value) (pins:List (Addr×Obj)) (s:Shared) (σ:St) (H:Hp) (Q:Bool->Hp->Prop),Inv X pins σ H s->t σ H Q->wpAny (model X.prog X.w) X.A (isTrue e X.env whole) (TP X pins σ Q) X.xe s
instance {X:Cx}{e:Expr}{t:TT}:CoeFun (PW X e t) λ_=>
 ∀(a:Sem Value) (pins:List (Addr×Obj)) (s:Shared) (σ:St) (H:Hp) (Q:Bool->Hp->Prop),Inv X pins σ H s->t σ H Q->wpAny (model X.prog X.w) X.A (isTrue e X.env a) (TP X pins σ Q) X.xe s:=⟨PW.out⟩
theorem PW.pt{X:Cx}{e:Expr}{t:TT}(h:PW X e t):PT X e t:=⟨h.out _⟩
structure PA(X:Cx)(es:List Expr)(t:TA):Prop where
 out:
  ∀(pos:Pos) (pins:List (Addr×Obj)) (s:Shared) (σ:St) (H:Hp) (Q:List V->Hp->Prop),Inv X pins σ H s->t σ H Q->wpAny (model X.prog X.w) X.A (spliced (backTo pos (starEach es X.env))) (AP X pins σ Q) X.xe s
instance {X:Cx}{b:List Expr}{t:TA}:CoeFun (PA X b t) λ_=>
 ∀(a:Pos) (pins:List (Addr×Obj)) (s:Shared) (σ:St) (H:Hp) (Q:List V->Hp->Prop),Inv X pins σ H s->t σ H Q->wpAny (model X.prog X.w) X.A (spliced (backTo a (starEach b X.env))) (AP X pins σ Q) X.xe s:=⟨PA.out⟩
structure PS(X:Cx)(st:Stmt)(t:TS):Prop where
 out:
  ∀(pins:List (Addr×Obj)) (s:Shared) (σ:St) (H:Hp) (D:Ends),Inv X pins σ H s->t D σ H->wpAny (model X.prog X.w) X.A (exec st X.env) (SP X pins D) X.xe s
instance {X:Cx}{a:Stmt}{t:TS}:CoeFun (PS X a t) λ_=>
 ∀(pins:List (Addr×Obj)) (s:Shared) (σ:St) (H:Hp) (D:Ends),Inv X pins σ H s->t D σ H->wpAny (model X.prog X.w) X.A (exec a X.env) (SP X pins D) X.xe s:=⟨PS.out⟩
structure qE(X:Cx)(st:List Stmt)(t:TS):Prop where
 out:
  ∀(pins:List (Addr×Obj)) (s:Shared) (σ:St) (H:Hp) (D:Ends),Inv X pins σ H s->t D σ H->wpAny (model X.prog X.w) X.A (execs st X.env) (SP X pins D) X.xe s
instance {X:Cx}{a:List Stmt}{t:TS}:CoeFun (qE X a t) λ_=>
 ∀(pins:List (Addr×Obj)) (s:Shared) (σ:St) (H:Hp) (D:Ends),Inv X pins σ H s->t D σ H->wpAny (model X.prog X.w) X.A (execs a X.env) (SP X pins D) X.xe s:=⟨qE.out⟩
theorem cJ{α:Type}{t:Sem α}{Q b:α->Shared->Prop}{M:Model}{s:Shared}(h:wpAny M A t Q E s)(c:∀a s,Q a s->b a s):wpAny M A t b E s:=aat h c λ_ _ x=>x
end
section
variable {pins:List (Addr×Obj)}{pos:Pos}{σ:St}{x:Str}{u:Value}{E Q:Value->Shared->Prop}
section
variable {X:Cx}
theorem bin{a b:Expr}{c d:TE}(i:PE X a c)(j:PE X b d){pins:List (Addr×Obj)}{s:Shared}{σ:St}{H:Hp}{R:V->V->Hp->Prop}(I:Inv X pins σ H s)(h:c σ H λx g=>d σ g λy c=>R x y c)
  {α:Type} {Q:α->Shared->Prop} {f:Value->Value->Sem α}
  (k:∀v u e x y c,Inv X pins σ c e->RelV x v->RelV y u->R x y c->wpAny (model X.prog X.w) X.A (f v u) Q X.xe e):
  wpAny (model X.prog X.w) X.A (eval a X.env) (λv d=>wpAny (model X.prog X.w) X.A (eval b X.env) (λu a=>wpAny (model X.prog X.w) X.A (f v u) Q X.xe a) X.xe d) X.xe s:=by
 calc cJ (i pins s σ H _ I h) λv b a=>?_;nofun;obtain⟨x,g,d,f,h⟩:=a;ac_rfl;calc cJ (j pins b σ g _ d h) λu e a=>?_;nofun;obtain⟨y,c,b,d,g⟩:=a;ac_rfl;calc k v u e x y c b f d g
def Et(i:Nat):TE:=λσ H Q=>∃v,σ[i]?=some (some v)/\Q v H
def tC(v:V):TE:=λ_ H Q=>Q v H
theorem Eu{i:Nat}(c:X.N[i]?=some x)(j:Ss X.env.scope x)(d:(x==("__debug__":Str))=false:=by decide)(k:(x==("__classdict__":Str))=false:=by decide):PE X (.Name x pos) (Et i):=by
 walk_at "xc";obtain⟨v,e,h⟩:=h;obtain⟨m,n,o⟩:=I.loc;obtain⟨u,r,l⟩:=o i x v c e j;have a:EP X pins σ Q u s:=⟨v,H,I,r,h⟩
 rcases l with⟨b,e⟩|⟨b,c,f,g⟩
 ·exact wpAny_Name (wpAny_loadName_local I.ok.kind b n e a) d
 ·rcases b with b | b
  ·exact wpAny_Name (wpAny_loadName_cell I.ok.kind b f g a) d
  ·calc wpAny_Name (wpAny_loadName_free I.ok.kind b f g a k) d
theorem ai{i j pos}:PE X (.Constant (.int i) j pos) (tC (.int i)):=.mk λ_ _ _ H _ I h=>wpAny_Constant_int ⟨.int i,H,I.tok _,⟨_,rfl⟩,h⟩
theorem gH{b j pos}:PE X (.Constant (.bool b) j pos) (tC (.bl b)):=.mk λ_ _ _ H _ I h=>Constant_bool ⟨.bl b,H,I,rfl,h⟩
theorem iS{j pos}:PE X (.Constant .none j pos) (tC .bD):=.mk λ_ _ _ H _ I h=>Constant_none ⟨.bD,H,I,rfl,h⟩
theorem aD{x j pos}:PE X (.Constant (.str x) j pos) (tC (.str x)):=.mk λ_ _ _ H _ I h=>Calls.Constant_str ⟨.str x,H,I.tok _,⟨_,rfl⟩,h⟩
def Gl(X:Cx)(x:Str):Prop:=X.env.kindOf x=some .globalImplicit
theorem jL{s:Shared}{H:Hp}(I:Inv X pins σ H s)(a:Gl X x)(b:X.mg x=some u)(h:Q u s)
  (c:(x==("__debug__":Str))=false:=by decide):wpAny (model X.prog X.w) X.A (eval (.Name x pos) X.env) Q E s:=
 Calls.Name_function_global I.ok.kind a (Calls.loadGlobal_global (by rw[I.ok.glob];calc I.mod.glob.keeps I.bk) b h) c
theorem oA{s:Shared}{H:Hp}(I:Inv X pins σ H s)(a:Gl X x)(b:X.mg x=none)(c:bootBuiltins x=some u)(h:Q u s)
  (d:x≠"__name__":=by decide) (e:(x==("__debug__":Str))=false:=by decide):wpAny (model X.prog X.w) X.A (eval (.Name x pos) X.env) Q E s:=by
 obtain⟨i,f,g⟩:=I.mod.blt;calc Calls.Name_function_global I.ok.kind a (Calls.loadGlobal_builtin (by rw[I.ok.glob];calc I.mod.glob.keeps I.bk) b (by rw[I.ok.blt];calc f.keeps I.bk) ((g x d).trans c) h) e
theorem qF{v:V}(a:Gl X x)(b:X.mg x=some u)(r:RelV v u)(c:(x==("__debug__":Str))=false:=by decide):PE X (.Name x pos) (tC v):=
 .mk λ_ _ _ H _ I h=>jL I a b ⟨v,H,I,r,h⟩ c
theorem dB{v:V}(a:Gl X x)(b:X.mg x=none)(c:bootBuiltins x=some u)(r:RelV v u)(d:x≠"__name__":=by decide)(e:(x==("__debug__":Str))=false:=by decide):PE X (.Name x pos) (tC v):=
 .mk λ_ _ _ H _ I h=>oA I a b c ⟨v,H,I,r,h⟩ d e
variable {a b:Expr}{ta tb:TE}{pos:Pos}
structure PC(X:Cx)(op:CmpOp)(a b:Expr)(t:TE):Prop where
 out:
  ∀(pins:List (Addr×Obj)) (s:Shared) (σ:St) (H:Hp) (Q:VK),Inv X pins σ H s->t σ H Q->
   wpAny (model X.prog X.w) X.A (eval a X.env) (λv s₁=>wpAny (model X.prog X.w) X.A (eval b X.env) (λu s₂=>wpAny (model X.prog X.w) X.A (compareOp op v u) (EP X pins σ Q) X.xe s₂) X.xe s₁) X.xe s
instance {X:Cx}{e:CmpOp}{a b:Expr}{t:TE}:CoeFun (PC X e a b t) λ_=>
 ∀(pins:List (Addr×Obj)) (s:Shared) (σ:St) (H:Hp) (Q:VK),Inv X pins σ H s->t σ H Q->
  wpAny (model X.prog X.w) X.A (eval a X.env) (λv c=>wpAny (model X.prog X.w) X.A (eval b X.env) (λu d=>wpAny (model X.prog X.w) X.A (compareOp e v u) (EP X pins σ Q) X.xe d) X.xe c) X.xe s:=⟨PC.out⟩
theorem Ew(b:Expr){a:CmpOp}(h:a≠.In)(c:a≠.NotIn):behindInMarks a b=false:=by
 have d:(a==CmpOp.In)=false:=by cases a<;>first|rfl|exact absurd rfl h
 have e:(a==CmpOp.NotIn)=false:=by cases a<;>first|rfl|exact absurd rfl c
 cases b<;>simp[behindInMarks,d,e]
def tB(t:TE):TT:=λσ H Q=>t σ H λx a=>∃c,x=.bl c/\Q c a
theorem NX{c:CmpOp}{t:TE}(h:PC X c a b t)(e:behindInMarks c b=false:=by first|calc Ew _ (by decide) (by decide)|rfl):PT X (.Compare a [c] [b] pos) (tB t):=by
 calc⟨?_⟩;intro pins s σ H Q I c;calc wpAny_isTrue_Compare1 (cJ (h pins s σ H _ I c) λv f e=>cJ e λu c f=>cJ f λc h g=>?_) e;nofun;obtain⟨x,i,j,k,l⟩:=g;ac_rfl;obtain⟨d,rfl,q⟩:=l
 cases k;calc aaI ⟨i,j,q⟩
theorem NY{e:Expr}{t:TE}(h:PE X e t)(b:∀a,isTrue e X.env a=(do let v <-a;standAt e.pos;holding [v] (truthy v)):=by intro _;rfl):PT X e (tB t):=by
 calc⟨?_⟩;intro pins s σ H Q I a;calc isTrue_plain (cJ (h pins s σ H _ I a) λv e c=>?_) (b _);nofun;obtain⟨x,f,g,i,j⟩:=c;ac_rfl;obtain⟨d,rfl,q⟩:=j
 cases i;calc aaI ⟨f,g,q⟩
variable {tA Xd:TT}{rest:List Expr}
def NZ(t u:TT):TT:=λσ H Q=>t σ H λc a=>if c=true then u σ a Q else Q false a
def YT(t u:TT):TT:=λσ H Q=>t σ H λc a=>if c=true then Q true a else u σ a Q
def N0(t:TT):TT:=λσ H Q=>t σ H λc a=>Q (!c) a
theorem pw_and1(b:PT X a tA):PW X (.BoolOp .And [a] pos) tA:=by
 calc⟨?_⟩;intro d pins s σ H Q I h;refine isTrue_and (cJ (b pins s σ H Q I h) λc f e=>?_)
 cases c with
 |true=>calc isTrue_and_nil e
 |false=>calc e
theorem pw_or1(b:PT X a tA):PW X (.BoolOp .Or [a] pos) tA:=by
 calc⟨?_⟩;intro d pins s σ H Q I h;refine isTrue_or (cJ (b pins s σ H Q I h) λc f e=>?_)
 cases c with
 |false=>calc isTrue_or_nil e
 |true=>calc e
theorem pw_and(g:PT X a tA)(i:PW X (.BoolOp .And (b::rest) pos) Xd):PW X (.BoolOp .And (a::b::rest) pos) (NZ tA Xd):=by
 calc⟨?_⟩;intro j pins s σ H Q I h;calc isTrue_and (cJ (g pins s σ H _ I h) λc k l=>?_);nofun;obtain⟨d,e,f⟩:=l;ac_rfl
 cases c with
 |true=>calc i j pins k σ d Q e f
 |false=>calc⟨d,e,f⟩
theorem pw_or(g:PT X a tA)(i:PW X (.BoolOp .Or (b::rest) pos) Xd):PW X (.BoolOp .Or (a::b::rest) pos) (YT tA Xd):=by
 calc⟨?_⟩;intro j pins s σ H Q I h;calc isTrue_or (cJ (g pins s σ H _ I h) λc k l=>?_);nofun;obtain⟨d,e,f⟩:=l;ac_rfl
 cases c with
 |true=>calc⟨d,e,f⟩
 |false=>calc i j pins k σ d Q e f
theorem bV(b:PT X a tA):PT X (.UnaryOp .Not a pos) (N0 tA):=by
 walk_at "xc";exact isTrue_not (b pins s σ H (λc d=>Q (!c) d) I h)
def Ex(ta tb:TE):TE:=λσ H Q=>ta σ H λx a=>∃c,x=.bl c/\if c=true then tb σ a Q else Q (.bl false) a
def Sw(ta tb:TE):TE:=λσ H Q=>ta σ H λx a=>∃c,x=.bl c/\if c=true then Q (.bl true) a else tb σ a Q
def Ey(ta:TE):TE:=λσ H Q=>ta σ H λx a=>∃c,x=.bl c/\Q (.bl (!c)) a
theorem ic{op}{t:TE}(h:PE X a t):PE X (.BoolOp op [a] pos) t:=.mk λpins s σ H Q I b=>BoolOp_one (h pins s σ H Q I b)
theorem fE(g:PE X a ta)(i:PE X (.BoolOp .And (b::rest) pos) tb):PE X (.BoolOp .And (a::b::rest) pos) (Ex ta tb):=by
 walk_at "xc";refine BoolOp_and (cJ (g pins s σ H _ I h) λv j k=>?_);nofun;obtain⟨x,e,f,l,d⟩:=k;ac_rfl;obtain⟨c,rfl,d⟩:=d
 cases l;refine aaI ?_
 cases c with
 |true=>calc i pins j σ e Q f d
 |false=>calc⟨.bl false,e,f,rfl,d⟩
theorem En(d:PE X a ta):PE X (.UnaryOp .Not a pos) (Ey ta):=by
 walk_at "xc";refine UnaryOp_ (cJ (d pins s σ H _ I h) λv j e=>?_);nofun;obtain⟨x,f,g,i,b⟩:=e;ac_rfl;obtain⟨c,rfl,b⟩:=b
 cases i;calc not_of (aaI ⟨.bl (!c),f,g,rfl,b⟩)
def YU(t:TT)(ta tb:TE):TE:=λσ H Q=>t σ H λc a=>if c=true then ta σ a Q else tb σ a Q
theorem Ez{c:Expr}(j:PT X c tA)(k:PE X a ta)(l:PE X b tb):PE X (.IfExp c a b pos) (YU tA ta tb):=by
 walk_at "xc";refine wpAny_IfExp (cJ (j pins s σ H _ I h) λd e c=>?_);nofun;obtain⟨f,g,i⟩:=c;ac_rfl
 cases d with
 |true=>calc k pins e σ f Q g i
 |false=>calc l pins e σ f Q g i
end
end
section
variable {X:Cx}{e tg:Expr}{pins:List (Addr×Obj)}{i:Nat}{σ:St}{x:Str}{te:TE}{K:W.Frag}
def aR(K:W.Frag)(H:Hp)(a:Addr)(xs:List V):Prop:=
 Rd H a (.lst xs)\/
  ∃(o:Obj) (b:Array Value) (n:Nat),K.lookup a=some o/\o.cls=.type "list"/\o.dict=none/\o.data=.seq b n/\b.size<=sizeLine/\Vals xs b.toList
def bM(K:W.Frag)(H:Hp)(a:Addr)(xs:List V):Prop:=
 Rd H a (.tup xs)\/
  ∃(o:Obj) (b:Array Value) (n:Nat),K.lookup a=some o/\o.cls=.type "tuple"/\o.data=.seq b n/\b.size<=sizeLine/\Vals xs b.toList
def YV:Value->Option V
 | .none=>some .bD
 | .bool b=>some (.bl b)
 | .int i _=>some (.int i)
 | .str x _=>some (.str x)
 | .bytes b _=>some (.yx b)
 | .float b _=>some (.LP b)
 | .ref a=>some (.ref a)
 | .type n=>some (.ty n)
 |_=>none
theorem RelV.abs{x:V}{u:Value}(r:RelV x u):YV u=some x:=by
 cases x with
 |bD=>cases r;rfl
 |bl _=>cases r;rfl
 |int _=>obtain⟨t,rfl⟩:=r;rfl
 |str _=>obtain⟨t,rfl⟩:=r;rfl
 |yx _=>obtain⟨t,rfl⟩:=r;rfl
 |LP _=>obtain⟨t,rfl⟩:=r;rfl
 |ref _=>cases r;rfl
 |ty _=>cases r;rfl
theorem RelV.inj{x y:V}{u:Value}(r:RelV x u)(q:RelV y u):x=y:=Option.some.inj (r.abs.symm.trans q.abs)
theorem Vals.inj:∀{xs a:List V}{us:List Value},Vals xs us->Vals a us->xs=a
 |_,_,_,.nil,.nil=>rfl
 |_,_,_,.cons r t,.cons a b=>by rw[r.inj a,Vals.inj t b]
section
variable {X:Cx}{pins:List (Addr×Obj)}{σ:St}{H:Hp}{s:Shared}{a:Addr}{xs ys:List V}
theorem aR.of(h:H a=some (.lst xs)):aR K H a xs:=.inl (.inl h)
theorem bM.of(h:H a=some (.tup xs)):bM K H a xs:=.inl (.inl h)
theorem Inv.list(I:Inv X pins σ H s)(h:aR X.K H a xs):∃b:List Value,Vals xs b/\PlainL s.heap a b.toArray/\xs.length<=sizeLine:=by
 rcases h with h|⟨o,b,n,c,d,f,g,i,r⟩
 ·obtain⟨z,b,n,r,e⟩:=h.ok I.aW;exact⟨b,r,⟨_,n,e,rfl,rfl,rfl⟩,z⟩
 ·calc⟨b.toList,r,⟨o,n,I.gG a o c,d,f,by simpa using g⟩,?_⟩;have e:=r.length;simp only[Array.length_toList]at e;lia
theorem Inv.tuple(I:Inv X pins σ H s)(h:bM X.K H a xs):∃b:List Value,Vals xs b/\IsTup s.heap a b.toArray/\xs.length<=sizeLine:=by
 rcases h with h|⟨o,b,n,c,d,f,g,r⟩
 ·obtain⟨z,b,r,p⟩:=h.ok I.aW;exact⟨b,r,p,z⟩
 ·calc⟨b.toList,r,⟨o,I.gG a o c,d,n,by simpa using f⟩,?_⟩;have e:=r.length;simp only[Array.length_toList]at e;lia
theorem Inv.wA(I:Inv X pins σ H s)(h:aR X.K H a xs)(h':aR X.K H a ys):xs=ys:=by
 obtain⟨f,r,⟨o,n,e,_,_,d⟩,_⟩:=I.list h;obtain⟨g,i,⟨j,k,b,_,_,c⟩,_⟩:=I.list h';rw[e]at b;cases b;rw[d]at c;injection c with h _
 have:f=g:=by simpa using congrArg Array.toList h
 subst this;calc r.inj i
theorem Inv.tR(I:Inv X pins σ H s)(h:bM X.K H a xs)(h':bM X.K H a ys):xs=ys:=by
 obtain⟨f,r,⟨o,e,_,n,d⟩,_⟩:=I.tuple h;obtain⟨g,i,⟨j,b,_,k,c⟩,_⟩:=I.tuple h';rw[e]at b;cases b;rw[d]at c;injection c with h _
 have:f=g:=by simpa using congrArg Array.toList h
 subst this;calc r.inj i
end
abbrev Cx.lT(X:Cx)(E:Value->Shared->Prop):Cx:={X with xe:=E}
abbrev Cx.uZ(X:Cx):Cx:=X.lT λ_ _=>False
theorem Cx.Ok.lT(a:X.Ok)(E:Value->Shared->Prop):(X.lT E).Ok:=
 ⟨a.mod,a.kind,a.glob,a.blt,a.above,a.inj,a.has,a.LQ,a.hd,a.frames,a.NS,a.Q5,a.bs,a.yL,a.uV,a.wz,a.lH,a.Er⟩
theorem Cx.Ok.fF{E:Value->Shared->Prop}(a:(X.lT E).Ok):X.Ok:=
 ⟨a.mod,a.kind,a.glob,a.blt,a.above,a.inj,a.has,a.LQ,a.hd,a.frames,a.NS,a.Q5,a.bs,a.yL,a.uV,a.wz,a.lH,a.Er⟩
section
variable {X:Cx}{pins:List (Addr×Obj)}{σ:St}{H:Hp}{s:Shared}{E:Value->Shared->Prop}
theorem Inv.lT(I:Inv X pins σ H s)(E:Value->Shared->Prop):Inv (X.lT E) pins σ H s:=⟨I.ok.lT E,I.os,I.bare,I.base,I.loc,I.cell,I.free,I.ie,I.pin,I.aW,I.len⟩
theorem Inv.fF(I:Inv (X.lT E) pins σ H s):Inv X pins σ H s:=⟨I.ok.fF,I.os,I.bare,I.base,I.loc,I.cell,I.free,I.ie,I.pin,I.aW,I.len⟩
theorem SP.fF{D:Ends}{f:Flow}{s':Shared}(h:SP (X.lT E) pins D f s'):SP X pins D f s':=by
 cases f with
 |next=>obtain⟨a,b,I,q⟩:=h;calc⟨a,b,I.fF,q⟩
 |brk=>obtain⟨a,b,I,q⟩:=h;calc⟨a,b,I.fF,q⟩
 |cont=>obtain⟨a,b,I,q⟩:=h;calc⟨a,b,I.fF,q⟩
 |ret u=>obtain⟨v,a,b,I,r,q⟩:=h;calc⟨v,a,b,I.fF,r,q⟩
theorem PE.uZ{t:TE}(h:PE X.uZ e t):PE X e t:=.mk λpins s σ H Q I a=>
 aat (h pins s σ H Q (I.lT _) a) (λ_ _ ⟨v,b,c,r,q⟩=>⟨v,b,c.fF,r,q⟩) λ_ _ z=>aam z
theorem PT.uZ{t:TT}(h:PT X.uZ e t):PT X e t:=.mk λpins s σ H Q I a=>
 aat (h pins s σ H Q (I.lT _) a) (λ_ _ ⟨b,c,q⟩=>⟨b,c.fF,q⟩) λ_ _ z=>aam z
theorem qE.uZ{a:List Stmt}{t:TS}(h:qE X.uZ a t):qE X a t:=.mk λpins s σ H D I a=>
 aat (h pins s σ H D (I.lT _) a) (λ_ _ q=>q.fF) λ_ _ z=>aam z
end
section
variable {X:Cx}{st:Stmt}{rest:List Stmt}{t u:TS}{e:Expr}{te:TE}{pos:Pos}
def EA:TS:=λD σ H=>D.nx σ H
def Cd(t u:TS):TS:=λD σ H=>t {D with nx:=u D} σ H
theorem aJ:qE X [] EA:=.mk λ_ _ σ H _ I h=>wpAny_execs_nil ⟨σ,H,I,h⟩
theorem aj(a:PS X st t)(b:qE X rest u):qE X (st::rest) (Cd t u):=by
 walk_at "xd";refine wpAny_execs_cons (cJ (a pins s σ H {D with nx:=u D} I h) λf c q=>?_)
 cases f with
 |next=>
  obtain⟨a,d,e,q⟩:=q;calc b pins c a d D e q
 |ret v=>calc q
 |brk=>calc q
 |cont=>calc q
theorem ao(a:PS X st t):qE X [st] t:=by
 walk_at "xd";refine wpAny_execs_cons (cJ (a pins s σ H D I h) λf b q=>?_)
 cases f with
 |next=>calc wpAny_execs_nil q
 |ret v=>calc q
 |brk=>calc q
 |cont=>calc q
theorem Inv.quiet{H:Hp}{s:Shared}(I:Inv X pins σ H s):interactive X.env=false:=by simp[interactive,I.ok.kind]
def wB(te:TE):TS:=λD σ H=>te σ H λ_ a=>D.nx σ a
theorem JF(a:PE X e te)(b:swapsWith e none pos.line X.env=pure false:=by rfl):PS X (.Expr e pos) (wB te):=by
 walk_at "xd";exact wpAny_Expr_any (cJ (a pins s σ H _ I h) λv g ⟨x,c,d,i,f⟩=>⟨σ,c,d,f⟩) I.quiet b
def N8(te:TE):TS:=λD σ H=>te σ H D.rt
theorem aI(a:PE X e te):PS X (.Return (some e) pos) (N8 te):=by
 walk_at "xd";exact wpAny_Return_some (cJ (a pins s σ H _ I h) λv g ⟨x,b,c,d,f⟩=>⟨x,σ,b,c,d,f⟩)
def LX:TS:=λD _ H=>D.rt .bD H
def yM(c:TT)(t u:TS):TS:=λD σ H=>c σ H λb a=>if b=true then t D σ a else u D σ a
theorem aT{c:Expr}{a b:List Stmt}{e:TT}(k:PT X c e)(l:qE X a t)(m:qE X b u):PS X (.If c a b pos) (yM e t u):=by
 walk_at "xd";refine wpAny_If (cJ (k pins s σ H _ I h) λd f a=>?_);nofun;obtain⟨g,i,j⟩:=a;ac_rfl
 cases d with
 |true=>calc l pins f σ g D i j
 |false=>calc m pins f σ g D i j
def yN:TS:=λ_ _ _=>False
theorem dY:PS X st yN:=.mk λ_ _ _ _ _ _ h=>h.elim
end
abbrev TG:=V->St->Hp->(St->Hp->Prop)->Prop
abbrev LY:=List V->St->Hp->(St->Hp->Prop)->Prop
structure PG(X:Cx)(target:Expr)(t:TG):Prop where
 out:
  ∀(pins:List (Addr×Obj)) (s:Shared) (σ:St) (H:Hp) (v:V) (u:Value) (Q:St->Hp->Prop),Inv X pins σ H s->RelV v u->t v σ H Q->
   wpAny (model X.prog X.w) X.A (assign target X.env u) (λ_ s'=>∃σ' H',Inv X pins σ' H' s'/\Q σ' H') X.xe s
instance {X:Cx}{a:Expr}{t:TG}:CoeFun (PG X a t) λ_=>
 ∀(pins:List (Addr×Obj)) (s:Shared) (σ:St) (H:Hp) (v:V) (u:Value) (Q:St->Hp->Prop),Inv X pins σ H s->RelV v u->t v σ H Q->
  wpAny (model X.prog X.w) X.A (assign a X.env u) (λ_ s'=>∃a b,Inv X pins a b s'/\Q a b) X.xe s:=⟨PG.out⟩
structure Q7(X:Cx)(ts:List Expr)(t:LY):Prop where
 out:
  ∀(pins:List (Addr×Obj)) (s:Shared) (σ:St) (H:Hp) (vs:List V) (us:List Value) (Q:St->Hp->Prop),Inv X pins σ H s->Vals vs us->t vs σ H Q->
   wpAny (model X.prog X.w) X.A (assignInOrder ((assignEach ts X.env).map (·.2)) us) (λ_ s'=>∃σ' H',Inv X pins σ' H' s'/\Q σ' H') X.xe s
instance {X:Cx}{a:List Expr}{t:LY}:CoeFun (Q7 X a t) λ_=>
 ∀(pins:List (Addr×Obj)) (s:Shared) (σ:St) (H:Hp) (vs:List V) (us:List Value) (Q:St->Hp->Prop),Inv X pins σ H s->Vals vs us->t vs σ H Q->
  wpAny (model X.prog X.w) X.A (assignInOrder ((assignEach a X.env).map (·.2)) us) (λ_ s'=>∃a b,Inv X pins a b s'/\Q a b) X.xe s:=⟨Q7.out⟩
abbrev N9:=V->V->V->Hp->(Hp->Prop)->Prop
def Oa(X:Cx)(t:N9):Prop:=
 ∀(pins:List (Addr×Obj)) (s:Shared) (σ:St) (H:Hp) (o i v:V) (a b u:Value) (Q:Hp->Prop),Inv X pins σ H s->RelV o a->RelV i b->RelV v u->t o i v H Q->
  wpAny (model X.prog X.w) X.A (setItem a b u) (λ_ s'=>∃a,Inv X pins σ a s'/\Q a) X.xe s
abbrev Xe:=V->V->Hp->VK->Prop
def PIp(X:Cx)(a:Operator)(t:Xe):Prop:=
 ∀(pins:List (Addr×Obj)) (s:Shared) (σ:St) (H:Hp) (x y:V) (v u:Value) (Q:VK),Inv X pins σ H s->RelV x v->RelV y u->t x y H Q->
  wpAny (model X.prog X.w) X.A (inplaceOp a v u) (EP X pins σ Q) X.xe s
section
variable {X:Cx}{pos:Pos}
def gX(i:Nat):TG:=λv σ H Q=>Q (σ.set i (some v)) H
theorem bb(a:X.N.Nodup)(b:X.N[i]?=some x)(c:Loc X.env.scope x)(d:X.fn x=true\/X.env.scope.names.lookup x=some .local:=by grind):PG X (.Name x pos) (gX i):=by
 calc⟨?_⟩;intro pins s σ H v u Q I r h;calc wpAny_assign_Name (ju I a b c r (λf e=>⟨_,H,e,h⟩) d)
def JG:LY:=λvs σ H Q=>vs=[]/\Q σ H
def pY(t:TG)(u:LY):LY:=λvs σ H Q=>∃v r,vs=v::r/\t v σ H λa b=>u r a b Q
theorem AE:Q7 X [] JG:=by
 calc⟨?_⟩;intro pins s σ H a b Q I r h;obtain⟨e,h⟩:=h;subst e
 cases r;calc assignInOrder_nil ⟨σ,H,I,h⟩
theorem kg{a:List Expr}{t:TG}{u:LY}(b:PG X e t)(c:Q7 X a u)
  (d:(assignEach (e::a) X.env).map (·.2)=assign e X.env::(assignEach a X.env).map (·.2):=by rfl):Q7 X (e::a) (pY t u):=by
 calc⟨?_⟩;intro pins s σ H a g Q I r h;obtain⟨v,i,f,h⟩:=h;subst f
 cases r with
 |cons r f=>
  rw[d];calc assignInOrder_cons (cJ (b pins s σ H _ _ _ I r h) λ_ g i=>?_);nofun;obtain⟨a,b,d,h⟩:=i;ac_rfl;calc c pins g a b _ _ Q d f h
def JH(K:W.Frag)(n:Nat)(t:LY):TG:=λv σ H Q=>∃a xs,v=.ref a/\bM K H a xs/\xs.length=n/\t xs σ H Q
theorem EB{a:List Expr}{k:Nat}{t:LY}{n:Nat}(b:X.calm=true)(h:Q7 X a t)
  (d:(assignEach a X.env).length=n:=by rfl) (f:(assignEach a X.env).findIdx? (·.1)=none:=by rfl):PG X (.Tuple a k pos) (JH X.K n t):=by
 calc⟨?_⟩;intro pins s σ H v u Q I r c;obtain⟨a,g,i,j,l,c⟩:=c;subst i
 cases r;obtain⟨k,a,i,m⟩:=I.tuple j;calc assign_Tuple_tuple (I.ok.hd b) i (by simp[d,<-l,a.length]) f λk m=>?_;have d:Inv X pins σ H {s with heap:=k}:=I.kept (t':=s.toks) λb o e=>m b o (X' (T' e)) e;calc h pins _ σ H g _ Q d (by simpa using a) c
def Ob(a b:TE)(t:N9):TG:=λv σ H Q=>a σ H λo c=>b σ c λi a=>t o i v a λb=>Q σ b
theorem iT{o i:Expr}{c d:TE}{t:N9}(e:PE X o c)(f:PE X i d)(g:Oa X t)
  (j:∀v,assign (.Subscript o i pos) X.env v=(do
   let a <-holding [v] (eval o X.env)
   let b <-holding [v,a] (eval i X.env)
   standAt pos
   holding [v,a,b] (setItem a b v)
   release [v,a,b] []):=by intro _;rfl):PG X (.Subscript o i pos) (Ob c d t):=by
 calc⟨?_⟩;intro pins s σ H v u Q I r h;rw[j];calc J' (aaD (cJ (e pins s σ H _ I h) λa d c=>?_));nofun;obtain⟨x,e,h,j,k⟩:=c;ac_rfl;calc J' (aaD (cJ (f pins d σ e _ h k) λb l c=>?_));nofun;obtain⟨y,d,e,f,h⟩:=c;ac_rfl;calc J' (wpAny_standAt (J' (aaD (cJ (g pins l σ d x y v a b u _ e j f r h) λ_ k c=>?_))));nofun;obtain⟨a,b,d⟩:=c;ac_rfl;calc wpAny_release ⟨σ,a,b,d⟩
def Ce(te:TE)(g:TG):TS:=λD σ H=>te σ H λx a=>g x σ a D.nx
theorem fG{g:TG}(a:PE X e te)(b:PG X tg g)(c:swapsWithSole [tg] e pos.line X.env=pure false:=by rfl)(d:swappedStores [tg] e X.env=pure none:=by rfl)
  (f:(assignEach [tg] X.env).map (·.2)=[assign tg X.env]:=by rfl):PS X (.Assign [tg] e pos) (Ce te g):=by
 walk_at "xd";refine wpAny_Assign_stores (cJ (a pins s σ H _ I h) λv g i=>?_) c d;nofun;obtain⟨x,a,j,k,l⟩:=i;ac_rfl;rw[f];exact cJ (b pins g σ a x v _ j k l) λ_ c q=>q
theorem EC{a:Pos}(b:X.N.Nodup)(c:X.N[i]?=some x)(d:Loc X.env.scope x)(f:PE X e te)(g:swapsWith e (some (.Name x a)) pos.line X.env=pure false:=by rfl)(j:X.fn x=true\/X.env.scope.names.lookup x=some .local:=by grind):
  PS X (.Assign [.Name x a] e pos) (Ce te (gX i)):=by
 walk_at "xd";refine wpAny_Assign_Name (cJ (f pins s σ H _ I h) λv k a=>?_) g;nofun;obtain⟨y,f,k,l,m⟩:=a;ac_rfl;exact ju k b c d l (λn g=>⟨_,f,g,m⟩) j
def Oc(i:Nat)(te:TE)(a:Xe):TS:=λD σ H=>∃x,σ[i]?=some (some x)/\te σ H λy b=>a x y b λz c=>D.nx (σ.set i (some z)) c
theorem Od{d:Operator}{g:Xe}{b:Pos}(o:X.N.Nodup)(j:X.N[i]?=some x)(f:Loc X.env.scope x)(p:PE X e te)(q:PIp X d g)(t:X.fn x=true\/X.env.scope.names.lookup x=some .local:=by grind):
  PS X (.AugAssign (.Name x b) d e pos) (Oc i te g):=by
 walk_at "xd";obtain⟨v,y,h⟩:=h;obtain⟨m,B,z⟩:=I.loc;have c:Ss X.env.scope x:=by rcases f with k|k;exact .inl k;exact .inr (.inl k)
 obtain⟨u,r,l⟩:=z i x v j y c;calc wpAny_AugAssign_Name ?_;have n:wpAny (model X.prog X.w) X.A (eval e X.env) (λw b=>wpAny (model X.prog X.w) X.A (inplaceOp d u w) (λr c=>wpAny (model X.prog X.w) X.A (storeName X.env x r) (λ_=>SP X pins D .next) X.xe c) X.xe b) X.xe s:=by
  calc cJ (p pins s σ H _ I h) λw c b=>?_;nofun;obtain⟨y,d,g,m,p⟩:=b;ac_rfl;calc cJ (q pins c σ d v y u w _ g r m p) λz F b=>?_;nofun;obtain⟨p,c,d,g,m⟩:=b;ac_rfl;exact ju d o j f g (λq p=>⟨_,c,p,m⟩) t
 rcases l with⟨a,b⟩|⟨a,c,C,E⟩
 ·exact wpAny_loadName_local I.ok.kind a B b n
 ·rcases a with a | a
  ·exact wpAny_loadName_cell I.ok.kind a C E n
  ·rcases f with k | k
   ·have:X.env.scope.names.lookup x=some .free:=a;rw[k]at this;cases this
   ·have:X.env.scope.names.lookup x=some .free:=a;rw[k]at this;cases this
def YW(f:Int->Int->Int):Xe:=λx y H Q=>∃i j,x=.int i/\y=.int j/\Q (.int (f i j)) H
theorem Oe:PIp X .Add (YW λi j=>i+j):=by
 intro pins s σ H x y v u Q I a b h;obtain⟨i,j,c,d,q⟩:=h;subst c;subst d;obtain⟨t,rfl⟩:=a;obtain⟨e,rfl⟩:=b;calc iadd_int ⟨.int _,H,I.tok _,⟨_,rfl⟩,q⟩
end
section
variable {X:Cx}{pos:Pos}
def u6(c:TT)(f:TS):TS:=λD σ H=>∃W:Nat->St->Hp->Prop,(∃m,W m σ H)/\∀m σ H,W m σ H->
 c σ H λb d=>if b=true then ∃N:St->Hp->Prop,(∀a c,N a c->∃e,e<m/\W e a c)/\f {D with nx:=N,ct:=N,bk:=D.nx} σ d else D.nx σ d
theorem ED{c:Expr}{a:List Stmt}{i:TT}{j:TS}(k:PassesOwn (model X.prog X.w) X.A X.env X.xe)(p:PT X c i)(q:qE X a j):PS X (.While c a [] pos) (u6 i j):=by
 walk_at "xd";obtain⟨W,⟨r,t⟩,a⟩:=h;refine wpAny_While (codeAny_whileLoop (λn u=>∃c i,Inv X pins c i u/\W n c i) ?_ r ⟨σ,H,I,t⟩);rintro n v ⟨d,j,x,y⟩;refine wpAny_passesOwn k (cJ (p pins v d j _ x (a n d j y)) λb z B=>?_);nofun;obtain⟨l,m,e⟩:=B;ac_rfl
 cases b with
 |true=>
  obtain⟨N,o,e⟩:=e;rw[if_pos rfl];refine wpAny_passesOwn k (cJ (q pins z d l _ m e) λf a g=>?_)
  cases f with
  |next=>
   obtain⟨a,b,c,f⟩:=g;obtain⟨i,j,k⟩:=o a b f;calc⟨i,j,a,b,c,k⟩
  |cont=>
   obtain⟨a,b,c,f⟩:=g;obtain⟨i,j,k⟩:=o a b f;calc⟨i,j,a,b,c,k⟩
  |brk=>calc g
  |ret v=>calc g
 |false=>
  rw[if_neg Bool.false_ne_true];calc wpAny_execs_nil ⟨d,l,m,e⟩
end
structure It where
 go:Nat->Hp->Prop
 LZ:Nat->Hp->V->Hp->Prop
 stop:Nat->Hp->Prop
def oB(X:Cx)(pins:List (Addr×Obj))(H:Hp)(b:Addr):Prop:=
 H b=none/\b≠X.env.locals/\b∉X.fs/\(b∈X.ex\/X.s₀.heap.objs.size<=b)/\(∀x c,X.env.cells.lookup x=some c->c≠b)/\∀p∈X.pn++pins,p.1≠b
theorem Inv.EF{H c:Hp}{s:Shared}{b:Addr}(I:Inv X pins σ H s)(a:s.heap.objs.size<=b)(d:c b=none):oB X pins c b:=by
 refine⟨d,Nat.ne_of_gt (S' I.lt a),I.NV a,.inr (aap I.sz a),λx c e z=>?_,λp b z=>?_⟩
 ·obtain⟨v,q⟩:=I.cell x c e;exact absurd (S' q.lt (by rw[z];calc a)) (aaG _)
 ·calc absurd (S' (T' (I.pin p b).1) (by rw[z];calc a)) (aaG _)
structure Turn(P:Program)(w:World)(K:W.Frag)(tg:Expr)(J:It)(fp:List Addr)(it:Addr)(tn:Nat->Heap->Prop):Prop where
 mem:it∈fp
 obj:∀i h,tn i h->∀b∈fp,∃o,h.get? b=some o/\∀v,o.data≠.cell v
 keep:∀i h h',tn i h->(∀b∈fp,∀o,h.get? b=some o->h'.get? b=some o)->tn i h'
 item:∀(X:Cx),X.prog=P->X.w=w->X.K=K->X.calm=true->∀(i:Nat) (pins:List (Addr×Obj)) (s:Shared) (σ:St) (H:Hp) (E:Value->Shared->Prop),Inv X pins σ H s->(∀b ∈ fp,oB X pins H b)->tn i s.heap->J.go i H->
  wpAny (model P w) X.A (pyNext (.ref it)) (λr s1=>∃u,r=some u/\
   wpAny (model P w) X.A (letOwnedTupleGo tg (.ref it) u) (λ_ s2=>∃x H',Inv X pins σ H' s2/\RelV x u/\J.LZ i H x H'/\tn (i + 1) s2.heap/\∀b ∈ fp,H' b=none) E s1) E s
 done:∀(X:Cx),X.prog=P->X.w=w->X.K=K->X.calm=true->∀(i:Nat) (pins:List (Addr×Obj)) (s:Shared) (σ:St) (H:Hp) (E:Value->Shared->Prop),Inv X pins σ H s->(∀b ∈ fp,oB X pins H b)->tn i s.heap->J.stop i H->
  wpAny (model P w) X.A (pyNext (.ref it)) (λr s1=>r=none/\Inv X pins σ H s1) E s
 self:∀(A:Around) (i:Nat) (s:Shared) (Q:Value->Shared->Prop) (E:Value->Shared->Prop),tn i s.heap->Q (.ref it) s->wpAny (model P w) A (pyIter (.ref it)) Q E s
abbrev TI:=St->Hp->(It->Hp->Prop)->Prop
def YX(X:Cx)(pins:List (Addr×Obj))(σ:St)(tg:Expr)(R:It->Hp->Prop)(g:Value)(c:Shared):Prop:=
 ∃(d:Addr) (e:List Addr) (f:Nat->Heap->Prop) (J:It) (a:Hp),g=.ref d/\Inv X pins σ a c/\Turn X.prog X.w X.K tg J e d f/\f 0 c.heap/\(∀b∈e,oB X pins a b)/\R J a
structure PI(X:Cx)(tg iter:Expr)(wi:TI):Prop where
 out:
  ∀(pins:List (Addr×Obj)) (s:Shared) (σ:St) (H:Hp) (R:It->Hp->Prop),Inv X pins σ H s->wi σ H R->
   wpAny (model X.prog X.w) X.A (eval iter X.env) (λv s1=>wpAny (model X.prog X.w) X.A (pyIter v) (YX X pins σ tg R) X.xe s1) X.xe s
instance {X:Cx}{tg a:Expr}{b:TI}:CoeFun (PI X tg a b) λ_=>
 ∀(pins:List (Addr×Obj)) (s:Shared) (σ:St) (H:Hp) (R:It->Hp->Prop),Inv X pins σ H s->b σ H R->
  wpAny (model X.prog X.w) X.A (eval a X.env) (λv b=>wpAny (model X.prog X.w) X.A (pyIter v) (YX X pins σ tg R) X.xe b) X.xe s:=⟨PI.out⟩
theorem EG{M:Model}{A:Around}{E:Value->Shared->Prop}{s:Shared}{tg:Expr}{b:Addr}{u:Value}{o:Obj}{n:String}{vs:Array Value}{Q:Unit->Shared->Prop}(c:s.heap.get? b=some o)(d:o.cls=.type n)(e:o.data=.fields vs)
    (f:["enumerate","zip","dict_itemiterator","dict_reverseitemiterator","odict_iterator","itertools.zip_longest","itertools.pairwise"].contains n=false) (a:Q () s):wpAny M A (letOwnedTupleGo tg (.ref b) u) Q E s:=by
  unfold letOwnedTupleGo
  cases tg<;>first
    |calc R' a
    | (cases u <;> first
        |calc R' a
        | (refine J' (wpAny_load c ?_)
           rw[d,e];show wpAny M A (if (["enumerate","zip","dict_itemiterator","dict_reverseitemiterator","odict_iterator","itertools.zip_longest","itertools.pairwise"].contains n && vs[0]? == some (rawInt _))=true then _ else _) Q E s;rw[if_neg (by intro h;rw[f,Bool.false_and] at h;cases h)];exact R' a))
def u7(K:W.Frag)(a:Addr):It:=
 ⟨λi H=>∃xs x,aR K H a xs/\xs[i]?=some x,λi H x b=>b=H/\∀xs,aR K H a xs->xs[i]?=some x,λi H=>∃xs,aR K H a xs/\xs.length<=i⟩
def Sx(K:W.Frag)(a:Addr):It:=
 ⟨λi H=>∃xs x,bM K H a xs/\xs[i]?=some x,λi H x b=>b=H/\∀xs,bM K H a xs->xs[i]?=some x,λi H=>∃xs,bM K H a xs/\xs.length<=i⟩
def AF(a:Int)(n:Nat):It:=⟨λi _=>i<n,λi H x b=>b=H/\x=.int (a+i),λi _=>n<=i⟩
theorem Cf{P:Program}{w:World}(a g:Addr):Turn P w K tg (u7 K a) [g] g (λi h=>h.IsListIter g a i) where
 mem:=by simp
 obj:=λi h f b j=>by
  have e:b=g:=by simpa using j
  subst e;obtain⟨o,e,c,d⟩:=f;exact⟨o,e,λv z=>by rw[d]at z;cases z⟩
 keep:=λi h l f k=>f.at λo e=>k g (by simp) o e
 item:=by
  intro X q r t L i pins s σ H E I m f y;subst q r t;obtain⟨M,x,n,A⟩:=y;obtain⟨N,B,p,O⟩:=I.list n;obtain⟨u,k,v⟩:=B.get A;obtain⟨C,D,Q,F,G,J⟩:=m g (by simp);calc wpAny_pyNext_list_item f p.isList (x:=u) (by simpa using k) λl a w=>?_;have k:Inv X pins σ H {s with heap:=l}:=I.turned (t':=s.toks) (λb o j e=>(w.2 b j).trans e) C D F G J;obtain⟨o,e,c,d⟩:=id a;exact⟨u,rfl,EG (s:={s with heap:=l}) e c d (by decide) ⟨x,H,k,v,⟨rfl,λw u=>by rw[I.wA u n];calc A⟩,a,λb j=>(m b j).1⟩⟩
 done:=by
  intro X q r t L i pins s σ H E I m f y;subst q r t;obtain⟨M,n,A⟩:=y;obtain⟨N,B,p,O⟩:=I.list n;obtain⟨C,D,Q,F,G,J⟩:=m g (by simp);have a:=B.length;exact wpAny_pyNext_list_end (I.ok.hd L) f p.isList (by simp;lia) λl a=>⟨rfl,I.turned (t':=s.toks) (λb o j e=>a b o j e) C D F G J⟩
 self:=λ_ _ _ _ _ f h=>wpAny_pyIter_listiter f h
theorem yO{P:Program}{w:World}(a g:Addr):Turn P w K tg (Sx K a) [g] g (λi h=>h.IsTupleIter g a i) where
 mem:=by simp
 obj:=λi h f b j=>by
  have e:b=g:=by simpa using j
  subst e;obtain⟨o,e,c,d⟩:=f;exact⟨o,e,λv z=>by rw[d]at z;cases z⟩
 keep:=λi h l f k=>f.at λo e=>k g (by simp) o e
 item:=by
  intro X q r t M i pins s σ H E I m f y;subst q r t;obtain⟨N,x,n,A⟩:=y;obtain⟨B,C,p,O⟩:=I.tuple n;obtain⟨u,v,w⟩:=C.get A;obtain⟨D,F,Q,G,J,L⟩:=m g (by simp);calc wpAny_pyNext_tuple_item f (show s.heap.IsTuple a B.toArray from p) (x:=u) (by simpa using v) λl k z=>?_;have v:Inv X pins σ H {s with heap:=l}:=I.turned (t':=s.toks) (λb o j e=>(z.2 b j).trans e) D F G J L;obtain⟨o,e,c,d⟩:=id k;exact⟨u,rfl,EG (s:={s with heap:=l}) e c d (by decide) ⟨x,H,v,w,⟨rfl,λz u=>by rw[I.tR u n];calc A⟩,k,λb j=>(m b j).1⟩⟩
 done:=by
  intro X q r t M i pins s σ H E I m f y;subst q r t;obtain⟨N,n,A⟩:=y;obtain⟨B,C,p,O⟩:=I.tuple n;obtain⟨D,F,Q,G,J,L⟩:=m g (by simp);have c:=C.length;exact wpAny_pyNext_tuple_end (I.ok.hd M) f (show s.heap.IsTuple a B.toArray from p) (by simp;lia) λl c=>⟨rfl,I.turned (t':=s.toks) (λb o j e=>c b o j e) D F G J L⟩
 self:=λ_ _ _ _ _ f h=>wpAny_pyIter_tupleiter f h
theorem yP{P:Program}{w:World}(c:Addr)(f:Int)(n:Nat):Turn P w K tg (AF f n) [c] c (λi h=>IsRangeIter h c (f+(i:Nat)*1) ((n:Int)-(i:Nat)) 1) where
 mem:=by simp
 obj:=λi h a b d=>by
  have e:b=c:=by simpa using d
  subst e;exact⟨_,a,λv z=>by
   have k:Data.fields _=Data.cell v:=z
   cases k⟩
 keep:=λi h g a k=>k c (by simp) _ a
 item:=by
  intro X l m p q i pins s σ H E I j a r;subst l m p;obtain⟨u,x,F,y,A,B⟩:=j c (by simp);have W:=Walks.range (prog:=X.prog) (w:=X.w) (I.ok.hd q) c f 1 n;calc W.item i s _ _ r a λv g C G D J=>?_;obtain⟨t,rfl⟩:=G;have k:Inv X pins σ H {s with heap:=g,toks:=C}:=I.turned (λb o d e=>J b o (by simpa using d) e) u x y A B;calc⟨_,rfl,EG (s:={s with heap:=g,toks:=C}) (n:="range_iterator") D rfl rfl (by decide) ⟨.int (f+i),H,k,⟨t,?_⟩,⟨rfl,rfl⟩,D,λb d=>(j b d).1⟩⟩;rw[Int.mul_one]
 done:=by
  intro X l m p q i pins s σ H E I j a r;subst l m p;obtain⟨u,x,F,y,A,B⟩:=j c (by simp);exact wpAny_pyNext_range_end (I.ok.hd q) a (by have:n<=i:=r;lia) λg c=>⟨rfl,I.turned (t':=s.toks) (λb o d e=>c b o d e) u x y A B⟩
 self:=λ_ _ _ _ _ a h=>wpAny_pyIter_rangeiter a h
end
section
variable {H:Hp}{pins:List (Addr×Obj)}{s:Shared}{σ:St}{g:TG}{tb:TS}
section
variable {X:Cx}{tg:Expr}
theorem EI{R:It->Hp->Prop}{E:Value->Shared->Prop}{a c:Int}{t u v:Tok}{d:Nat}(I:Inv X pins σ H s)(g:-(2^62)<=a)(h:a<2^62)(i:-(2^62)<=c)(j:c<2^62)
  (q:R (AF a (c-a).toNat) H):wpAny (model X.prog X.w) X.A (pyIter (.ref s.heap.objs.size)) (YX X pins σ tg R) E {s with heap:=s.heap.push {cls:=.type "range",data:=.fields #[.int a t,.int c u,.int 1 v]},toks:=d}:=by
 refine wpAny_pyIter_range (IsRange.new ..) (small_one g h i j) ?_;have f:Inv X pins σ H {s with heap:=s.heap.push {cls:=.type "range",data:=.fields #[.int a t,.int c u,.int 1 v]},toks:=d}:=I.kept λb o e=>K' _ e;refine⟨(s.heap.push {cls:=.type "range",data:=.fields #[.int a t,.int c u,.int 1 v]}).objs.size,[(s.heap.push {cls:=.type "range",data:=.fields #[.int a t,.int c u,.int 1 v]}).objs.size],_,_,H,rfl,
  f.kept (t':=d) λb o e=>K' _ e,yP _ a (c - a).toNat,?_,λb k=>?_,q⟩
 ·have l:a + ((0:Nat):Int) * 1=a:=by simp
  have m:(((c-a).toNat:Nat):Int)-((0:Nat):Int)=Builtin.Range.rangeSize a c 1:=by rw[rangeSize_one];split<;>lia
  show IsRangeIter _ _ (a+((0:Nat):Int)*1) ((((c-a).toNat:Nat):Int)-((0:Nat):Int)) 1;rw[l,m];exact W' _ rfl
 ·have e:b=(s.heap.push {cls:=.type "range",data:=.fields #[.int a t,.int c u,.int 1 v]}).objs.size:=by simpa using k
  subst e;calc f.EF (L' _) (f.aW.fresh (L' _))
def EJ(a:TA):TI:=λσ H R=>a σ H λvs b=>∃j:Int,vs=[.int j]/\-(2^62)<=j/\j<2^62/\R (AF 0 j.toNat) b
def L3(a:TA):TI:=λσ H R=>a σ H λvs b=>∃i j:Int,vs=[.int i,.int j]/\(-(2^62)<=i/\i<2^62/\-(2^62)<=j/\j<2^62)/\R (AF i (j-i).toNat) b
theorem de{a:Expr}{d:TA}{p b:Pos}(f:Gl X "range")(g:X.mg "range"=none)(i:PA X [a] d)(j:starEach [a] X.env=[(false,eval a X.env)]:=by rfl):PI X tg (.Call (.Name "range" p) [a] [] b) (EJ d):=by
 calc⟨?_⟩;intro pins s σ H R I h;calc Call_ (oA I f g boot_range (PyProof.Rows.callWith_type1 (cJ (i b pins s σ H _ I h) λd o a=>?_) j rfl));nofun;obtain⟨b,d,k,l,c⟩:=a;ac_rfl;obtain⟨j,e,c,m,q⟩:=c;subst e
 cases l with
 |cons r n=>
  cases n;obtain⟨t,rfl⟩:=r;calc call_range_1 (EI k (by lia) (by lia) c m (by simpa using q))
def Of(a:TI)(g:TG)(tb:TS):TS:=λD σ H=>a σ H λJ b=>∃W:Nat->Nat->St->Hp->Prop,(∃m,W 0 m σ b)/\∀i m σ H,W i m σ H->
 (J.stop i H/\D.nx σ H)\/(J.go i H/\∃N:St->Hp->Prop,(∀a b,N a b->∃d,d<m/\W (i+1) d a b)/\∀x b,J.LZ i H x b->g x σ b λc e=>tb {D with nx:=N,ct:=N,bk:=D.nx} c e)
def oC(a:List Addr)(h:Heap):List (Addr×Obj):=a.filterMap λb=>(h.get? b).map λo=>(b,o)
theorem jM{a:List Addr}{h:Heap}{b:Addr}{o:Obj}(c:b∈a)(e:h.get? b=some o):(b,o)∈oC a h:=List.mem_filterMap.mpr ⟨b,c,by rw[e];rfl⟩
theorem Cg{a:List Addr}{h:Heap}{p:Addr×Obj}(c:p∈oC a h):p.1∈a/\h.get? p.1=some p.2:=by
 obtain⟨b,d,e⟩:=List.mem_filterMap.mp c
 cases q:h.get? b with
 |none=>rw[q]at e;cases e
 |some o=>
  rw[q]at e;have f:(b,o)=p:=Option.some.inj e;subst f;calc⟨d,q⟩
theorem Inv.pinned{a:List Addr}(I:Inv X pins σ H s)(g:∀b∈a,oB X pins H b)(h:∀b∈a,∃o,s.heap.get? b=some o/\∀v,o.data≠.cell v):Inv X (pins++oC a s.heap) σ H s:=
 I.uX λp a=>(List.mem_append.mp a).elim (λz=>I.pin p (aar _ z)) λz=>by
  obtain⟨c,e⟩:=Cg z;obtain⟨i,j,k,_⟩:=g p.1 c;obtain⟨o,f,d⟩:=h p.1 c;rw[e]at f;cases f;calc⟨e,i,j,k,d⟩
theorem Inv.kh{pl:List (Addr×Obj)}(I:Inv X (pins++pl) σ H s):Inv X pins σ H s:=I.uX λp a=>I.pin p (aar _ (List.mem_append_left _ a))
theorem fH{c:Expr}{m:List Stmt}{M:TI}{J:Pos}(z:PassesOwn (model X.prog X.w) X.A X.env X.xe)(O:X.calm=true)(Z:PI X tg c M)(hg:PG X tg g)(j:qE X m tb)
  (hs:∀x,foldedSetIterable c X.env x=pure x:=by intro _;rfl):PS X (.For tg c m [] J) (Of M g tb):=by
 walk_at "xd";refine wpAny_For (cJ (Z pins s σ H _ I h) λv m c=>cJ c λm J h2=>?_) hs;obtain⟨c,B,P,J,H2,e,I2,T,AG,Q,W,⟨m0,w0⟩,C⟩:=h2;subst e;have K:∀{o:Hp},(∀b∈B,o b=none)->∀b∈B,oB X pins o b:=λc b j=>⟨c b j,(Q b j).2⟩
 calc codeAny_forLoop_any (λn c=>∃i d o,Inv X pins d o c/\P i c.heap/\(∀b∈B,o b=none)/\W i n d o) ?_ m0 ⟨0,σ,H2,I2,AG,λb j=>(Q b j).1,w0⟩;rintro n R ⟨i,k,G,S,U,Y,w3⟩;rcases C i n k G w3 with⟨c,qn⟩|⟨go,N,hN,E⟩
 ·calc wpAny_passesOwn z (cJ (T.done X rfl rfl rfl O i pins R k G X.xe S (K Y) U c) λr s4 y=>?_);nofun;obtain⟨L,I4⟩:=y;ac_rfl;subst L;exact wpAny_execs_nil ⟨k,G,I4,qn⟩
 ·calc wpAny_passesOwn z (cJ (T.item X rfl rfl rfl O i pins R k G X.xe S (K Y) U go) λr s4 y=>?_);nofun;obtain⟨u,L,h4⟩:=y;ac_rfl;subst L;calc wpAny_passesOwn z (cJ h4 λ_ C y=>?_);nofun;obtain⟨x,m,r,G,J,c,L⟩:=y;ac_rfl;have M:=r.pinned (K L) (T.obj _ _ c);calc wpAny_passesOwn z (cJ (hg _ C k m x u _ M G (E x m J)) λ_ O y=>?_);nofun;obtain⟨k,m,u,x⟩:=y;ac_rfl;calc wpAny_passesOwn z (cJ (j _ O k m _ u x) λf r t=>?_);have l:∀{a:St} {p:Hp},Inv X (pins++oC B C.heap) a p r->N a p->∃m,m<n/\∃i d o,Inv X pins d o r/\P i r.heap/\(∀b∈B,o b=none)/\W i m d o:=λ{a p} q F=>by
   obtain⟨d,k,m⟩:=hN a p F;calc⟨d,k,i+1,a,p,q.kh,T.keep _ _ _ c λb j o e=>(q.pin (b,o) (aar _ (aar _ (jM j e)))).1,λb j=>?_,m⟩;obtain⟨o,e,d⟩:=T.obj _ _ c b j;exact(q.pin (b,o) (aar _ (aar _ (jM j e)))).2.1
  cases f with
  |next=>obtain⟨a,p,q,F⟩:=t;calc l q F
  |cont=>obtain⟨a,p,q,F⟩:=t;calc l q F
  |brk=>obtain⟨a,p,q,t⟩:=t;calc⟨a,p,q.kh,t⟩
  |ret v=>obtain⟨b,a,p,q,c,t⟩:=t;calc⟨b,a,p,q.kh,c,t⟩
end
theorem jv{K:W.Frag}{a:Addr}{xs:List V}{D:Ends}(b:Nat->St->Hp->Prop)(k:b 0 σ H)(l:∀i σ H,i<=xs.length->b i σ H->aR K H a xs)
  (n:∀i x σ H,xs[i]?=some x->b i σ H->g x σ H λc h=>tb {D with nx:=b (i+1),ct:=b (i+1),bk:=D.nx} c h) (o:∀σ H,b xs.length σ H->D.nx σ H):
  ∃W:Nat->Nat->St->Hp->Prop,(∃m,W 0 m σ H)/\∀i m σ H,W i m σ H->
   ((u7 K a).stop i H/\D.nx σ H)\/((u7 K a).go i H/\∃N:St->Hp->Prop,(∀d f,N d f->∃j,j<m/\W (i+1) j d f)/\∀x f,(u7 K a).LZ i H x f->g x σ f λc h=>tb {D with nx:=N,ct:=N,bk:=D.nx} c h):=by
 calc⟨λi m σ H=>m=xs.length-i/\i<=xs.length/\b i σ H,⟨xs.length,by simp,aav _,k⟩,?_⟩;rintro i m σ H ⟨rfl,c,p⟩;have q:=l i σ H c p;by_cases a:i<xs.length
 ·calc .inr ⟨⟨xs,xs[i],q,by simp[a]⟩,b (i+1),λd f c=>⟨xs.length-(i+1),by lia,rfl,a,c⟩,λx f y=>?_⟩;obtain⟨e,y⟩:=y;subst e;exact n i x σ _ (y xs q) p
 ·have e:i=xs.length:=by lia
  subst e;calc .inl ⟨⟨xs,q,L' _⟩,o σ H p⟩
theorem jw{f:Int}{n:Nat}{D:Ends}(a:Nat->St->Hp->Prop)(l:a 0 σ H)
  (o:∀i σ H,i<n->a i σ H->g (.int (f+i)) σ H λb h=>tb {D with nx:=a (i+1),ct:=a (i+1),bk:=D.nx} b h) (q:∀σ H,a n σ H->D.nx σ H):
  ∃W:Nat->Nat->St->Hp->Prop,(∃m,W 0 m σ H)/\∀i m σ H,W i m σ H->
   ((AF f n).stop i H/\D.nx σ H)\/((AF f n).go i H/\∃N:St->Hp->Prop,(∀c d,N c d->∃k,k<m/\W (i+1) k c d)/\∀x d,(AF f n).LZ i H x d->g x σ d λb h=>tb {D with nx:=N,ct:=N,bk:=D.nx} b h):=by
 calc⟨λi m σ H=>m=n-i/\i<=n/\a i σ H,⟨n,by simp,aav _,l⟩,?_⟩;rintro i m σ H ⟨rfl,b,p⟩;by_cases j:i<n
 ·calc .inr ⟨j,a (i+1),λc d b=>⟨n-(i+1),by lia,rfl,j,b⟩,λx d y=>?_⟩;obtain⟨e,y⟩:=y;subst e y;exact o i σ _ j p
 ·have e:i=n:=by lia
  subst e;calc .inl ⟨L' _,q σ H p⟩
end
section
variable {op:CmpOp}{g:Int->Int->Int}
abbrev R2:=V->V->Hp->VK->Prop
def gJ(X:Cx)(f:Value->Value->Sem Value)(r:R2):Prop:=
 ∀(pins:List (Addr×Obj)) (s:Shared) (σ:St) (H:Hp) (x y:V) (v u:Value) (Q:VK),Inv X pins σ H s->RelV x v->RelV y u->r x y H Q->
  wpAny (model X.prog X.w) X.A (f v u) (EP X pins σ Q) X.xe s
def Y0(X:Cx)(f:Value->Sem Value)(r:V->Hp->VK->Prop):Prop:=
 ∀(pins:List (Addr×Obj)) (s:Shared) (σ:St) (H:Hp) (x:V) (v:Value) (Q:VK),Inv X pins σ H s->RelV x v->r x H Q->
  wpAny (model X.prog X.w) X.A (f v) (EP X pins σ Q) X.xe s
def eX(X:Cx)(f:Value)(r:List V->Hp->VK->Prop):Prop:=
 ∀(pins:List (Addr×Obj)) (s:Shared) (σ:St) (H:Hp) (xs:List V) (us:List Value) (Q:VK),Inv X pins σ H s->Vals xs us->r xs H Q->
  wpAny (model X.prog X.w) X.A (call f us) (EP X pins σ Q) X.xe s
def Y1(X:Cx)(r:V->Hp->(Bool->Hp->Prop)->Prop):Prop:=
 ∀(pins:List (Addr×Obj)) (s:Shared) (σ:St) (H:Hp) (x:V) (v:Value) (Q:Bool->Hp->Prop),Inv X pins σ H s->RelV x v->r x H Q->
  wpAny (model X.prog X.w) X.A (truthy v) (TP X pins σ Q) X.xe s
def JI(r:R2)(a b:TE):TE:=λσ H Q=>a σ H λx c=>b σ c λy a=>r x y a Q
def Y2(r:V->Hp->VK->Prop)(a:TE):TE:=λσ H Q=>a σ H λx b=>r x b Q
def rI(C:Int->Int->Prop)(g:Int->Int->V):R2:=λx y H Q=>∃i j,x=.int i/\y=.int j/\C i j/\Q (g i j) H
def JJ(g:Int->Int->V):R2:=λx y H Q=>∃i j,x=.int i/\y=.int j/\Q (g i j) H
def rU(g:Int->V):V->Hp->VK->Prop:=λx H Q=>∃i,x=.int i/\Q (g i) H
section
variable {X:Cx}{a b c:Expr}{ta tb tc:TE}{pos:Pos}
theorem Og(j:PE X a ta)(k:PE X b tb){pins:List (Addr×Obj)}{s:Shared}{σ:St}{H:Hp}{R:V->V->Hp->Prop}(I:Inv X pins σ H s)
  (h:ta σ H λx i=>tb σ i λy c=>R x y c) {Q:Value->Shared->Prop} {f:Value->Value->Sem Value}
  (l:∀v u g x y c,Inv X pins σ c g->RelV x v->RelV y u->R x y c->wpAny (model X.prog X.w) X.A (f v u) Q X.xe g):
  wpAny (model X.prog X.w) X.A (eval a X.env) (λv d=>wpAny (model X.prog X.w) X.A (eval b X.env) (λu e=>wpAny (model X.prog X.w) X.A (f v u) Q X.xe e) X.xe d) X.xe s:=by
 calc cJ (j pins s σ H _ I h) λv e d=>?_;nofun;obtain⟨x,i,f,h,j⟩:=d;ac_rfl;calc cJ (k pins e σ i _ f j) λu g d=>?_;nofun;obtain⟨y,c,e,f,i⟩:=d;ac_rfl;calc l v u g x y c e h f i
theorem aU{op:Operator}{r:R2}(c:gJ X (binaryOp op) r)(d:PE X a ta)(e:PE X b tb):PE X (.BinOp a op b pos) (JI r ta tb):=by
 walk_at "xc";exact wpAny_BinOp (Og d e I h λv u f x y g i j k q=>c pins f σ g x y v u Q i j k q)
theorem ki{op:UnaryOp}{r:V->Hp->VK->Prop}(b:Y0 X (unaryOp op) r)(c:PE X a ta):PE X (.UnaryOp op a pos) (Y2 r ta):=by
 walk_at "xc";exact UnaryOp_ (cJ (c pins s σ H _ I h) λv d ⟨x,e,f,g,i⟩=>b pins d σ e x v Q f g i)
theorem Xg{f:Value->Value->Sem Value}{C:Int->Int->Prop}
  (a:∀(i j:Int) (t u:Tok) (s:Shared) (Q:Value->Shared->Prop) (E:Value->Shared->Prop),C i j->Q (.int (g i j) s.toks) {s with toks:=s.toks+1}->wpAny (model X.prog X.w) X.A (f (.int i t) (.int j u)) Q E s):
  gJ X f (rI C λi j=>.int (g i j)):=by
 intro b s σ H x y v u Q I c d h;obtain⟨i,j,rfl,rfl,e,q⟩:=h;obtain⟨t,rfl⟩:=c;obtain⟨k,rfl⟩:=d;calc a i j t k s _ _ e ⟨.int (g i j),H,I.tok _,⟨_,rfl⟩,q⟩
theorem Sz{f:Value->Value->Sem Value}
  (a:∀(i j:Int) (t u:Tok) (s:Shared) (Q:Value->Shared->Prop) (E:Value->Shared->Prop),Q (.int (g i j) s.toks) {s with toks:=s.toks+1}->wpAny (model X.prog X.w) X.A (f (.int i t) (.int j u)) Q E s):
  gJ X f (JJ λi j=>.int (g i j)):=by
 intro b s σ H x y v u Q I c d h;obtain⟨i,j,rfl,rfl,q⟩:=h;obtain⟨t,rfl⟩:=c;obtain⟨e,rfl⟩:=d;calc a i j t e s _ _ ⟨.int (g i j),H,I.tok _,⟨_,rfl⟩,q⟩
theorem JK{f:Value->Value->Sem Value}{g:Int->Int->Bool}
  (a:∀(i j:Int) (t u:Tok) (s:Shared) (Q:Value->Shared->Prop) (E:Value->Shared->Prop),Q (.bool (g i j)) s->wpAny (model X.prog X.w) X.A (f (.int i t) (.int j u)) Q E s):
  gJ X f (JJ λi j=>.bl (g i j)):=by
 intro b s σ H x y v u Q I c d h;obtain⟨i,j,rfl,rfl,q⟩:=h;obtain⟨t,rfl⟩:=c;obtain⟨e,rfl⟩:=d;calc a i j t e s _ _ ⟨.bl (g i j),H,I,rfl,q⟩
def EK(i j:Int):Prop:=0<=j/\j<=1000000/\i.natAbs<2^64
def EL(i j:Int):Prop:=(-(2^64)<i/\i<2^64)\/(-(2^64)<j/\j<2^64)
theorem EL.ok{i j:Int}(h:EL i j):IntMulOk i j:=by
 rcases h with⟨a,b⟩|⟨a,b⟩
 ·exact .of_left (intBits_le_64 a b)
 ·calc .of_right (intBits_le_64 a b)
theorem Oh:gJ X (binaryOp .Add) (JJ λi j=>.int (i+j)):=Sz λ_ _ _ _ _ _ _ q=>add_int q
theorem Oi:gJ X (binaryOp .Sub) (JJ λi j=>.int (i-j)):=Sz λ_ _ _ _ _ _ _ q=>sub_int q
theorem Oj:gJ X (binaryOp .Mult) (rI EL λi j=>.int (i*j)):=Xg λ_ _ _ _ _ _ _ a q=>mul_int q a.ok
theorem Ol:gJ X (binaryOp .Mod) (rI (λ_ j=>0<j) λi j=>.int (i%j)):=Xg λi j _ _ _ _ _ a q=>by
 have b:(0:Int)<j:=a;calc mod_int' (by lia) (by rw[Int.fmod_eq_emod_of_nonneg i (by lia)];calc q)
theorem Om:gJ X (binaryOp .Pow) (rI EK λi j=>.int (i^j.toNat)):=Xg λ_ _ _ _ _ _ _ a q=>pow_int_small a.1 a.2.1 a.2.2 q
theorem unI{f:Value->Sem Value}{g:Int->Int}
  (a:∀(i:Int) (t:Tok) (s:Shared) (Q:Value->Shared->Prop) (E:Value->Shared->Prop),Q (.int (g i) s.toks) {s with toks:=s.toks+1}->wpAny (model X.prog X.w) X.A (f (.int i t)) Q E s):
  Y0 X f (rU λi=>.int (g i)):=by
 intro b s σ H x v Q I c h;obtain⟨i,rfl,q⟩:=h;obtain⟨t,rfl⟩:=c;calc a i t s _ _ ⟨.int (g i),H,I.tok _,⟨_,rfl⟩,q⟩
theorem ig:Y0 X (unaryOp .USub) (rU λi=>.int (-i)):=unI λ_ _ _ _ _ q=>neg_int q
end
def JL:V->V->Bool
 | .bD,.bD=>true | .bD,.int _=>true | .int _,.bD=>true | .bD,.bl _=>true | .bl _,.bD=>true | .bD,.str _=>true | .str _,.bD=>true
 | .int _,.int _=>true | .bl _,.bl _=>true | .str _,.str _=>true | .yx _,.yx _=>true
 | .int _,.str _=>true | .str _,.int _=>true | .bl _,.str _=>true | .str _,.bl _=>true
 |_,_=>false
def rEq:R2:=λx y H Q=>JL x y=true/\Q (.bl (decide (x=y))) H
def rNe:R2:=λx y H Q=>JL x y=true/\Q (.bl (!decide (x=y))) H
theorem AH{i j:Int}:decide (V.int i=V.int j)=(i==j):=by
 rw[Bool.eq_iff_iff];simp
theorem EM{i j:Bool}:decide (V.bl i=V.bl j)=(i==j):=by
 rw[Bool.eq_iff_iff];simp
theorem AI{i j:Str}:decide (V.str i=V.str j)=(i==j):=by
 rw[Bool.eq_iff_iff];simp
theorem AJ{i j:Array UInt8}:decide (V.yx i=V.yx j)=(i.toList==j.toList):=by
 rw[Bool.eq_iff_iff]
 cases i
 cases j;simp
section
variable {X:Cx}{a b c:Expr}{ta tb tc:TE}{pos:Pos}
theorem bY{pins:List (Addr×Obj)}{σ:St}{H:Hp}{s:Shared}{Q:VK}{k a:Bool}(I:Inv X pins σ H s)(q:Q (.bl k) H)(e:k=a):EP X pins σ Q (.bool a) s:=by
 subst e;calc⟨.bl k,H,I,rfl,q⟩
theorem SA:gJ X (compareOp .Eq) rEq:=by
 intro e s σ H x y v u Q I d a h;obtain⟨c,q⟩:=h
 cases x with
 |bD=>
  cases d
  cases y with
  |bD=>cases a;calc PySem.EqNone.eq_none_none (bY I q (by simp))
  |bl j=>cases a;calc PySem.EqNone.eq_none_bool (bY I q (by simp))
  |int j=>obtain⟨b,rfl⟩:=a;calc PySem.EqNone.eq_none_int (bY I q (by simp))
  |str j=>obtain⟨b,rfl⟩:=a;calc PySem.EqNone.eq_none_str (bY I q (by simp))
  |_=>calc absurd (show false=true from c) V'
 |bl i=>
  cases d
  cases y with
  |bD=>cases a;calc PySem.EqNone.eq_bool_none (bY I q (by simp))
  |bl j=>cases a;calc eq_bool (bY I q EM)
  |str j=>obtain⟨b,rfl⟩:=a;calc PySem.EqMixed.eq_bool_str (bY I q (by simp))
  |_=>calc absurd (show false=true from c) V'
 |int i=>
  obtain⟨t,rfl⟩:=d
  cases y with
  |bD=>cases a;calc PySem.EqNone.eq_int_none (bY I q (by simp))
  |int j=>obtain⟨b,rfl⟩:=a;calc eq_int (bY I q AH)
  |str j=>obtain⟨b,rfl⟩:=a;calc PySem.EqMixed.eq_int_str (bY I q (by simp))
  |_=>calc absurd (show false=true from c) V'
 |str i=>
  obtain⟨t,rfl⟩:=d
  cases y with
  |bD=>cases a;calc PySem.EqNone.eq_str_none (bY I q (by simp))
  |bl j=>cases a;calc PySem.EqMixed.eq_str_bool (bY I q (by simp))
  |int j=>obtain⟨b,rfl⟩:=a;calc PySem.EqMixed.eq_str_int (bY I q (by simp))
  |str j=>obtain⟨b,rfl⟩:=a;calc eq_str (bY I q AI)
  |_=>calc absurd (show false=true from c) V'
 |yx i=>
  obtain⟨t,rfl⟩:=d
  cases y with
  |yx j=>obtain⟨b,rfl⟩:=a;calc W.eq_bytes (bY I q AJ)
  |_=>calc absurd (show false=true from c) V'
 |_=>cases y<;>calc absurd (show false=true from c) V'
theorem SD:gJ X (compareOp .NotEq) rNe:=by
 intro e s σ H x y v u Q I d a h;obtain⟨c,q⟩:=h
 cases x with
 |bD=>
  cases d
  cases y with
  |bD=>cases a;calc PySem.EqNone.ne_none_none (bY I q (by simp))
  |bl j=>cases a;calc PySem.EqNone.ne_none_bool (bY I q (by simp))
  |int j=>obtain⟨b,rfl⟩:=a;calc PySem.EqNone.ne_none_int (bY I q (by simp))
  |str j=>obtain⟨b,rfl⟩:=a;calc PySem.EqNone.ne_none_str (bY I q (by simp))
  |_=>calc absurd (show false=true from c) V'
 |bl i=>
  cases d
  cases y with
  |bD=>cases a;calc PySem.EqNone.ne_bool_none (bY I q (by simp))
  |bl j=>cases a;calc ne_bool (bY I q (congrArg not EM))
  |str j=>obtain⟨b,rfl⟩:=a;calc PySem.EqMixed.ne_bool_str (bY I q (by simp))
  |_=>calc absurd (show false=true from c) V'
 |int i=>
  obtain⟨t,rfl⟩:=d
  cases y with
  |bD=>cases a;calc PySem.EqNone.ne_int_none (bY I q (by simp))
  |int j=>obtain⟨b,rfl⟩:=a;calc ne_int (bY I q (congrArg not AH))
  |str j=>obtain⟨b,rfl⟩:=a;calc PySem.EqMixed.ne_int_str (bY I q (by simp))
  |_=>calc absurd (show false=true from c) V'
 |str i=>
  obtain⟨t,rfl⟩:=d
  cases y with
  |bD=>cases a;calc PySem.EqNone.ne_str_none (bY I q (by simp))
  |bl j=>cases a;calc PySem.EqMixed.ne_str_bool (bY I q (by simp))
  |int j=>obtain⟨b,rfl⟩:=a;calc PySem.EqMixed.ne_str_int (bY I q (by simp))
  |str j=>obtain⟨b,rfl⟩:=a;calc ne_str (bY I q (congrArg not AI))
  |_=>calc absurd (show false=true from c) V'
 |yx i=>
  obtain⟨t,rfl⟩:=d
  cases y with
  |yx j=>obtain⟨b,rfl⟩:=a;calc W.ne_bytes (bY I q (congrArg not AJ))
  |_=>calc absurd (show false=true from c) V'
 |_=>cases y<;>calc absurd (show false=true from c) V'
theorem SE:gJ X (compareOp .Lt) (JJ λi j=>.bl (decide (i<j))):=JK λ_ _ _ _ _ _ _ q=>lt_int q
theorem SG:gJ X (compareOp .LtE) (JJ λi j=>.bl (decide (i<=j))):=JK λ_ _ _ _ _ _ _ q=>le_int q
theorem SH:gJ X (compareOp .Gt) (JJ λi j=>.bl (decide (j<i))):=JK λ_ _ _ _ _ _ _ q=>gt_int q
theorem SI:gJ X (compareOp .GtE) (JJ λi j=>.bl (decide (j<=i))):=JK λ_ _ _ _ _ _ _ q=>ge_int q
theorem Oo:gJ X (compareOp .Is) (λx y H Q=>y=.bD/\Q (.bl (decide (x=.bD))) H):=by
 intro a s σ H x y v u Q I b c h;obtain⟨rfl,q⟩:=h
 cases c;refine is_none_gen (bY I q ?_)
 cases x<;>first
  |(cases b;rfl)
  |(obtain⟨t,rfl⟩:=b;rfl)
theorem JM:gJ X (compareOp .IsNot) (λx y H Q=>y=.bD/\Q (.bl (!decide (x=.bD))) H):=by
 intro a s σ H x y v u Q I b c h;obtain⟨rfl,q⟩:=h
 cases c;refine isnot_none_gen (bY I q ?_)
 cases x<;>first
  |(cases b;rfl)
  |(obtain⟨t,rfl⟩:=b;rfl)
theorem aH(b:Expr){op:CmpOp}(h:op≠.In:=by decide)(a:op≠.NotIn:=by decide):behindInMarks op b=false:=by
 have c:(op==CmpOp.In)=false:=by cases op<;>first|rfl|exact absurd rfl h
 have d:(op==CmpOp.NotIn)=false:=by cases op<;>first|rfl|exact absurd rfl a
 cases b<;>simp[behindInMarks,c,d]
theorem gB{r:R2}(c:gJ X (compareOp op) r)(d:PE X a ta)(e:PE X b tb)(f:behindInMarks op b=false):PE X (.Compare a [op] [b] pos) (JI r ta tb):=by
 walk_at "xc";exact wpAny_Compare1 (Og d e I h λv u g x y i j k l q=>c pins g σ i x y v u Q j k l q) f
def AK(t:TE):TT:=λσ H Q=>t σ H λx a=>∃k,x=.bl k/\Q k a
theorem AL{r:R2}(d:gJ X (compareOp op) r)(f:PE X a ta)(g:PE X b tb)(i:behindInMarks op b=false):PT X (.Compare a [op] [b] pos) (AK (JI r ta tb)):=by
 walk_at "xc";refine wpAny_isTrue_Compare1 (cJ (f pins s σ H _ I h) λv j ⟨x,k,l,m,n⟩=>cJ (g pins j σ k _ l n) λu f ⟨y,o,p,q,r⟩=>
  cJ (d pins f σ o x y v u _ p m q r) λc g ⟨z,t,w,A,k,e,B⟩=>?_) i
 subst e
 cases A;calc aaI ⟨t,w,B⟩
def yR(r b:R2)(ta tb tc:TE):TE:=λσ H Q=>ta σ H λx a=>tb σ a λy c=>r x y c λz a=>∃k,z=.bl k/\
 (if k=true then tc σ a λw' c=>b y w' c Q else Q (.bl false) a)
theorem wC{d:CmpOp}{r f:R2}(m:gJ X (compareOp op) r)(n:gJ X (compareOp d) f)(o:PE X a ta)(p:PE X b tb)(q:PE X c tc)
  (t:lastMarks [op,d] [b,c]=false:=by with_unfolding_all rfl):PE X (.Compare a [op,d] [b,c] pos) (yR r f ta tb tc):=by
 walk_at "xc";refine Compare_chain (cJ (o pins s σ H _ I h) λv d ⟨x,f,r,w,z⟩=>chain_link (cJ (p pins d σ f _ r z) λu o ⟨y,A,B,g,C⟩=>
  cJ (m pins o σ A x y v u _ B w g C) λd D ⟨z,i,j,E,k,e,l⟩=>?_)) t
 subst e
 cases E;refine aaI ?_
 cases k with
 |false=>calc ite_ff ⟨.bl false,i,j,rfl,l⟩
 |true=>calc ite_tt (chain_last (cJ (q pins D σ i _ j l) λd e ⟨f,k,m,o,p⟩=>n pins e σ k y f u d Q m g o p))
def Y4(K:W.Frag)(x:V)(H:Hp)(k:Bool):Prop:=
 match x with
 | .bD=>k=false
 | .bl b=>k=b
 | .int i=>k=(i !=0)
 | .str y=>y.length<=sizeLine/\k=((y.length:Int) !=0)
 | .yx y=>y.size<=sizeLine/\k=((y.size:Int) !=0)
 | .ref p=>(∃xs,aR K H p xs/\k= !xs.isEmpty)\/(∃xs,bM K H p xs/\k= !xs.isEmpty)\/∃a,H p=some (.dK a)/\k= !a.isEmpty
 |_=>False
theorem yS{κ:Type}{a:List (κ×V)}{vs:List (κ×Value)}(r:KV a vs):(!vs.isEmpty)= !a.isEmpty:=by
 cases r<;>rfl
theorem qY{xs:List V}{a:List Value}(r:Vals xs a):(!a.toArray.isEmpty)= !xs.isEmpty:=by
 cases r<;>simp
theorem oF:(sizeLine:Nat)<2^63:=by rw[sizeLine_eq];decide
theorem Y5:Y1 X (λx H Q=>∃k,Y4 X.K x H k/\Q k H):=by
 intro m s σ H x v Q I f h;obtain⟨k,e,q⟩:=h;have m:=oF;have h:sizeLine=16777216:=sizeLine_eq
 cases x with
 |bD=>
  cases f;have a:k=false:=e;subst a;calc truthy_none ⟨H,I,q⟩
 |bl b=>
  cases f;have a:k=b:=e;subst a;calc aaI ⟨H,I,q⟩
 |int i=>
  obtain⟨t,rfl⟩:=f;have a:k=(i !=0):=e;subst a;calc PySem.P.truthy_int ⟨H,I,q⟩
 |str y=>
  obtain⟨t,rfl⟩:=f;obtain⟨o,a⟩:y.length<=sizeLine/\k=((y.length:Int) !=0):=e;subst a;calc PySem.P.truthy_str (by lia) ⟨H,I.tok _,q⟩
 |yx y=>
  obtain⟨t,rfl⟩:=f;obtain⟨o,a⟩:y.size<=sizeLine/\k=((y.size:Int) !=0):=e;subst a;calc W.truthy_bytes (by lia) ⟨H,I.tok _,q⟩
 |ref p=>
  cases f;have a:(∃d,aR X.K H p d/\k= !d.isEmpty)\/(∃d,bM X.K H p d/\k= !d.isEmpty)\/∃g,H p=some (.dK g)/\k= !g.isEmpty:=e;rcases a with⟨d,j,a⟩|⟨d,j,a⟩|⟨g,j,a⟩
  ·subst a;obtain⟨u,r,l,n⟩:=I.list j;have c:=r.length;exact wpAny_truthy_list l.isList (by simp only[List.size_toArray];lia) ⟨H,I.tok _,by rw[qY r];calc q⟩
  ·subst a;obtain⟨u,r,l,n⟩:=I.tuple j;have c:=r.length;exact truthy_tuple l (by simp only[List.size_toArray];lia) ⟨H,I.tok _,by rw[qY r];calc q⟩
  ·subst a;obtain⟨n,f,d,r,m⟩:g.length<=sizeLine/\(p==sysModules)=false/\∃d,KV g d/\s.heap.DictOf (cX X.prog X.w) p d:=I.aW p _ j;have c:g.length=d.length:=Paired.length r;calc wpAny_truthy_dict f m (by lia) ⟨H,I.tok _,by rw[yS r];calc q⟩
 |_=>calc(show False from e).elim
theorem yT:gJ X (binaryOp .Add) (λx y H Q=>∃i j,x=.str i/\y=.str j/\i.length+j.length<=sizeLine/\Q (.str (i++j)) H):=by
 intro a s σ H x y v u Q I b c h;obtain⟨i,j,rfl,rfl,d,q⟩:=h;obtain⟨t,rfl⟩:=b;obtain⟨e,rfl⟩:=c;calc add_str (λe a=>⟨.str (i++j),H,I.tok _,⟨_,rfl⟩,q⟩) d
theorem vals1{x:V}{us:List Value}(r:Vals [x] us):∃u,us=[u]/\RelV x u:=by
 cases r with
 |cons a b=>cases b;calc⟨_,rfl,a⟩
theorem vals2{x y:V}{us:List Value}(r:Vals [x,y] us):∃u w',us=[u,w']/\RelV x u/\RelV y w':=by
 cases r with
 |cons a b=>
  cases b with
  |cons c d=>cases d;calc⟨_,_,rfl,a,c⟩
theorem Ci(b:X.calm=true):eX X (.builtin "max") (λxs H Q=>∃i j,xs=[.int i,.int j]/\Q (.int (if j > i then j else i)) H):=by
 intro a s σ H xs c Q I r h;obtain⟨i,j,rfl,q⟩:=h;obtain⟨u,d,rfl,⟨t,rfl⟩,⟨e,rfl⟩⟩:=vals2 r;refine max_two_ints (I.ok.hd b) λa c k=>⟨_,H,I.kept k,?_,q⟩
 by_cases a:j > i
 ·rw[if_pos a,if_pos a];exact⟨_,rfl⟩
 ·rw[if_neg a,if_neg a];calc⟨_,rfl⟩
theorem Cj:eX X (.type "int") (λxs H Q=>(∃i,xs=[.int i]/\Q (.int i) H)\/∃k,xs=[.bl k]/\Q (.int (if k then 1 else 0)) H):=by
 intro a s σ H xs c Q I r h;rcases h with⟨i,rfl,q⟩|⟨k,rfl,q⟩
 ·obtain⟨u,rfl,t,rfl⟩:=vals1 r;exact call_int_int ⟨.int i,H,I,⟨_,rfl⟩,q⟩
 ·obtain⟨u,rfl,b⟩:=vals1 r
  cases b;calc call_int_bool ⟨.int (if k then 1 else 0),H,I.tok _,⟨_,rfl⟩,q⟩
def EN(K:W.Frag)(x:V)(H:Hp)(n:Nat):Prop:=
 match x with
 | .str y=>y.length<=sizeLine/\n=y.length
 | .yx y=>y.size<=sizeLine/\n=y.size
 | .ref p=>(∃xs,aR K H p xs/\n=xs.length)\/∃xs,bM K H p xs/\n=xs.length
 |_=>False
theorem EO:eX X (.builtin "len") (λxs H Q=>∃x n,xs=[x]/\EN X.K x H n/\Q (.int n) H):=by
 intro i s σ H xs m Q I r h;obtain⟨x,n,rfl,e,q⟩:=h;obtain⟨u,rfl,c⟩:=vals1 r;have h:=oF;have h:sizeLine=16777216:=sizeLine_eq
 cases x with
 |str y=>
  obtain⟨t,rfl⟩:=c;obtain⟨j,b⟩:y.length<=sizeLine/\n=y.length:=e;subst b;calc len_str (by lia) ⟨.int _,H,I.tok _,⟨_,rfl⟩,q⟩
 |yx y=>
  obtain⟨t,rfl⟩:=c;obtain⟨j,b⟩:y.size<=sizeLine/\n=y.size:=e;subst b;calc W.len_bytes (by lia) ⟨.int _,H,I.tok _,⟨_,rfl⟩,q⟩
 |ref p=>
  cases c;have b:(∃xs,aR X.K H p xs/\n=xs.length)\/∃xs,bM X.K H p xs/\n=xs.length:=e;rcases b with⟨xs,d,b⟩|⟨xs,d,b⟩
  ·subst b;obtain⟨k,f,g,l⟩:=I.list d;have a:=f.length;exact Calls.call_len_list g.isList (by simp only[List.size_toArray];lia) ⟨.int xs.length,H,I.tok _,⟨_,by simp only[List.size_toArray];rw[a]⟩,q⟩
  ·subst b;obtain⟨k,f,g,l⟩:=I.tuple d;have a:=f.length;calc len_tuple g (by simp only[List.size_toArray];lia) ⟨.int xs.length,H,I.tok _,⟨_,by simp only[List.size_toArray];rw[a]⟩,q⟩
 |_=>calc(show False from e).elim
end
end
section
variable {C:Addr}{mA:Str->Option Value}{Q:Value->Shared->Prop}
structure yU(h:Heap)(x dx C:Addr)(mA:Str->Option Value):Prop where
 obj:h.get? x=some (W.instObj C dx)
 ns:h.Ns1 dx mA
 ne:dx≠x
theorem tS{h:Heap}{b:Addr}(n:h.Ns1 b mA):∃od,h.get? b=some od/\∀name,W.lookIn name od=some (mA name):=by
 obtain⟨o,c,m,d,f,g,_,i⟩:=n;calc⟨o,d,λname=>?_⟩;have e:=i name;unfold nsFind findBy at e;rw[<-Array.find?_toList]at e;unfold W.lookIn;rw[f];dsimp only;split
 ·rename_i y q;rw[q]at e;exact congrArg some e
 ·rename_i q;rw[q]at e;have a:c.toList.any (·.refKey)=false:=by
   rw[List.any_eq_false];intro y j;obtain⟨z,t,k⟩:=g y (Array.mem_toList_iff.mp j);simp[DictEntry.refKey,k]
  have l:¬c.toList.any (·.refKey)=true:=by rw[a];exact V'
  rw[if_neg l];calc congrArg some e
theorem yU.look{h:Heap}{x a:Addr}(I:yU h x a C mA):∃od,W.InstAt h x (W.instObj C a) C (some od)/\∀name,W.lookIn name od=some (mA name):=
 let ⟨od,a,b⟩:=tS I.ns
 ⟨od,⟨I.obj,rfl,rfl,a⟩,b⟩
section
variable {prog:Program}{w:World}{A:Around}{E:Value->Shared->Prop}{s:Shared}{K:W.Frag}{x dx C f:Addr}{mA:Str->Option Value}{name:Str}{v:Value}
theorem get_map{a:Bool}(X:K.In s.heap)(I:yU s.heap x dx C mA)(b:W.plainGet K C name=true)(c:W.hasDictIn K C=true)
  (d:W.findIn K (.ref C) name=some none) (e:mA name=some v) (f:W.handedIn v=true) (h:Q v {s with toks:=s.toks+1}):
  wpAny (model prog w) A (getAttr (.ref x) name a) Q E s:=by
 obtain⟨g,J,a⟩:=I.look;calc W.get_value X J (W.plainGet_of b).1 (W.findObj_own c d rfl (by rw[a,e])) f h
theorem ER{pl:Sem Bool}{Q:Value×List Value->Shared->Prop}(X:K.In s.heap)(I:yU s.heap x dx C mA)(a:W.plainGet K C name=true)
  (b:W.findIn K (.ref C) name=some (some (.ref f))) (c:W.isFn K (.ref f)=true) (d:mA name=none) (h:Q (.ref f,[.ref x]) s):
  wpAny (model prog w) A (getMethod (.ref x) name pl) Q E s:=by
 obtain⟨e,J,g⟩:=I.look;calc W.method_fn X J (W.plainGet_of a).1 (W.plainGet_of a).2 b (beq_iff_eq.mp c) (by show(W.lookIn name e).map (·.isSome)=some false;rw[g,d];rfl) h
theorem JN{ns:List Str}{Q:Unit->Shared->Prop}(X:K.In s.heap)(I:yU s.heap x dx C mA)
  (b:W.findIn K (.ref C) "__setattr__"=some (some (.builtin "object.__setattr__"))) (c:W.plainOver K C=true) (d:W.takerIn K C name=some none) (e:W.hasDictIn K C=true)
  (g:PySem.Within mA ns) (hsz:ns.length<=sizeLine)
  (h:∀h',yU h' x dx C (λy=>if y=name then some v else mA y)->Heap.SameBut dx s.heap h'->Q () {s with heap:=h',toks:=s.toks+2}):
  wpAny (model prog w) A (setAttr (.ref x) name v) Q E s:=by
 obtain⟨i,J,j⟩:=I.look;calc W.set_plain X J b (W.osa_open (s:={s with toks:=s.toks+1}) (r:=none) X J c d λb=>?_);obtain⟨d,b,c⟩:=W.any_some e;have d:s.heap.get? x=some ⟨.ref C,some dx,.plain,#[]⟩:=I.obj;calc J' (R' (J' (J' (wpAny_loadPart d (J' (W.Looks.here (s:={s with toks:=s.toks+1}) (W.looks_clsIn X b) ?_))))));rw[c];calc R' (a:=some dx) (J' (R' (J' ?_)));calc wpAny_nsSet1 (s:={s with toks:=s.toks+1}) I.ns λh' b c=>?_;obtain⟨l,d,e,i,j,k⟩:=b.count (PySem.Within.cons name v g);calc J' (wpAny_lookBehind i (by rw[j];calc pastItsLine_dict (aap k (by rw[List.length_cons];lia))) ?_);calc R' (h _ ⟨(c.2 _ (Ne.symm I.ne)).trans I.obj,b,I.ne⟩ c)
theorem ES{R:Result->Shared->Prop}{vs:List Value}{a:List (Str×Value)}(X:K.In s.heap)(b:W.makesIn K C=true)
  (c:W.findIn K (.ref C) "__init__"=some (some (.ref f))) (e:W.typeIn K (.ref f)=some (.type "function"))
  (h:codeAny (model prog w) (A.under (.builtin "type.__call__" ⟨.ref C::vs,a⟩)) (.call (.ref f) ⟨.ref (s.heap.objs.size + 1)::vs,a⟩) (W.InitBack (s.heap.objs.size + 1) R)
   {s with heap:=(s.heap.push W.emptyDict).push (W.instObj C s.heap.objs.size)}):
  codeAny (model prog w) A (.call (.ref C) ⟨vs,a⟩) R s:=by
 obtain⟨a,g,d,t,i⟩:=s;calc W.make_core (W.makes_of X b) (W.looks_findIn X c) (λa=>W.bind_fn X a e) (.inl rfl) h
end
def bf(f:Str)(v:V):List (Str×V)->List (Str×V)
 | []=>[(f,v)]
 |(g,x)::r=>if g=f then(g,v)::r else(g,x)::bf f v r
theorem bu(f g:Str)(v:V):∀a:List (Str×V),(bf f v a).lookup g=if g=f then some v else a.lookup g
 | []=>by
  show List.lookup g [(f,v)]=_;by_cases h:g=f
  ·have a:(g==f)=true:=beq_iff_eq.mpr h;simp only[List.lookup,a,if_pos h]
  ·have a:(g==f)=false:=beq_eq_false_iff_ne.mpr h;simp only[List.lookup,a,if_neg h]
 |(k,x)::r=>by
  have c:=bu f g v r;rw[show bf f v ((k,x)::r)=(if k=f then(k,v)::r else(k,x)::bf f v r) from rfl];by_cases b:k=f
  ·rw[if_pos b];by_cases h:g=k
   ·have a:(g==k)=true:=beq_iff_eq.mpr h;simp only[List.lookup,a,if_pos (h.trans b)]
   ·have a:(g==k)=false:=beq_eq_false_iff_ne.mpr h;simp only[List.lookup,a,if_neg (λe:g=f=>h (e.trans b.symm))]
  ·rw[if_neg b];by_cases h:g=k
   ·have a:(g==k)=true:=beq_iff_eq.mpr h;simp only[List.lookup,a,if_neg (λe:g=f=>b (h.symm.trans e))]
   ·have a:(g==k)=false:=beq_eq_false_iff_ne.mpr h;simp only[List.lookup,a];calc c
theorem oG(f:Str)(v:V):∀a:List (Str×V),f∈(bf f v a).map (·.1)/\∀g,g∈a.map (·.1)->g∈(bf f v a).map (·.1)
 | []=>⟨by simp[bf],λg h=>by simp at h⟩
 |(k,x)::r=>by
  obtain⟨c,d⟩:=oG f v r;rw[show bf f v ((k,x)::r)=(if k=f then(k,v)::r else(k,x)::bf f v r) from rfl];by_cases b:k=f
  ·rw[if_pos b];subst b;exact⟨by simp,λg h=>by simpa using h⟩
  ·rw[if_neg b];refine⟨?_,λg h=>?_⟩
   ·rw[List.map_cons];exact aay _ c
   ·rw[List.map_cons] at h ⊢;rcases List.mem_cons.mp h with e | e
    ·exact List.mem_cons.mpr (.inl e)
    ·calc aay _ (d g e)
theorem kj(f:Str)(v:V):∀a:List (Str×V),(bf f v a).length<=a.length+1
 | []=>by simp[bf]
 |(k,x)::r=>by
  have a:=kj f v r;rw[show bf f v ((k,x)::r)=(if k=f then(k,v)::r else(k,x)::bf f v r) from rfl];by_cases a:k=f
  ·rw[if_pos a,List.length_cons,List.length_cons];lia
  ·rw[if_neg a,List.length_cons,List.length_cons];lia
theorem iR.some_of{v:V}{o:Option Value}(r:iR (some v) o):∃u,o=some u/\RelV v u:=by
 cases o with
 |none=>calc(show False from r).elim
 |some u=>calc⟨u,rfl,r⟩
theorem iR.none_of{o:Option Value}(r:iR none o):o=none:=by
 cases o with
 |none=>rfl
 |some u=>calc(show False from r).elim
theorem tU{v:V}{u:Value}(r:RelV v u):W.handedIn u=true:=by
 cases v with
 |bD=>cases(show u=Value.none from r);rfl
 |bl b=>cases(show u=Value.bool b from r);rfl
 |int i=>obtain⟨t,e⟩:=(show ∃t,u=Value.int i t from r);cases e;rfl
 |str x=>obtain⟨t,e⟩:=(show ∃t,u=Value.str x t from r);cases e;rfl
 |yx b=>obtain⟨t,e⟩:=(show ∃t,u=Value.bytes b t from r);cases e;rfl
 |LP b=>obtain⟨t,e⟩:=(show ∃t,u=Value.float b t from r);cases e;rfl
 |ref a=>cases(show u=Value.ref a from r);rfl
 |ty n=>cases(show u=Value.type n from r);rfl
section
variable {P:Program}{w:World}{H H':Hp}{h h':Heap}{a C dx:Addr}{fs yz:List (Str×V)}
theorem nr(b:lN P w H h)(e:H a=some (.ins C dx fs)):∃mA,yU h a dx C mA/\(∀f,iR (fs.lookup f) (mA f))/\PySem.Within mA (fs.map (·.1))/\fs.length<=1000/\H dx=some (.own a):=by
 obtain⟨d,z,c,f,mA,n,r,q⟩:=(show cC P w H h a (.ins C dx fs) from b a _ e)
 calc⟨mA,⟨f,n,c⟩,r,q,z,d⟩
end
structure sL(K:W.Frag)(C:Addr):Prop where
 pg:W.plainGet K C Str.empty=true
 hd:W.hasDictIn K C=true
 po:W.plainOver K C=true
 sa:W.findIn K (.ref C) "__setattr__"=some (some (.builtin "object.__setattr__"))
theorem sL.get{K:W.Frag}(c:sL K C)(f:Str):W.plainGet K C f=true:=c.pg
def bJ(K:W.Frag)(C:Addr)(f:Str):Prop:=W.findIn K (.ref C) f=some none
theorem bJ.SJ{K:W.Frag}{f:Str}(n:bJ K C f):W.takerIn K C f=some none:=by
 unfold W.takerIn;rw[show W.findIn K (.ref C) f=some none from n];rfl
structure Meth(K:W.Frag)(C:Addr)(m:Str)(f:Addr):Prop where
 at_:W.findIn K (.ref C) m=some (some (.ref f))
 fn:W.isFn K (.ref f)=true
 kp:W.keepIn K (.ref f)=true
section
variable {X:Cx}{pins:List (Addr×Obj)}{σ:St}{H:Hp}{s:Shared}{a C dx:Addr}{fs:List (Str×V)}{f:Str}{v:V}{A:Around}{E:Value->Shared->Prop}
theorem yV{b:Bool}(I:Inv X pins σ H s)(e:H a=some (.ins C dx fs))(c:sL X.K C)(n:bJ X.K C f)(l:fs.lookup f=some v)
  (h:∀u s',Inv X pins σ H s'->RelV v u->Q u s'):wpAny (model X.prog X.w) A (getAttr (.ref a) f b) Q E s:=by
 obtain⟨mA,O,r,_,_,_⟩:=nr I.aW e;obtain⟨u,d,b⟩:=iR.some_of (v:=v) (o:=mA f) (by rw[<-l];calc r f);calc get_map I.gG O (c.get f) c.hd n d (tU b) (h u _ (I.tok _) b)
theorem jN{m:Str}{g:Addr}{pl:Sem Bool}{Q:Value×List Value->Shared->Prop}(I:Inv X pins σ H s)(e:H a=some (.ins C dx fs))(c:sL X.K C)(k:Meth X.K C m g)(l:fs.lookup m=none)
  (h:Q (.ref g,[.ref a]) s):wpAny (model X.prog X.w) A (getMethod (.ref a) m pl) Q E s:=by
 obtain⟨mA,O,r,_,_,_⟩:=nr I.aW e;have b:mA m=none:=iR.none_of (by rw[<-l];calc r m);calc ER I.gG O (c.get m) k.at_ k.fn b h
theorem yW{y:V}{u:Value}{Q:Unit->Shared->Prop}(I:Inv X pins σ H s)(e:H a=some (.ins C dx fs))(c:sL X.K C)(n:bJ X.K C f)(b:fs.length<1000)(k:RelV y u)
  (h:∀s',Inv X pins σ (upd H a (.ins C dx (bf f y fs))) s'->Q () s'):wpAny (model X.prog X.w) A (setAttr (.ref a) f u) Q E s:=by
 obtain⟨mA,O,r,i,_,j⟩:=nr I.aW e;have b:(fs.map (·.1)).length<=sizeLine:=by rw[List.length_map,sizeLine_eq];lia
 calc JN I.gG O c.sa c.po n.SJ c.hd i b λg d l=>h _ ?_;have hd:∃o,g.get? dx=some o:=let ⟨o,_,_,b,_⟩:=d.ns;⟨o,b⟩
 calc I.write (x:=a) (e:=dx) (by rw[e];calc aaw) (.inr j) (λb q c z=>(l.2 b c).trans z) hd ?_;refine⟨by rw[ay O.ne];calc j,?_,O.ne,d.obj,_,d.ns,λg=>?_,λg b=>?_⟩
 ·have:=kj f y fs;lia
 ·show iR ((bf f y fs).lookup g) (if g=f then some u else mA g);rw[bu];by_cases q:g=f
  ·rw[if_pos q,if_pos q];exact k
  ·rw[if_neg q,if_neg q];exact r g
 ·by_cases q:g=f
  ·rw[q];exact(oG f y fs).1
  ·calc(oG f y fs).2 g (i g λz=>b ?_);show(if g=f then some u else mA g)=none;rw[if_neg q];calc z
theorem Inv.made(I:Inv X pins σ H s):Inv X pins σ (upd (upd H s.heap.objs.size (.own (s.heap.objs.size+1))) (s.heap.objs.size+1) (.ins C s.heap.objs.size []))
  {s with heap:=(s.heap.push W.emptyDict).push (W.instObj C s.heap.objs.size)}:=by
 have c:(s.heap.push W.emptyDict).get? s.heap.objs.size=some W.emptyDict:=W' s.heap rfl;have d:((s.heap.push W.emptyDict).push (W.instObj C s.heap.objs.size)).get? (s.heap.objs.size+1)=some (W.instObj C s.heap.objs.size):=by
  have:=W' (s.heap.push W.emptyDict) (o:=W.instObj C s.heap.objs.size) rfl;rwa [Heap.size_push]at this
 have f:(s.heap.push W.emptyDict).Ns s.heap.objs.size (λ_=>none):=⟨W.emptyDict,#[],_,c,rfl,(λe b=>absurd b (by simp)),λ_=>rfl⟩
 have e:=I.laid (a:=s.heap.objs.size) (o:=.own (s.heap.objs.size+1)) (h':=s.heap.push W.emptyDict) (t':=s.toks) (λb u q=>K' _ q) (L' _) ⟨_,c⟩;calc e.laid (a:=s.heap.objs.size+1) (o:=.ins C s.heap.objs.size []) (t':=s.toks) (λb u q=>K' _ q) (Nat.le_of_eq (Heap.size_push _ _)) ?_;have b:s.heap.objs.size≠s.heap.objs.size+1:=X' (Nat.lt_succ_self _);calc⟨by rw[ay b,af],aav _,b,d,λ_=>none,(Heap.Ns1.of_empty f).at λo q=>K' _ q,λ_=>aaw,λy b=>absurd rfl b⟩
theorem AM{prog:Program}{w:World}{env:Env}{e:Expr}{f:Str}{b:Pos}{s:Shared}(c:attributeBase e f env (eval e env)=eval e env)
  (h:wpAny (model prog w) A (eval e env) (λo a=>wpAny (model prog w) A (getAttr o f true) Q E a) E s):wpAny (model prog w) A (eval (.Attribute e f b) env) Q E s:=
 Attribute_any_ h (by rw[arm_eval_Attribute,c])
end
def JO(K:W.Frag)(a:TE)(f:Str):TE:=λσ H Q=>a σ H λx b=>∃a C d c v,x=.ref a/\b a=some (.ins C d c)/\sL K C/\bJ K C f/\c.lookup f=some v/\Q v b
def Oq(K:W.Frag)(a b:TE)(f:Str):TS:=λD σ H=>b σ H λy d=>a σ d λx c=>∃a C d b,x=.ref a/\c a=some (.ins C d b)/\sL K C/\bJ K C f/\b.length<1000/\
 D.nx σ (upd c a (.ins C d (bf f y b)))
section
variable {X:Cx}{o e value:Expr}{f:Str}{pos pos' JP:Pos}{ta tv:TE}
theorem bP(b:PE X e ta)(d:attributeBase e f X.env (eval e X.env)=eval e X.env):PE X (.Attribute e f pos) (JO X.K ta f):=by
 walk_at "xc";refine AM d (cJ (b pins s σ H _ I h) λu p g=>?_);nofun;obtain⟨x,i,j,k,a,C,b,d,v,m,o,c,n,l,q⟩:=g;ac_rfl;subst m;obtain rfl:u=Value.ref a:=k;exact yV j o c n l λd g a b=>⟨v,i,a,b,q⟩
theorem fJ(b:PE X o ta)(d:PE X value tv)(e:swapsWith value (some (.Attribute o f pos')) pos.line X.env=pure false):PS X (.Assign [.Attribute o f pos'] value pos) (Oq X.K ta tv f):=by
 walk_at "xd";refine plainObj_wpAny_Assign_Attribute (cJ (d pins s σ H _ I h) λu g ⟨y,i,j,k,q⟩=>cJ (b pins g σ i _ j q) λm d p=>?_) e;nofun;obtain⟨x,b,r,t,a,C,d,g,v,w,c,n,l,z⟩:=p;ac_rfl;subst v;obtain rfl:m=Value.ref a:=t;exact yW r w c n l k λb a=>⟨σ,_,a,z⟩
theorem L4{pl:Sem Bool}{m:Str}{b:Pos}{args:List Expr}{pins:List (Addr×Obj)}{s:Shared}{σ:St}{H:Hp}{g:TE}(r:PE X e g)(I:Inv X pins σ H s)
  (h:g σ H λx i=>∃a C n j g,x=.ref a/\i a=some (.ins C n j)/\sL X.K C/\Meth X.K C m g/\j.lookup m=none/\
   ∀d,Inv X pins σ i d->wpAny (model X.prog X.w) X.A (callWith pos (.ref g) [.ref a] (backTo pos (starEach args X.env)) (backToKw pos (keywordEach [] X.env))) Q X.xe d)
  (t:eval (.Call (.Attribute e m b) args [] pos) X.env=(do
   let o <-eval e X.env
   standAt b.atName
   let (f,first) <-holding [o] (getMethod o m pl)
   callWith pos f first (backTo pos (starEach args X.env)) (backToKw pos (keywordEach [] X.env)))):
  wpAny (model X.prog X.w) X.A (eval (.Call (.Attribute e m b) args [] pos) X.env) Q X.xe s:=by
 calc W.methodCall_KW (pl:=pl) (cJ (r pins s σ H _ I h) λu d v=>?_) t;nofun;obtain⟨x,i,p,y,a,C,n,j,g,z,B,c,k,l,q⟩:=v;ac_rfl;subst z;obtain rfl:u=Value.ref a:=y;calc jN p B c k l (q d p)
end
section
variable {X:Cx}{pins:List (Addr×Obj)}{σ:St}{H:Hp}{s:Shared}{A:Around}{E:Value->Shared->Prop}{Q:Value->Shared->Prop}{c:Value}{b:Bool}
inductive gb(K:W.Frag)(H:Hp):V->Value->Prop where
  |bD:gb K H .bD (.type "NoneType")
  |bl (x:Bool):gb K H (.bl x) (.type "bool")
  |int (i:Int):gb K H (.int i) (.type "int")
  |str (x:Str):gb K H (.str x) (.type "str")
  |LP (x:UInt64):gb K H (.LP x) (.type "float")
  |lst {a:Addr} {xs:List V} (e:H a=some (.lst xs)):gb K H (.ref a) (.type "list")
  |yy {a:Addr} {o:Obj} {xs:List V} (e:H a=some (.yy o (.lst xs))):gb K H (.ref a) (.type "list")
  |tup {a:Addr} {xs:List V} (e:H a=some (.tup xs)):gb K H (.ref a) (.type "tuple")
  |dK {a:Addr} {aQ:List (Key×V)} (e:H a=some (.dK aQ)):gb K H (.ref a) (.type "dict")
  |dT {a:Addr} {aQ:List (List Key×V)} (e:H a=some (.dT aQ)):gb K H (.ref a) (.type "dict")
  | ins {a C dx:Addr} {fs:List (Str×V)} (e:H a=some (.ins C dx fs)) (cl:sL K C) (ha:W.findIn K (.ref C) "__class__"=some (some (.builtin "object.__class__")))
      (hn:W.specialIn K (.builtin "object.__class__") "__get__"=some (some (.builtin "getset_descriptor.__get__"))) (Xi:W.takesIn K (.builtin "object.__class__")=some true)
      (hm:W.mroIn K C (.type "object")=some true):gb K H (.ref a) (.ref C)
theorem tW{x:V}{u t:Value}(I:Inv X pins σ H s)(d:RelV x u)(r:gb X.K H x t)(e:W.kitOne X.K t c=some b)(h:∀v,Q (.bool b) {s with toks:=v}):
  wpAny (model X.prog X.w) A (call (.builtin "isinstance") [u,c]) Q E s:=by
 cases r with
 |bD=>cases(show u=Value.none from d);calc W.kia_one W.kitx_none I.gG aaw e (λz=>nomatch z) h
 |bl y=>cases(show u=Value.bool y from d);calc W.kia_one W.kitx_bool I.gG aaw e (λz=>nomatch z) h
 |int i=>obtain⟨t,q⟩:=(show ∃t,u=Value.int i t from d);cases q;calc W.kia_one W.kitx_int I.gG aaw e (λz=>nomatch z) h
 |str y=>obtain⟨t,q⟩:=(show ∃t,u=Value.str y t from d);cases q;calc W.kia_one W.kitx_str I.gG aaw e (λz=>nomatch z) h
 |LP y=>obtain⟨t,q⟩:=(show ∃t,u=Value.float y t from d);cases q;calc W.kia_one W.kitx_float I.gG aaw e (λz=>nomatch z) h
 | @lst a j f=>
  cases(show u=Value.ref a from d);obtain⟨_,_,n,_,g⟩:=(show cC X.prog X.w H s.heap a (.lst j) from I.aW a _ f)
  calc W.kia_one W.kitx_list I.gG ⟨_,g,rfl⟩ e (λz=>nomatch z) h
 | @yy a B j f=>
  cases(show u=Value.ref a from d);obtain⟨_,_,_,n,_,g⟩:=(show cC X.prog X.w H s.heap a (.yy B (.lst j)) from I.aW a _ f)
  calc W.kia_one W.kitx_list I.gG ⟨_,g,rfl⟩ e (λz=>nomatch z) h
 | @tup a j f=>
  cases(show u=Value.ref a from d);obtain⟨_,_,_,p⟩:=(show cC X.prog X.w H s.heap a (.tup j) from I.aW a _ f)
  obtain⟨o,g,k,_⟩:=p;calc W.kia_one W.kitx_tuple I.gG ⟨o,g,k⟩ e (λz=>nomatch z) h
 | @dK a l f=>
  cases(show u=Value.ref a from d);obtain⟨_,_,i,_,p⟩:=(show cC X.prog X.w H s.heap a (.dK l) from I.aW a _ f)
  obtain⟨o,D,F,g,k,_⟩:=p;calc W.kia_one W.kitx_dict I.gG ⟨o,g,k.1⟩ e (λz=>nomatch z) h
 | @dT a l f=>
  cases(show u=Value.ref a from d);obtain⟨_,_,j,_,o,D,F,g,k,_⟩:=(show cC X.prog X.w H s.heap a (.dT l) from I.aW a _ f)
  calc W.kia_one W.kitx_dict I.gG ⟨o,g,k.1⟩ e (λz=>nomatch z) h
 | @ins a C g i f m G L M N=>
  cases(show u=Value.ref a from d);obtain⟨mA,O,_⟩:=nr I.aW f;obtain⟨a,J,_⟩:=O.look;calc W.kia_one (W.kitx_own (m.get _) m.hd G L M N) I.gG J e (λz=>nomatch z) h
end
end
section
variable {A:Around}{H:Hp}{kw:List (Str×Value)}{us:List Value}{s:Shared}{mg:Str->Option Value}{K:W.Frag}
structure dA(k:Nat)(A:Around):Prop where
 hd:A.handled=none
 dp:A.depth+3*k+5<recursionLimit
 un:A.units+16*k+200<cLine
theorem dA.mono{j k:Nat}(r:dA k A)(h:j<=k):dA j A:=⟨r.hd,by have:=r.dp;lia,by have:=r.un;lia⟩
theorem dA.deeper{k:Nat}(r:dA (k+1) A)(env:Env):dA k (A.deeper env):=
 ⟨r.hd,by have:=r.dp;show A.depth+1+3*k+5<_;lia,by have:=r.un;show A.units+3+16*k+200<_;lia⟩
theorem yX{C:Addr}:(A.under (.builtin "type.__call__" ⟨.ref C::us,kw⟩)).depth=A.depth+1:=by
 first|rfl|simp[Around.under,Code.weight,Code.isCreation,Code.isGuard,Code.isCaller,Code.frames,Code.isFrame,guardIds]
theorem yY{C:Addr}:(A.under (.builtin "type.__call__" ⟨.ref C::us,kw⟩)).units=A.units+1:=by
 first|rfl|simp[Around.under,Code.cUnits,Code.frames,Code.isFrame]
theorem dA.make{k:Nat}(r:dA (k+1) A)(C:Addr)(us:List Value)(kw:List (Str×Value)):dA k (A.under (.builtin "type.__call__" ⟨.ref C::us,kw⟩)):=
 ⟨r.hd,by have:=r.dp;rw[yX];lia,by have:=r.un;rw[yY];lia⟩
theorem dA.depth{k:Nat}(r:dA k A):A.depth<recursionLimit:=by have:=r.dp;lia
theorem dA.units{k:Nat}(r:dA k A):A.units+64<cLine:=by have:=r.un;lia
def Ck:TA:=λ_ H Q=>Q [] H
def wD(a:TE)(b:TA):TA:=λσ H Q=>a σ H λx c=>b σ c λxs a=>Q (x::xs) a
section
variable {X:Cx}{e:Expr}{es:List Expr}{te:TE}{t:TA}{pos:Pos}
theorem aa:PA X [] Ck:=.mk λ_ _ _ _ H Q I h=>Calls.spliced_nil ⟨[],H,I,.nil,h⟩
theorem JQ(b:PE X e te)(c:PA X es t)(d:starEach (e::es) X.env=(false,eval e X.env)::starEach es X.env:=by rfl):PA X (e::es) (wD te t):=by
 calc⟨?_⟩;intro pos a s σ H Q I h;rw[d];show wpAny _ _ (spliced ((false,eval e X.env)::backTo pos (starEach es X.env))) _ _ s;calc Calls.spliced_cons (cJ (b a s σ H _ I h) λu f g=>?_);nofun;obtain⟨x,b,d,h,i⟩:=g;ac_rfl;calc cJ (c pos a f σ b _ d i) λus o ⟨j,k,l,m,n⟩=>⟨x::j,k,l,.cons h m,n⟩
def Ot(t:TA):TE:=λσ H Q=>t σ H λxs a=>xs.length<=sizeLine/\∀p,a p=none->Q (.ref p) (upd a p (.tup xs))
def Ou(t:TA):TE:=λσ H Q=>t σ H λxs a=>xs.length<=sizeLine/\∀p,a p=none->Q (.ref p) (upd a p (.lst xs))
theorem bQ{a}(h:PA X es t):PE X (.Tuple es a pos) (Ot t):=by
 calc⟨?_⟩;intro a s σ H Q I f;calc wpAny_Tuple_spliced (cJ (h pos a s σ H _ I f) λus c ⟨g,b,d,r,z,q⟩=>⟨by rw[<-r.length];calc z,?_⟩);have a:b c.heap.objs.size=none:=d.aW.fresh (L' _);calc⟨.ref c.heap.objs.size,upd b c.heap.objs.size (.tup g),d.laid (t':=c.toks) (λb u e=>K' _ e) (L' _) ?_,rfl,q _ a⟩;calc⟨z,us,r,⟨_,W' _ rfl,rfl,_,rfl⟩⟩
theorem bR(h:PA X es t):PE X (.List es pos) (Ou t):=by
 calc⟨?_⟩;intro a s σ H Q I f;calc wpAny_List_spliced (cJ (h pos a s σ H _ I f) λus c ⟨g,b,d,r,z,q⟩=>⟨by rw[<-r.length];calc z,?_⟩);have a:b c.heap.objs.size=none:=d.aW.fresh (L' _);calc⟨.ref c.heap.objs.size,upd b c.heap.objs.size (.lst g),d.laid (t':=c.toks) (λb u e=>K' _ e) (L' _) ?_,rfl,q _ a⟩;calc⟨z,us,0,r,W' _ rfl⟩
end
abbrev Sp:=List V->Hp->VK->XK->Prop
abbrev ET:=List Env->Hp->Shared->XK->Value->Shared->Prop
structure u9(P:Program)(w:World)(K:W.Frag)(mg:Str->Option Value)(base:Heap)(A:Around)(outer:List Env)(s:Shared)(H:Hp):Prop where
 frames:A.frames=some outer
 mod:Mod K mg base
 bs:∀b o,base.get? b=some o->s.heap.get? b=some o/\H b=none
 yL:base.objs.size<=s.heap.objs.size
 lH:s.heap.FunFrames base outer
 Er:∀b∈wg outer,H b=none
 aW:lN P w H s.heap
 bare:AllBare s.gens
def CE(outer:List Env)(P:Program)(w:World)(H:Hp)(s:Shared)(Q:VK)(u:Value)(s':Shared):Prop:=
 ∃v a,s'.os=s.os/\AllBare s'.gens/\Un (wg outer) [] H a s.heap s'.heap/\lN P w a s'.heap/\RelV v u/\Q v a
def CR(CX:ET)(outer:List Env)(P:Program)(w:World)(H:Hp)(s:Shared)(Q:VK)(E:XK)(r:Result)(s':Shared):Prop:=
 match r with
 | .ok (.ret u)=>CE outer P w H s Q u s'
 | .ok _=>False
 | .error e=>CX outer H s E e s'
structure iU(P:Program)(w:World)(K:W.Frag)(mg:Str->Option Value)(base:Heap)(CX:ET)(k:Nat)(f:Addr)(fd:FuncData)(ps:List Str)(sp:Sp):Prop where
 len:∀vs H Q E,sp vs H Q E->vs.length=ps.length
 run:∀(A:Around) (outer:List Env) (s:Shared) (H:Hp) (args:Args) (us:List Value) (vs:List V) (Q:VK) (E:XK),dA k A->u9 P w K mg base A outer s H->BindsTo s fd args (ps.zip us)->Vals vs us->sp vs H Q E->
  codeAny (model P w) A (.call (.ref f) args) (CR CX outer P w H s Q E) s
theorem u9.make{P:Program}{w:World}{base:Heap}{outer:List Env}(e:u9 P w K mg base A outer s H)(C:Addr)(us:List Value)(kw:List (Str×Value)):
  u9 P w K mg base (A.under (.builtin "type.__call__" ⟨.ref C::us,kw⟩)) outer s H:=⟨by first|exact e.frames|(simpa[Around.under,Code.envs,Code.isFrame,pushEnvs] using e.frames),e.mod,e.bs,e.yL,e.lH,e.Er,e.aW,e.bare⟩
section
variable {X:Cx}{pins:List (Addr×Obj)}{σ:St}{H:Hp}{s s':Shared}
theorem Inv.EU(I:Inv X pins σ H s):u9 X.prog X.w X.K X.mg X.base X.A X.stack s H:=
 ⟨I.ok.frames,I.ok.mod,I.bs,aap I.ok.yL I.sz,I.stack,I.qD,I.aW,I.bare⟩
theorem Inv.after{Q:VK}{u:Value}(I:Inv X pins σ H s)(h:CE X.stack X.prog X.w H s Q u s'):EP X pins σ Q u s':=by
 obtain⟨v,c,os,a,e,f,r,q⟩:=h;obtain⟨i,g,d,t,b⟩:=s';obtain rfl:b=s.os:=os;calc⟨v,c,I.call (h':=i) (g':=g) (d':=d) (t':=t) (ch:=[]) e f a (λb z=>absurd z (by simp)),r,q⟩
end
def tX(sp:Sp)(a:List V)(E:XK)(t:TA):TE:=λσ H Q=>t σ H λvs b=>sp (vs++a) b Q E
def pZ(C:Addr)(m:Str)(sp:Sp)(d:List V)(E:XK)(a:TE)(t:TA):TE:=λσ H Q=>a σ H λx b=>∃a e c,x=.ref a/\b a=some (.ins C e c)/\c.lookup m=none/\
 t σ b λvs a=>sp (x::(vs++d)) a Q E
def AN(C:Addr)(sp:Sp)(c:List V)(E:XK)(t:TA):TE:=λσ H Q=>t σ H λvs b=>∀x a,b x=none->b a=none->a≠x->
 sp (.ref x::(vs++c)) (upd (upd b a (.own x)) x (.ins C a [])) (λv d=>v=.bD/\Q (.ref x) d) E
def Binds(K:W.Frag)(c:FuncData)(a:List Str)(b:List Value):Prop:=
 ∀(s:Shared) (us:List Value),K.In s.heap->(us++b).length=a.length->BindsTo s c ⟨us,[]⟩ (a.zip (us++b))
theorem Binds.all{b:FuncData}{a:List Str}(h:∀us:List Value,us.length=a.length->bindArgs b ⟨us,[]⟩=pure (a.zip us)):Binds K b a []:=λs us _ a=>by
 rw[List.append_nil]at a ⊢;calc .of_eq (h us a)
def Passes(CX:ET)(X:Cx)(E:XK):Prop:=∀(pins:List (Addr×Obj)) (σ:St) (H:Hp) (s:Shared) (e:Value) (s':Shared),Inv X pins σ H s->CX X.stack H s E e s'->X.xe e s'
section
variable {X:Cx}{CX:ET}{k:Nat}{f C:Addr}{fd:FuncData}{ps:List Str}{sp:Sp}{sS:List V}{ds:List Value}{E:XK}{x m:Str}{p pos apos:Pos}{e o:Expr}{es:List Expr}{ta:TE}{t:TA}
theorem yZ{pins:List (Addr×Obj)}{σ:St}{H:Hp}{s:Shared}{Q:VK}{us:List Value}{vs:List V}(F:iU X.prog X.w X.K X.mg X.base CX k f fd ps sp)(c:dA k X.A)(d:Binds X.K fd ps ds)(g:Vals sS ds)(i:Passes CX X E)
  (I:Inv X pins σ H s) (r:Vals vs us) (h:sp (vs++sS) H Q E):wpAny (model X.prog X.w) X.A (call (.ref f) us) (EP X pins σ Q) X.xe s:=by
 have b:Vals (vs++sS) (us++ds):=r.append g;have j:(us++ds).length=ps.length:=by rw[<-b.length];exact F.len _ _ _ _ h
 refine wpAny_call (codeAny_mono (F.run X.A X.stack s H ⟨us,[]⟩ (us++ds) (vs++sS) Q E c I.EU (d s us I.gG j) b h) λr l a=>?_)
 cases r with
 |error e=>calc i pins σ H s e l I a
 |ok m=>
  cases m with
  |ret u=>calc I.after a
  |next=>calc aam a
  |brk=>calc aam a
  |cont=>calc aam a
theorem JR(F:iU X.prog X.w X.K X.mg X.base CX k f fd ps sp)(b:dA k X.A)(a:Gl X x)(c:X.mg x=some (.ref f))(d:W.keepIn X.K (.ref f)=true)(g:Binds X.K fd ps ds)(i:Vals sS ds)(j:Passes CX X E)
  (l:PA X (e::es) t) (m:(x==("__debug__":Str))=false:=by decide) (n:starEach (e::es) X.env=(false,eval e X.env)::starEach es X.env:=by rfl) (o:(backTo pos (starEach es X.env)).any (·.1)=false:=by rfl):
  PE X (.Call (.Name x p) (e::es) [] pos) (tX sp sS E t):=by
 walk_at "xc";refine wpAny_Call_Name_kw (jL I a c ?_ m);refine W.callWith_K (h₀:=X.base) I.ok.mod.wx d (cJ (l pos pins s σ H _ I h) λus c ⟨m,u,a,r,q⟩=>⟨a.gG,?_⟩) n o;exact yZ F b g i j a r q
theorem AO{pl:Sem Bool}(i:PE X o ta)(c:sL X.K C)(b:Meth X.K C m f)(F:iU X.prog X.w X.K X.mg X.base CX k f fd ps sp)(j:dA k X.A)(n:Binds X.K fd ps ds)(p:Vals sS ds)(v:Passes CX X E)(y:PA X (e::es) t)
  (z:starEach (e::es) X.env=(false,eval e X.env)::starEach es X.env:=by rfl) (B:(backTo pos (starEach es X.env)).any (·.1)=false:=by rfl)
  (r:eval (.Call (.Attribute o m apos) (e::es) [] pos) X.env=(do
   let d <-eval o X.env
   standAt apos.atName
   let (f,first) <-holding [d] (getMethod d m pl)
   callWith pos f first (backTo pos (starEach (e::es) X.env)) (backToKw pos (keywordEach [] X.env))):=by rfl):
  PE X (.Call (.Attribute o m apos) (e::es) [] pos) (pZ C m sp sS E ta t):=by
 walk_at "xc";refine W.methodCall_KW (pl:=pl) (cJ (i pins s σ H _ I h) λu D G=>?_) r;nofun;obtain⟨x,J,g,L,a,d,i,M,N,l,q⟩:=G;ac_rfl;subst M;obtain rfl:u=Value.ref a:=L;refine jN g N c b l ?_;refine W.callWith_K (first:=[.ref a]) (h₀:=X.base) I.ok.mod.wx b.kp (cJ (y pos pins D σ J _ g q) λus l ⟨c,u,d,r,i⟩=>⟨d.gG,?_⟩) z B;exact yZ (us:=.ref a::us) (vs:=.ref a::c) F j n p v d (.cons rfl r) i
theorem EV{pl:Sem Bool}(g:PE X o ta)(c:sL X.K C)(d:Meth X.K C m f)(F:iU X.prog X.w X.K X.mg X.base CX k f fd ps sp)(i:dA k X.A)(j:Binds X.K fd ps ds)(n:Vals sS ds)(p:Passes CX X E)
  (r:eval (.Call (.Attribute o m apos) [] [] pos) X.env=(do
   let e <-eval o X.env
   standAt apos.atName
   let (f,first) <-holding [e] (getMethod e m pl)
   callWith pos f first (backTo pos (starEach [] X.env)) (backToKw pos (keywordEach [] X.env))):=by rfl):
  PE X (.Call (.Attribute o m apos) [] [] pos) (pZ C m sp sS E ta Ck):=by
 walk_at "xc";refine W.methodCall_KW (pl:=pl) (cJ (g pins s σ H _ I h) λu e t=>?_) r;nofun;obtain⟨x,e,b,v,a,g,B,y,z,l,q⟩:=t;ac_rfl;subst y;obtain rfl:u=Value.ref a:=v;refine jN b z c d l ?_;exact W.callWith_K0 (first:=[.ref a]) b.gG d.kp (yZ (us:=[.ref a]) (vs:=[.ref a]) F i j n p b (.cons rfl .nil) q)
structure Mk(K:W.Frag)(C f:Addr):Prop where
 makes:W.makesIn K C=true
 init:W.findIn K (.ref C) "__init__"=some (some (.ref f))
 fn:W.isFn K (.ref f)=true
 kp:W.keepIn K (.ref C)=true
theorem EW{pins:List (Addr×Obj)}{σ:St}{Q:VK}{vs:List V}(M:Mk X.K C f)(F:iU X.prog X.w X.K X.mg X.base CX k f fd ps sp)(hr:dA (k+1) X.A)(g:Binds X.K fd ps ds)(i:Vals sS ds)
  (j:Passes CX X E) (I:Inv X pins σ H s) (r:Vals vs us)
  (h:∀x b,H x=none->H b=none->b≠x->sp (.ref x::(vs++sS)) (upd (upd H b (.own x)) x (.ins C b [])) (λv d=>v=.bD/\Q (.ref x) d) E):
  wpAny (model X.prog X.w) X.A (call (.ref C) us) (EP X pins σ Q) X.xe s:=by
 have b:=h (s.heap.objs.size+1) s.heap.objs.size (I.aW.fresh (Nat.le_succ _)) (I.aW.fresh (L' _)) (X' (Nat.lt_succ_self _));have c:=Inv.made (C:=C) I;have d:Vals (V.ref (s.heap.objs.size+1)::(vs++sS)) (Value.ref (s.heap.objs.size+1)::(us++ds)):=.cons rfl (r.append i);have l:(Value.ref (s.heap.objs.size+1)::us++ds).length=ps.length:=by
  have e:=d.length;rw[F.len _ _ _ _ b]at e;exact e.symm
 refine wpAny_call (ES (f:=f) I.gG M.makes M.init (beq_iff_eq.mp M.fn) (codeAny_mono (F.run _ X.stack _ _ ⟨Value.ref (s.heap.objs.size + 1)::us,[]⟩ (Value.ref (s.heap.objs.size + 1)::(us++ds)) _ _ E (hr.make C us [])
  (c.EU.make C us []) (g _ (Value.ref (s.heap.objs.size + 1)::us) c.gG l) d b) λr m a=>?_))
 cases r with
 |error e=>calc j pins σ _ _ e m c a
 |ok n=>
  cases n with
  |ret u=>
   obtain⟨v,o,p,q,t,y⟩:=c.after a;subst t;calc⟨q,⟨V.ref (s.heap.objs.size+1),o,p,rfl,y⟩⟩
  |next=>calc aam a
  |brk=>calc aam a
  |cont=>calc aam a
theorem JS(M:Mk X.K C f)(F:iU X.prog X.w X.K X.mg X.base CX k f fd ps sp)(b:dA (k+1) X.A)(a:Gl X x)(c:X.mg x=some (.ref C))(d:Binds X.K fd ps ds)(g:Vals sS ds)(i:Passes CX X E)
  (j:PA X (e::es) t) (l:(x==("__debug__":Str))=false:=by decide) (m:starEach (e::es) X.env=(false,eval e X.env)::starEach es X.env:=by rfl) (n:(backTo pos (starEach es X.env)).any (·.1)=false:=by rfl):
  PE X (.Call (.Name x p) (e::es) [] pos) (AN C sp sS E t):=by
 walk_at "xc";refine wpAny_Call_Name_kw (jL I a c ?_ l);refine W.callWith_K (h₀:=X.base) I.ok.mod.wx M.kp (cJ (j pos pins s σ H _ I h) λus c ⟨l,o,a,r,q⟩=>⟨a.gG,?_⟩) m n;exact EW M F b d g i a r q
end
structure aE(N P:List Str)(sc:Scope):Prop where
 kind:sc.kind=.function
 co:sc.isCoroutine=false
 gen:sc.isGenerator=false
 nd:N.Nodup
 pre:N.take P.length=P
 par:∀x∈P,sc.names.lookup x=some .local\/sc.names.lookup x=some .cell
 Ov:∀y∈sc.names,y.2≠.free
theorem tY{b:Str->Option NameKind}{x:Str}:∀{a:List (Str×Value)}{m:Str->Option Value},(∀v,(x,v)∉a)->bindL b a m x=m x
 | [],_,_=>rfl
 |(n,v)::r,m,h=>by
  unfold bindL;rw[tY λw c=>h w (List.mem_cons_of_mem _ c)];split
  ·have:x≠n:=by rintro rfl;exact h v aaB
   simp[this]
  ·rfl
theorem tZ{b:Str->Option NameKind}{x:Str}:∀{a:List (Str×Value)}{m:Str->Option Value},(∀v,(x,v)∉a)->bindC b a m x=m x
 | [],_,_=>rfl
 |(n,v)::r,m,h=>by
  unfold bindC;rw[tZ λw c=>h w (List.mem_cons_of_mem _ c)];split
  ·rfl
  ·have:x≠n:=by rintro rfl;exact h v aaB
   simp[this]
theorem t9{a:Str->Option NameKind}{x:Str}{v:Value}:∀{P:List Str}{vs:List Value}{i:Nat}{m:Str->Option Value},P.Nodup->P[i]?=some x->vs[i]?=some v->a x=some .local->
  bindL a (P.zip vs) m x=some v
 | [],_,_,_,_,h,_,_=>by simp at h
 |_::_,[],_,_,_,_,h,_=>by simp at h
 |p::P,w::vs,0,m,d,b,c,e=>by
  simp at b c;subst b;subst c;show bindL a ((p,w)::P.zip vs) m p=_;unfold bindL;rw[tY λv f=>(List.nodup_cons.mp d).1 (List.of_mem_zip f).1,if_pos e];simp
 |p::P,w::vs,i+1,m,d,b,c,e=>by
  show bindL a ((p,w)::P.zip vs) m x=_;unfold bindL;calc t9 (i:=i) (List.nodup_cons.mp d).2 (by simpa using b) (by simpa using c) e
theorem ua{a:Str->Option NameKind}{x:Str}{v:Value}:∀{P:List Str}{vs:List Value}{i:Nat}{m:Str->Option Value},P.Nodup->P[i]?=some x->vs[i]?=some v->a x≠some .local->
  bindC a (P.zip vs) m x=some v
 | [],_,_,_,_,h,_,_=>by simp at h
 |_::_,[],_,_,_,_,h,_=>by simp at h
 |p::P,w::vs,0,m,d,b,c,e=>by
  simp at b c;subst b;subst c;show bindC a ((p,w)::P.zip vs) m p=_;unfold bindC;rw[tZ λv f=>(List.nodup_cons.mp d).1 (List.of_mem_zip f).1,if_neg e];simp
 |p::P,w::vs,i+1,m,d,b,c,e=>by
  show bindC a ((p,w)::P.zip vs) m x=_;unfold bindC;calc ua (i:=i) (List.nodup_cons.mp d).2 (by simpa using b) (by simpa using c) e
def start(N:List Str)(vs:List V):St:=vs.map some++List.replicate (N.length-vs.length) none
def jx(CX:ET)(P:Program)(w:World)(K:W.Frag)(mg:Str->Option Value)(base:Heap)(N:List Str)(a:Str)(scope:Scope)(f:Addr)(b:Value)(A:Around)(outer:List Env)(s:Shared)(H:Hp)(E:XK):Cx where
 prog:=P
 w:=w
 K:=K
 mg:=mg
 base:=base
 A:=A.deeper (envOfC a scope s.heap.objs.size f b)
 N:=N
 s₀:=s
 H₀:=H
 env:=envOfC a scope s.heap.objs.size f b
 outer:=outer
 stack:=envOfC a scope s.heap.objs.size f b::outer
 ex:=[]
 calm:=true
 fn:=λ_=>true
 pn:=[]
 xe:=λe s'=>wpAny (model P w) (A.deeper (envOfC a scope s.heap.objs.size f b)) (leaving (envOfC a scope s.heap.objs.size f b) e) (λ_ c=>CX outer H s E e c) (λa c=>CX outer H s E a c) s'
theorem wF{a:Scope}{n:Nat}{x:Str}(h:a.names.lookup x=some .cell):∃c,(cellsFrom n a.names []).lookup x=some c:=by
 have q:=W.cellsFrom_some a.names n [] (.inl h);calc Option.isSome_iff_exists.mp q
theorem ub{CX:ET}{P:Program}{w:World}{base:Heap}{N j:List Str}{a:Str}{scope:Scope}{f:Addr}{o:Value}{outer:List Env}{b:Shared}{E:XK}{vs:List V}
  (S:aE N j scope) (D:A.handled=none) (g:u9 P w K mg base A outer s H) (p:vs.length=j.length) (r:Vals vs us)
  (x:InCallC s s.heap.objs.size (bindL (envOfC a scope s.heap.objs.size f o).kindOf (j.zip us) λ_=>none) (cellsFrom (s.heap.objs.size+1) scope.names []) (bindC (envOfC a scope s.heap.objs.size f o).kindOf (j.zip us) λ_=>none) b):
  Inv (jx CX P w K mg base N a scope f o A outer s H E) [] (start N vs) H b:=by
 have b:j.length<=N.length:=by have:=congrArg List.length S.pre;rw[List.length_take]at this;lia
 obtain⟨q,z,rfl,B⟩:=x.done;have p:∀b:Addr,b ∉ (jx CX P w K mg base N a scope f o A outer s H E).ex:=λb z=>absurd (show b ∈ ([]:List Addr) from z) (by simp);refine⟨⟨g.mod,S.kind,rfl,rfl,L' _,λy z c q d=>?_,λy k=>?_,λy c _ h=>?_,λ_=>D,Around.frames_deeper g.frames,.inr ⟨rfl,rfl⟩,λb z=>absurd z (p b),g.bs,g.yL,λb _ _=>p b,λb z=>absurd z (p b),g.lH,g.Er⟩,
  rfl,g.bare,Un.kept B,⟨_,x.toInCall.ns,λi y v q d a=>?_⟩,λy c h=>⟨_,x.cell y c h⟩,g.aW.fresh (L' _),λy c h=>?_,λp l=>absurd (show p ∈ ([]:List (Addr×Obj)) from l) (by simp),g.aW.kept B,?_⟩
 ·exact name_of_addr x.apart (aaR q) (aaR d)
 ·have k:scope.names.lookup y=some .cell\/scope.names.lookup y=some .free:=k;rcases k with k | k
  ·exact wF k
  ·exact absurd rfl (S.Ov _ (aaR k))
 ·exact P' (x.above y c (aaR h))
 ·have t:i<vs.length:=by
   unfold start at d;by_cases t:i<vs.length
   ·exact t
   ·rw[List.getElem?_append_right (by simpa using t)]at d;rw[List.getElem?_replicate]at d;split at d<;>cases d
  have F:vs[i]?=some v:=by
   unfold start at d;rw[List.getElem?_append_left (by simpa using t),List.getElem?_map]at d
   cases e:vs[i]? with
   |none=>rw[e]at d;cases d
   |some a=>rw[e]at d;cases d;rfl
  obtain⟨u,C,G⟩:=r.get F;have l:j[i]?=some y:=by
   rw[<-S.pre,List.getElem?_take_of_lt (by lia)];exact q
  have m:j.Nodup:=by rw[<-S.pre];exact S.nd.sublist (List.take_sublist _ _)
  calc⟨u,G,?_⟩;rcases S.par y (Y' l) with k|k
  ·exact .inl ⟨k,t9 m l C k⟩
  ·obtain⟨c,e⟩:=wF (n:=s.heap.objs.size+1) k;calc .inr ⟨.inl k,c,e,?_⟩;have q:=x.cell y c e;rw[ua m l C (by show scope.names.lookup y≠_;rw[k];decide)]at q;exact q
 ·exact g.aW.fresh (P' (x.above y c (aaR h)))
 ·unfold start;show _=N.length;rw[List.length_append,List.length_map,List.length_replicate];lia
theorem L5{CX:ET}{P:Program}{w:World}{base:Heap}{k:Nat}{f:Addr}{name a:Str}{b:Arguments}{c:List Stmt}{scope:Scope}{o kV j y h ct l:Value}{F od:Option Addr}
  {M:Array (Option Value)} {N z:List Str} {sp:Sp} (O:K.lookup f=some ⟨l,od,.func (W.fnOf name a b c scope o kV j y F h ct),M⟩) (R:W.codeIn K h a=true) (S:aE N z scope)
  (l:∀vs H Q E,sp vs H Q E->vs.length=z.length)
  (T:∀(A:Around) (outer:List Env) (s:Shared) (H:Hp) (vs:List V) (Q:VK) (E:XK),dA k (A.deeper (envOfC a scope s.heap.objs.size f h))->sp vs H Q E->
   ∃t,qE (jx CX P w K mg base N a scope f h A outer s H E) c t/\t {nx:=λ_ g=>Q .bD g,rt:=Q} (start N vs) H):
  iU P w K mg base CX (k+1) f (W.fnOf name a b c scope o kV j y F h ct) z sp:=by
 calc⟨l,λA outer s H b us vs Q E B m U r G=>?_⟩;have X:=l _ _ _ _ G;have I:K.In s.heap:=m.mod.wx.keeps λb o e=>(m.bs b o e).1;have C:s.heap.NoLimit:=m.mod.nolimit.keeps λb o e=>(m.bs b o e).1;have Y:∀y∈z.zip us,scope.names.lookup y.1=some .local\/(scope.names.lookup y.1=some .cell/\((cellsFrom (s.heap.objs.size+1) scope.names []).lookup y.1).isSome=true):=λ⟨n,v⟩ Z=>by
  rcases S.par n (List.of_mem_zip Z).1 with q|q
  ·exact .inl q
  ·exact .inr ⟨q,W.cellsFrom_some _ _ _ (.inl q)⟩
 calc codeAny_call_function B.depth (I _ _ O) rfl S.co S.gen rfl (W.codeRec_of I R) (U _ _ _ _ ?_);calc wpAny_newFunctionEnv_cells S.kind Y λb he L x=>?_;subst he;calc⟨C.keeps x.toInCall.keep,codeAny_func ?_⟩;obtain⟨t,c,j⟩:=T A outer s H vs Q E (B.deeper _) G;have I:Inv (jx CX P w K mg base N a scope f h A outer s H E) [] (start N vs) H L:=ub S B.hd m X r x;calc aat (c [] L (start N vs) H _ I j) (λfl b i=>?_) λe b i=>i;have p:∀{d:St} {g:Hp} {v:V} {u:Value},Inv (jx CX P w K mg base N a scope f h A outer s H E) [] d g b->RelV v u->Q v g->CE outer P w H s Q u b:=
  λ{d g v u} J D q=>⟨v,g,J.os,J.bare,J.base,J.aW,D,q⟩
 cases fl with
 |ret u=>
  obtain⟨v,d,g,J,D,q⟩:=i;calc p J D q
 |next=>
  obtain⟨d,g,J,q⟩:=i;calc p (v:=V.bD) (u:=Value.none) J rfl q
 |brk=>
  obtain⟨_,_,_,q⟩:=i;calc aam q
 |cont=>
  obtain⟨_,_,_,q⟩:=i;calc aam q
end
section
section
variable {X:Cx}{x:Str}{p pos:Pos}{e:Expr}{es:List Expr}{t:TA}{id T:String}{r:List V->Hp->VK->Prop}
def Q8(r:List V->Hp->VK->Prop)(t:TA):TE:=λσ H Q=>t σ H λvs a=>r vs a Q
theorem EY(a:eX X (.builtin id) r)(b:Gl X x)(c:X.mg x=none)(d:bootBuiltins x=some (.builtin id))(f:PA X (e::es) t)(g:x≠"__name__":=by decide)(i:(x==("__debug__":Str))=false:=by decide)
  (j:starEach (e::es) X.env=(false,eval e X.env)::starEach es X.env:=by rfl) (k:(backTo pos (starEach es X.env)).any (·.1)=false:=by rfl):PE X (.Call (.Name x p) (e::es) [] pos) (Q8 r t):=by
 walk_at "xc";refine wpAny_Call_Name_kw (oA I b c d ?_ g i);exact PyProof.Rows.callWith_builtin1 (cJ (f pos pins s σ H _ I h) λl m ⟨n,o,q,u,v⟩=>a pins m σ o n l Q q u v) j k
theorem Cm(a:eX X (.type T) r)(b:Gl X x)(c:X.mg x=none)(d:bootBuiltins x=some (.type T))(f:PA X (e::es) t)(g:x≠"__name__":=by decide)(i:(x==("__debug__":Str))=false:=by decide)
  (j:starEach (e::es) X.env=(false,eval e X.env)::starEach es X.env:=by rfl) (k:(backTo pos (starEach es X.env)).any (·.1)=false:=by rfl):PE X (.Call (.Name x p) (e::es) [] pos) (Q8 r t):=by
 walk_at "xc";refine wpAny_Call_Name_kw (oA I b c d ?_ g i);exact PyProof.Rows.callWith_type1 (cJ (f pos pins s σ H _ I h) λl m ⟨n,o,q,u,v⟩=>a pins m σ o n l Q q u v) j k
end
end
end L2
namespace HT
open PySem PyProof.Rows
variable {Q:Value->Shared->Prop}
section
open PySem.SeqAt
open PySem.AutoSeq1 (wpAny_loadPart')
open PySem.MeetsSeq PySem.MeetsSeq2 PySem.MeetsSeq3
end
section
variable {prog:Program}{w:World}{A:Around}{E:Value->Shared->Prop}{s:Shared}
theorem JT{t b:Addr}{vs a:List Value}(q:IsTup s.heap t vs.toArray)(r:IsTup s.heap b a.toArray)(g:vs≠[])
  (u:a=[]->Q (.ref t) s) (v:a≠[]->Q (.ref s.heap.objs.size) {s with heap:=s.heap.push {cls:=.type "tuple",data:=.seq (vs++a).toArray}})
  (hsz:vs.length+a.length<=sizeLine):wpAny (model prog w) A (binaryOp .Add (.ref t) (.ref b)) Q E s:=by
 obtain⟨⟨cls,h,data,i⟩,d,j,n,k⟩:=id q;obtain⟨⟨x,l,e,m⟩,f,o,p,c⟩:=id r;simp only at j k o c;subst j k o c;have e:vs.toArray++a.toArray=(vs++a).toArray:=by simp
 by_cases c:a=[]
 ·exact concat_meets ⟨_,d,rfl⟩ ⟨_,f,rfl⟩ noFill_tuple_add seq_tuple_add PySem.F.slot_tuple_add PySem.F.entry_tuple_add (PySem.F.args_tuple_add_2 _ _)
   (tuple_addW1 t b vs.toArray a.toArray n p h l i m (by simpa using g) (by simp[c])) ⟨d,f,u c⟩
 ·refine concat_meets ⟨_,d,rfl⟩ ⟨_,f,rfl⟩ noFill_tuple_add seq_tuple_add PySem.F.slot_tuple_add PySem.F.entry_tuple_add (PySem.F.args_tuple_add_2 _ _)
   (tuple_addW2 t b vs.toArray a.toArray n p h l i m (by simpa using g) (by simpa using c) (by rw[List.size_toArray,List.size_toArray];calc hsz)) ⟨d,f,?_⟩
  rw[e];calc v c
def eE(n d:Nat):Option Int->Nat
 |none=>d
 |some v=>if v<0 then(v+(n:Int)).toNat else min v.toNat n
theorem AQ(n d k:Nat):eE n d (some (k:Int))=min k n:=by
 show(if (k:Int)<0 then((k:Int)+(n:Int)).toNat else min (k:Int).toNat n)=min k n;rw[if_neg (by lia),Int.toNat_natCast]
theorem Ox(n d:Nat)(a:d<=n)(o:Option Int):eE n d o<=n:=by
 cases o with
 |none=>calc a
 |some v=>
  show(if v<0 then(v+(n:Int)).toNat else min v.toNat n)<=n;by_cases a:v<0
  ·rw[if_pos a];lia
  ·rw[if_neg a];calc Nat.min_le_right _ _
theorem AR(v:Int)(n d:Nat):(if v<0 then max (v+(n:Int)) 0 else min v (n:Int))=((eE n d (some v):Nat):Int):=by
 show(if v<0 then max (v+(n:Int)) 0 else min v (n:Int))=(((if v<0 then(v+(n:Int)).toNat else min v.toNat n):Nat):Int)
 by_cases a:v<0
 ·simp only[if_pos a];lia
 ·simp only[if_neg a];lia
theorem y0(a b:Option Int)(n:Nat):Builtin.Slice.sliceAdjust a b 1 (n:Int)=(((eE n 0 a:Nat):Int),((eE n n b:Nat):Int)):=by
 have c:¬((1:Int)<0):=by lia
 unfold Builtin.Slice.sliceAdjust;simp only[c,if_false];refine Prod.ext ?_ ?_
 ·cases a with
  |none=>rfl
  |some v=>exact AR v n 0
 ·cases b with
  |none=>rfl
  |some v=>calc AR v n n
theorem y9(i j:Nat):Builtin.Slice.slicePlaces (i:Int) (j:Int) 1=j-i:=by
 unfold Builtin.Slice.slicePlaces;have a:(1:Int) > 0:=by lia
 simp only[a,if_true,Int.ediv_one];split<;>lia
theorem qZ{v:Value}{o:Option Int}{Q:Option Int->Shared->Prop}(p:IsPart v o)(h:Q o s):wpAny (model prog w) A (Builtin.Slice.slicePartIndex v) Q E s:=by
 cases p with
 |none=>calc slicePart_none h
 |int i t=>calc slicePart_int h
theorem jy{e:Addr}{c d:Value}{a b:Option Int}{n:Nat}{Q:Int×Int×Nat->Shared->Prop}(g:s.heap.IsSliceOf e c d .none)(pl:IsPart c a)(i:IsPart d b)
  (h:Q (((eE n 0 a:Nat):Int),1,eE n n b-eE n 0 a) s):wpAny (model prog w) A (Builtin.Slice.sliceApplied (.ref e) (pure (n:Int))) Q E s:=by
 obtain⟨j,e,k,f⟩:=id g;unfold Builtin.Slice.sliceApplied Builtin.Slice.sliceFields;calc J' (J' (aax e f (x:=c) rfl (J' (aax e f (x:=d) rfl (J' (aax e f (x:=.none) rfl (R' ?_)))))));calc J' (slicePart_none ?_);show wpAny _ _ (if ((1:Int)==0)=true then _ else _) _ _ s;rw[if_neg (by decide)];calc J' (qZ pl (J' (qZ i (J' (R' ?_)))));show wpAny _ _ (match Builtin.Slice.sliceAdjust a b 1 (n:Int) with|(a,b)=>pure (a,(1:Int),Builtin.Slice.slicePlaces a b 1)) _ _ s;rw[y0 a b n];show wpAny _ _ (pure (((eE n 0 a:Nat):Int),(1:Int),Builtin.Slice.slicePlaces ((eE n 0 a:Nat):Int) ((eE n n b:Nat):Int) 1)) _ _ s;rw[y9];calc R' h
theorem EZ(xs:Array Value)(i k:Nat):((List.range k).filterMap λ(m:Nat)=>xs[((i:Int)+(m:Int)*1).toNat]?).toArray=((xs.toList.drop i).take k).toArray:=by
 have e:(λ(m:Nat)=>xs[((i:Int)+(m:Int)*1).toNat]?)=λm=>xs[i+m]?:=by
  funext m;have:((i:Int)+(m:Int)*1).toNat=i+m:=by lia
  rw[this]
 rw[e];have:=pick_run xs i k;rw[List.filterMap_map]at this;have a:((λx=>xs[x]?) ∘ λx=>i+x)=λm=>xs[i+m]?:=rfl;rw[a]at this;rw[this]
theorem nu{t f:Addr}{a:Array Value}{e g:Value}{b c:Option Int}(d:IsTup s.heap t a)(i:s.heap.IsSliceOf f e g .none)(pl:IsPart e b)(j:IsPart g c)
  (g:¬(eE a.size 0 b=0/\eE a.size a.size c=a.size))
  (h:Q (.ref s.heap.objs.size) {s with heap:=s.heap.push {cls:=.type "tuple",data:=.seq ((a.toList.drop (eE a.size 0 b)).take (eE a.size a.size c-eE a.size 0 b)).toArray}})
  (hsz:a.size<=sizeLine):wpAny (model prog w) A (getItem (.ref t) (.ref f)) Q E s:=by
 have e:sizeOk (.seq ((a.toList.drop (eE a.size 0 b)).take (eE a.size a.size c-eE a.size 0 b)).toArray):=by
  show((a.toList.drop (eE a.size 0 b)).take (eE a.size a.size c-eE a.size 0 b)).toArray.size<=sizeLine;rw[List.size_toArray,List.length_take,List.length_drop,Array.length_toList];lia
 have k:eE a.size a.size c<=a.size:=Ox _ _ (L' _) c;obtain⟨k,l,n,o⟩:=id i;have o:s.TypeIs (.ref f) "slice":=⟨k,l,n⟩
 unfold getItem
 try with_reducible refine aaD ?_
 first|calc J' (R' ?_)|skip
 calc J' (wpAny_sequenceKey d.typeIs (by decide) ?_);refine J' (aaH (name:=Str.ofString "__getitem__") d.typeIs aaX
  (wpAny_call_entry aaX d.typeIs entry_tuple_getitem ?_ (args_tuple_getitem _ _)))
 show wpAny _ _ (Builtin.Tuple.tupleItemsOf (.ref t) >>= _) _ _ s;calc J' (tupleItemsOf_ d ?_);calc J' (wpAny_typeOf o ?_);rw[if_pos (by decide)];calc J' (jy i pl j ?_);have f:¬((((eE a.size 0 b:Nat):Int)==0&&(1:Int)==1&&(eE a.size a.size c-eE a.size 0 b)==a.size)=true):=by
  intro q;rw[Bool.and_eq_true,Bool.and_eq_true]at q;have d:((eE a.size 0 b:Nat):Int)=0:=eq_of_beq q.1.1;have d:eE a.size a.size c-eE a.size 0 b=a.size:=eq_of_beq q.2;exact g ⟨by lia,by lia⟩
 show wpAny _ _ (if (((eE a.size 0 b:Nat):Int)==0&&(1:Int)==1&&(eE a.size a.size c-eE a.size 0 b)==a.size)=true then _ else _) _ _ s;rw[if_neg f,EZ]
 first
  |calc J' (m:=Builtin.Tuple.tupleExact _) (aaJ (R' ⟨_,rfl,R' h⟩) e)
  |calc J' (m:=Builtin.Tuple.tupleExact _) (aaJ (J' (R' (R' ⟨_,rfl,R' h⟩))) e)
  |calc J' (J' (m:=Builtin.Tuple.tupleExact _) (aaJ (R' (R' ⟨_,rfl,R' h⟩)) e))
  |calc J' (J' (m:=Builtin.Tuple.tupleExact _) (aaJ (R' ⟨_,rfl,R' h⟩) e))
end
end HT
namespace L2
open PySem PySem.Spec PyProof.Rows
section
abbrev TO:=St->Hp->(Option Int->Hp->Prop)->Prop
def PO(X:Cx)(e:Option Expr)(t:TO):Prop:=
 ∀(pins:List (Addr×Obj)) (s:Shared) (σ:St) (H:Hp) (Q:Option Int->Hp->Prop),Inv X pins σ H s->t σ H Q->
  wpAny (model X.prog X.w) X.A (evalPart e X.env) (λu s'=>∃o a,Inv X pins σ a s'/\IsPart u o/\Q o a) X.xe s
def vb:TO:=λ_ H Q=>Q none H
def E2(t:TE):TO:=λσ H Q=>t σ H λx a=>∃i,x=.int i/\Q (some i) a
section
variable {X:Cx}{e:Expr}{te:TE}{lo hi:Option Expr}{tl th:TO}{pos p2:Pos}
theorem qG:PO X none vb:=by
 intro a s σ H Q I h;rw[evalPart_none];calc R' ⟨none,H,I,.none,h⟩
theorem lj(h:PE X e te):PO X (some e) (E2 te):=by
 intro a s σ H Q I b;rw[evalPart_some];calc cJ (h a s σ H _ I b) λu k c=>?_;nofun;obtain⟨x,d,f,g,j⟩:=c;ac_rfl;obtain⟨i,rfl,q⟩:=j;obtain⟨t,rfl⟩:=g;calc⟨some i,d,f,.int i t,q⟩
def SR(X:Cx)(r:V->Option Int->Option Int->Hp->VK->Prop):Prop:=
 ∀(pins:List (Addr×Obj)) (s:Shared) (σ:St) (H:Hp) (x:V) (v a b:Value) (lo hi:Option Int) (c:Addr) (Q:VK),Inv X pins σ H s->RelV x v->s.heap.IsSliceOf c a b .none->IsPart a lo->IsPart b hi->r x lo hi H Q->
  ∃T a,typeLookup (.type T) "__getitem__"=pure (some (.builtin a))/\s.TypeIs v T/\wpAny (model X.prog X.w) X.A (getItem v (.ref c)) (EP X pins σ Q) X.xe s
def SS(r:V->Option Int->Option Int->Hp->VK->Prop)(te:TE)(tl th:TO):TE:=λσ H Q=>te σ H λx a=>tl σ a λl b=>th σ b λu a=>r x l u a Q
theorem wG{r:V->Option Int->Option Int->Hp->VK->Prop}(g:SR X r)(a:PE X e te)(d:PO X lo tl)(f:PO X hi th):PE X (.Subscript e (.Slice lo hi none p2) pos) (SS r te tl th):=by
 walk_at "xc";refine Subscript_ (cJ (a pins s σ H _ I h) λv i b=>?_);nofun;obtain⟨x,a,j,k,m⟩:=b;ac_rfl;refine wpAny_Slice (cJ (d pins i σ a _ j m) λc n ⟨l,o,p,r,q⟩=>cJ (f pins n σ o _ p q) λd a b=>?_);nofun;obtain⟨u,f,i,j,m⟩:=b;ac_rfl;rw[evalPart_none];refine R' ?_;have n:Inv X pins σ f {a with heap:=a.heap.push {cls:=.type "slice",data:=.fields #[c,d,.none]}}:=i.kept (t':=a.toks) λb i q=>K' _ q;obtain⟨T,p,b,i,o⟩:=g pins {a with heap:=a.heap.push {cls:=.type "slice",data:=.fields #[c,d,.none]}} σ f x v c d l u a.heap.objs.size Q n k (Heap.IsSliceOf.new ..) r j m;show wpAny (model X.prog X.w) X.A (subscriptTail e (.Slice lo hi none p2) v (.ref a.heap.objs.size)) (EP X pins σ Q) X.xe {a with heap:=a.heap.push {cls:=.type "slice",data:=.fields #[c,d,.none]}};exact tail_any (ops:=[.ref a.heap.objs.size,v]) i b o (by with_unfolding_all rfl)
def eJ(xs:List V)(lo hi:Option Int):List V:=(xs.drop (HT.eE xs.length 0 lo)).take (HT.eE xs.length xs.length hi-HT.eE xs.length 0 lo)
theorem p5(xs:List V)(lo hi:Option Int):(eJ xs lo hi).length<=xs.length:=by
 unfold eJ;rw[List.length_take,List.length_drop];lia
def Zd(K:W.Frag):V->Option Int->Option Int->Hp->VK->Prop:=λx lo hi H Q=>∃a xs,x=.ref a/\bM K H a xs/\
 ¬(HT.eE xs.length 0 lo=0/\HT.eE xs.length xs.length hi=xs.length)/\∀p,H p=none->Q (.ref p) (upd H p (.tup (eJ xs lo hi)))
theorem Oz:SR X (Zd X.K):=by
 intro b s σ H x v d m lo hi n Q I e g i j h;obtain⟨a,c,rfl,k,l,q⟩:=h
 cases e;obtain⟨m,r,b,d⟩:=I.tuple k;have a:m.toArray.size=c.length:=by rw[List.size_toArray];exact r.length.symm
 refine⟨"tuple",_,PyProof.Rows.slot_tuple_getitem.lookup,b.typeIs,?_⟩;refine HT.nu b g i j (by rw[a];exact l) ?_ (by rw[a];exact d);rw[a];refine⟨.ref s.heap.objs.size,_,I.laid (t':=s.toks) (o:=.tup (eJ c lo hi)) (λb a q=>K' _ q) (L' _) ?_,rfl,q _ (I.aW.fresh (L' _))⟩;exact⟨aap (p5 c lo hi) d,_,(r.drop (HT.eE c.length 0 lo)).take (HT.eE c.length c.length hi-HT.eE c.length 0 lo),IsTup.new _ _⟩
def SU(K:W.Frag):R2:=λx y H Q=>∃a b xs c,x=.ref a/\y=.ref b/\bM K H a xs/\bM K H b c/\xs≠[]/\xs.length+c.length<=sizeLine/\
 (c=[]->Q (.ref a) H)/\(c≠[]->∀p,H p=none->Q (.ref p) (upd H p (.tup (xs++c))))
theorem Vals.vd{xs:List V}{us:List Value}(r:Vals xs us):us=[]↔xs=[]:=by
 cases r with
 |nil=>simp
 |cons _ _=>simp
theorem JV:gJ X (binaryOp .Add) (SU X.K):=by
 intro c s σ H x y v u Q I d f h;obtain⟨a,b,g,i,rfl,rfl,j,k,l,e,m,n⟩:=h
 cases d
 cases f;obtain⟨c,d,h,_⟩:=I.tuple j;obtain⟨f,c,p2,_⟩:=I.tuple k;calc HT.JT h p2 (λz=>l (d.vd.mp z)) (λz=>⟨.ref a,H,I,rfl,m (c.vd.mp z)⟩) (λz=>?_) (by rw[<-d.length,<-c.length];calc e);calc⟨.ref s.heap.objs.size,_,I.laid (t':=s.toks) (o:=.tup (g++i)) (λb a q=>K' _ q) (L' _) ?_,rfl,n (λw=>z (c.vd.mpr w)) _ (I.aW.fresh (L' _))⟩;calc⟨by rw[List.length_append];calc e,_,d.append c,IsTup.new _ _⟩
end
end
section
def p6(n:Nat)(i:Int):Option Nat:=if 0<=i then(if i<n then some i.toNat else none) else if -(n:Int)<=i then some (i+n).toNat else none
def hJ{α:Type}(xs:List α)(i:Int):Option α:=(p6 xs.length i).bind λj=>xs[j]?
theorem AU{n:Nat}{i:Int}{j:Nat}(h:p6 n i=some j):seqIndex? i n=some j/\j<n/\-(n:Int)<=i/\i<n:=by
 unfold p6 at h;by_cases b:0<=i
 ·rw[if_pos b] at h;by_cases a:i < n
  ·rw[if_pos a]at h;have e:i.toNat=j:=Option.some.inj h;exact⟨by rw[seqIndex_of b a,e],by lia,by lia,a⟩
  ·rw[if_neg a]at h;cases h
 ·rw[if_neg b] at h;by_cases a:-(n:Int)<=i
  ·rw[if_pos a]at h;have e:(i+n).toNat=j:=Option.some.inj h;exact⟨by rw[seqIndex_neg (by lia) a,e],by lia,a,by lia⟩
  ·rw[if_neg a]at h;cases h
theorem ve{α:Type}{xs:List α}{i:Int}{v:α}(h:hJ xs i=some v):∃j,seqIndex? i xs.length=some j/\xs[j]?=some v/\j<xs.length/\-(xs.length:Int)<=i/\i<xs.length:=by
 unfold hJ at h
 cases e:p6 xs.length i with
 |none=>rw[e]at h;cases h
 |some j=>
  rw[e]at h;obtain⟨a,b,c,d⟩:=AU e;calc⟨j,a,h,b,c,d⟩
theorem aA{α:Type}{xs:List α}{j:Nat}{v:α}(h:xs[j]?=some v):hJ xs (j:Int)=some v:=by
 have a:j<xs.length:=(List.getElem?_eq_some_iff.mp h).1;have e:p6 xs.length (j:Int)=some j:=by
  unfold p6;rw[if_pos (by lia),if_pos (by lia)];simp
 unfold hJ;rw[e];calc h
theorem jz{α:Type}(xs:List α)(v:α):hJ (xs++[v]) (-1)=some v:=by
 have a:(xs++[v]).length=xs.length+1:=by simp
 have e:p6 (xs++[v]).length (-1)=some xs.length:=by
  unfold p6;rw[a,if_neg (by decide),if_pos (by lia)];congr 1;lia
 unfold hJ;rw[e];show(xs++[v])[xs.length]?=some v;simp
def AV(b:Expr):Prop:=∀o i,subscripted b false o i=operate [o,i] (getItem o i)
def SV(X:Cx)(r:R2):Prop:=
 ∀(b a:Expr) (pins:List (Addr×Obj)) (s:Shared) (σ:St) (H:Hp) (x y:V) (v u:Value) (Q:VK),Inv X pins σ H s->RelV x v->RelV y u->r x y H Q->
  subscripted a false v u=operate [v,u] (getItem v u)->wpAny (model X.prog X.w) X.A (subscriptTail b a v u) (EP X pins σ Q) X.xe s
def SW(X:Cx)(a:String)(r:V->List V->Hp->VK->Prop):Prop:=
 ∀(pins:List (Addr×Obj)) (s:Shared) (σ:St) (H:Hp) (x:V) (xs:List V) (v:Value) (us:List Value) (Q:VK),Inv X pins σ H s->RelV x v->Vals xs us->r x xs H Q->
  wpAny (model X.prog X.w) X.A (call (.builtin a) (v::us)) (EP X pins σ Q) X.xe s
section
variable {X:Cx}{a b:Expr}{ta tb:TE}{pos:Pos}
theorem SX{r:R2}(c:SV X r)(d:PE X a ta)(e:PE X b tb)(f:AV b):PE X (.Subscript a b pos) (JI r ta tb):=by
 walk_at "xc";exact Subscript_ (Og d e I h λv u g x y i j k l q=>c a b pins g σ i x y v u Q j k l q (f _ _))
def Ze(K:W.Frag):R2:=λx y H Q=>∃p xs i v,x=.ref p/\y=.int i/\aR K H p xs/\hJ xs i=some v/\Q v H
def Zf(K:W.Frag):R2:=λx y H Q=>∃p xs i v,x=.ref p/\y=.int i/\bM K H p xs/\hJ xs i=some v/\Q v H
def Zg:R2:=λx y H Q=>∃z i c,x=.str z/\y=.int i/\z.length<=sizeLine/\hJ z.cps.toList i=some c/\Q (.str ⟨#[c]⟩) H
theorem JW:SV X (Ze X.K):=by
 intro b c a s σ H x y v u Q I d e h f;obtain⟨p,j,i,z,rfl,rfl,g,k,q⟩:=h
 cases d;obtain⟨t,rfl⟩:=e;obtain⟨l,r,d,b⟩:=I.list g;obtain⟨j,c,b,e,m,n⟩:=ve k;obtain⟨w,g,e⟩:=r.get b;have k:=r.length;have b:=oF;have b:EP X a σ Q w s:=⟨z,H,I,e,q⟩
 by_cases h:0<=i
 ·have e:i.toNat=j:=by
   rw[seqIndex_of h n]at c;exact Option.some.inj c
  exact item_listR d.isList h (by lia) (by rw[e];simpa using g) b f
 ·have e:(i+(l.toArray.size:Int)).toNat=j:=by
   rw[seqIndex_neg (by lia) m]at c;rw[List.size_toArray,<-k];exact Option.some.inj c
  exact subscriptTail_builtinR (x:=w) d.isList.typeIs slot_list_getitem.lookup
   (wpAny_getItem_list_neg (Q:=λr c=>r=w/\EP X a σ Q r c) d.isList (by lia) (by rw[List.size_toArray]<;>lia) (by lia) (by rw[e];simpa using g) ⟨rfl,b⟩) f
theorem OA:SV X (Zf X.K):=by
 intro b c a s σ H x y v u Q I d e h f;obtain⟨p,j,i,z,rfl,rfl,g,k,q⟩:=h
 cases d;obtain⟨t,rfl⟩:=e;obtain⟨b,r,c,d⟩:=I.tuple g;obtain⟨j,d,b,e,h,i⟩:=ve k;obtain⟨w,e,g⟩:=r.get b;have h:=r.length;have b:=oF;have b:EP X a σ Q w s:=⟨z,H,I,g,q⟩
 exact subscriptTail_builtinR (x:=w) c.typeIs slot_tuple_getitem.lookup
  (getItem_tuple (j:=j) (Q:=λr g=>r=w/\EP X a σ Q r g) c (by lia) (by lia) (by rw[List.size_toArray,<-h];calc d) (by simpa using e) ⟨rfl,b⟩) f
theorem OB:SV X Zg:=by
 intro a b d s σ H x y v u Q I e f h g;obtain⟨z,i,c,rfl,rfl,j,k,q⟩:=h;obtain⟨t,rfl⟩:=e;obtain⟨l,rfl⟩:=f;obtain⟨j,a,b,h,d,e⟩:=ve k;have f:z.cps.toList.length=z.length:=by simp[Str.length]
 rw[f] at a d e;have h:=oF;exact tail_any (typeIs_str s z t) slot_str_getitem.lookup (getItem_str (c:=c) (by
  have d:decide (i < -(2 ^ 63:Int))=false:=decide_eq_false (by lia);have e:decide (i >= 2 ^ 63)=false:=decide_eq_false (by lia);rw[d,e,Bool.or_false]) (by rw[a];simpa using b) ⟨.str ⟨#[c]⟩,H,I.tok _,⟨_,rfl⟩,q⟩) g
theorem za(a:List Value)(n j:Nat)(u:Value):Obj.mapSeq (·.setIfInBounds j u) {cls:=.type "list",data:=.seq a.toArray n}={cls:=.type "list",data:=.seq (a.set j u).toArray n}:=by
 simp[Obj.mapSeq]
theorem Inv.lst{pins:List (Addr×Obj)}{σ:St}{H:Hp}{s:Shared}{p:Addr}{xs:List V}(I:Inv X pins σ H s)(h:H p=some (.lst xs)):
  ∃(a:List Value) (n:Nat),Vals xs a/\s.heap.get? p=some {cls:=.type "list",data:=.seq a.toArray n}/\xs.length<=sizeLine:=by
 obtain⟨z,a,n,r,e⟩:=I.aW p _ h;calc⟨a,n,r,e,z⟩
theorem Inv.OC{pins:List (Addr×Obj)}{σ:St}{H:Hp}{s:Shared}{p:Addr}{xs a:List V}{d kf:List Value}{n c:Nat}{f:Obj->Obj}(I:Inv X pins σ H s)(h:H p=some (.lst xs))
  (i:s.heap.get? p=some {cls:=.type "list",data:=.seq d.toArray n}) (g:f {cls:=.type "list",data:=.seq d.toArray n}={cls:=.type "list",data:=.seq kf.toArray c}) (r:Vals a kf) (d:a.length<=sizeLine) (t:Nat):
  Inv X pins σ (upd H p (.lst a)) {s with heap:=s.heap.update p f,toks:=t}:=by
 have e:(s.heap.update p f).get? p=some {cls:=.type "list",data:=.seq kf.toArray c}:=by
  rw[Heap.get?_update_self f i (by rw[g]<;>rfl),g]
 calc I.write (x:=p) (e:=p) (by rw[h];trivial) (.inl rfl) (λb u a q=>(Heap.get?_update_other _ _ (Ne.symm a)).trans q) ⟨_,e⟩ ?_;calc⟨d,kf,c,r,e⟩
def SY:V->V->V->Hp->(Hp->Prop)->Prop:=λo i v H Q=>∃p xs k j,o=.ref p/\i=.int k/\H p=some (.lst xs)/\p6 xs.length k=some j/\Q (upd H p (.lst (xs.set j v)))
theorem set_list:Oa X SY:=by
 intro a s σ H o i v c f u Q I b d l h;obtain⟨p,m,k,j,rfl,rfl,e,w,q⟩:=h
 cases b;obtain⟨t,rfl⟩:=d;obtain⟨f,n,r,c,o⟩:=I.lst e;obtain⟨b,d,g,h⟩:=AU w;have d:=r.length;have i:=oF;have i:Inv X a σ (upd H p (.lst (m.set j v))) {s with heap:=s.heap.update p (Obj.mapSeq (·.setIfInBounds j u))}:=
  I.OC e c (za f n j u) (r.set l j) (by rw[List.length_set];calc o) s.toks
 by_cases e:0<=k
 ·have a:k.toNat=j:=by
   rw[seqIndex_of e h]at b;exact Option.some.inj b
  exact W.ki_setAt c e (by lia) (by rw[List.size_toArray,<-d];calc h) (by rw[a];calc⟨_,i,q⟩)
 ·have a:(k+(f.toArray.size:Int)).toNat=j:=by
   rw[seqIndex_neg (by lia) g]at b;rw[List.size_toArray,<-d];exact Option.some.inj b
  calc W.ki_setBack c (by lia) (by rw[List.size_toArray,<-d];calc g) (by lia) (by rw[a];calc⟨_,i,q⟩)
theorem vf(a b:Option Int)(n:Nat):(sliceBounds a b none n).1=((HT.eE n 0 a:Nat):Int)/\(sliceBounds a b none n).2.1=((HT.eE n n b:Nat):Int)/\(sliceBounds a b none n).2.2=1:=by
 refine⟨?_,?_,rfl⟩
 ·cases a with
  |none=>simp[sliceBounds,HT.eE]
  |some i=>
   simp only[sliceBounds,HT.eE,Option.getD_none,show(1:Int) > 0 by decide,if_true];by_cases h:i<0
   ·simp only[h,if_true]<;>lia
   ·simp only[h,if_false]<;>lia
 ·cases b with
  |none=>simp[sliceBounds,HT.eE]
  |some i=>
   simp only[sliceBounds,HT.eE,Option.getD_none,show(1:Int) > 0 by decide,if_true];by_cases h:i<0
   ·simp only[h,if_true]<;>lia
   ·simp only[h,if_false]<;>lia
theorem sT(a:List Value)(b c:Option Int):slicePick a.toArray b c none=((a.drop (HT.eE a.length 0 b)).take (HT.eE a.length a.length c-HT.eE a.length 0 b)).toArray:=by
 obtain⟨d,e,f⟩:=vf b c a.toArray.size;unfold slicePick;rw[d,e,f];simp only[sliceRange_one,pick_run,List.size_toArray]<;>rfl
def Zh(K:W.Frag):V->Option Int->Option Int->Hp->VK->Prop:=λx b c H Q=>∃a xs,x=.ref a/\aR K H a xs/\∀p,H p=none->Q (.ref p) (upd H p (.lst (eJ xs b c)))
theorem AW:SR X (Zh X.K):=by
 intro d s σ H x v g n e f p Q I i j k l h;obtain⟨a,c,rfl,m,q⟩:=h
 cases i;obtain⟨d,r,g,h⟩:=I.list m;have d:=r.length;refine⟨"list",_,slot_list_getitem.lookup,g.isList.typeIs,?_⟩;refine wpAny_getItem_list_slice g.isList j k l .none (by simp) ?_ (by rw[List.size_toArray]<;>lia);rw[sT,<-d];refine⟨.ref s.heap.objs.size,_,I.laid (t':=s.toks) (o:=.lst (eJ c e f)) (λb d q=>K' _ q) (L' _) ?_,rfl,q _ (I.aW.fresh (L' _))⟩;exact⟨aap (p5 c e f) h,_,0,(r.drop (HT.eE c.length 0 e)).take (HT.eE c.length c.length f-HT.eE c.length 0 e),W' _ rfl⟩
def fZ:V->Bool
 | .bD=>true
 | .bl _=>true
 | .int _=>true
 | .str _=>true
 |_=>false
def DP:V->V->Bool
 | .bD,.bD=>true
 | .bl a,.bl b=>a==b
 | .bl a,.int b=>(if a then 1 else 0)==b
 | .int a,.bl b=>a==(if b then 1 else 0)
 | .int a,.int b=>a==b
 | .str a,.str b=>a==b
 |_,_=>false
theorem zc{A:Around}{s:Shared}{y x:V}{u v:Value}(e:RelV y u)(c:RelV x v)(g:fZ y=true)(f:fZ x=true):SeqAt.EqAt A s u v (DP y x):=by
 cases y with
 |bD=>
  cases e
  cases x with
  |bD=>cases c;calc SeqAt.EqAt.same _
  |bl b=>cases c;calc SeqAt.EqAt.none_bool b
  |int b=>obtain⟨t,rfl⟩:=c;calc SeqAt.EqAt.none_int b t
  |str b=>obtain⟨t,rfl⟩:=c;calc SeqAt.EqAt.none_str b t
  |_=>calc absurd (show false=true from f) V'
 |bl a=>
  cases e
  cases x with
  |bD=>cases c;calc SeqAt.EqAt.bool_none a
  |bl b=>cases c;calc SeqAt.EqAt.bool_bool a b
  |int b=>obtain⟨t,rfl⟩:=c;calc SeqAt.EqAt.bool_int a b t
  |str b=>obtain⟨t,rfl⟩:=c;calc SeqAt.EqAt.bool_str a b t
  |_=>calc absurd (show false=true from f) V'
 |int a=>
  obtain⟨d,rfl⟩:=e
  cases x with
  |bD=>cases c;calc SeqAt.EqAt.int_none a d
  |bl b=>cases c;calc SeqAt.EqAt.int_bool a d b
  |int b=>obtain⟨t,rfl⟩:=c;calc SeqAt.EqAt.int_int a d b t
  |str b=>obtain⟨t,rfl⟩:=c;calc SeqAt.EqAt.int_str a d b t
  |_=>calc absurd (show false=true from f) V'
 |str a=>
  obtain⟨d,rfl⟩:=e
  cases x with
  |bD=>cases c;calc SeqAt.EqAt.str_none a d
  |bl b=>cases c;calc SeqAt.EqAt.str_bool a d b
  |int b=>obtain⟨t,rfl⟩:=c;calc SeqAt.EqAt.str_int a d b t
  |str b=>obtain⟨t,rfl⟩:=c;calc SeqAt.EqAt.str_str a d b t
  |_=>calc absurd (show false=true from f) V'
 |_=>calc absurd (show false=true from g) V'
def JX(x:V)(u:Value):Bool:=match u with
 | .none=>DP .bD x
 | .bool b=>DP (.bl b) x
 | .int i _=>DP (.int i) x
 | .str z _=>DP (.str z) x
 |_=>false
theorem E3{x y:V}{u:Value}(r:RelV y u)(f:fZ y=true):JX x u=DP y x:=by
 cases y with
 |bD=>cases r;rfl
 |bl b=>cases r;rfl
 |int i=>obtain⟨t,rfl⟩:=r;rfl
 |str z=>obtain⟨t,rfl⟩:=r;rfl
 |_=>calc absurd (show false=true from f) V'
theorem vg{x:V}:∀{xs:List V}{us:List Value},Vals xs us->xs.all fZ=true->us.any (JX x)=xs.any λy=>DP y x
 |_,_,.nil,_=>rfl
 |y::xs,u::us,.cons r t,f=>by
  rw[List.all_cons,Bool.and_eq_true]at f;rw[List.any_cons,List.any_cons,E3 r f.1,vg t f.2]
theorem q8{A:Around}{s:Shared}{x:V}{v:Value}(b:RelV x v)(c:fZ x=true):∀{xs:List V}{us:List Value},Vals xs us->xs.all fZ=true->∀u∈us,SeqAt.EqAt A s u v (JX x u)
 |_,_,.nil,_=>λu a=>by cases a
 |y::xs,u::us,.cons r t,f=>λd a=>by
  rw[List.all_cons,Bool.and_eq_true]at f;rcases List.mem_cons.mp a with rfl|a
  ·rw[E3 r f.1];exact zc r b f.1 c
  ·calc q8 b c t f.2 d a
def AX(x:V)(xs:List V):Bool:=xs.any λy=>DP y x
def rIn(K:W.Frag)(a:Bool):R2:=λx y H Q=>∃p xs,y=.ref p/\(aR K H p xs\/bM K H p xs)/\fZ x=true/\xs.all fZ=true/\Q (.bl (if a then !AX x xs else AX x xs)) H
theorem Cn:gJ X (compareOp .In) (rIn X.K false):=by
 intro b s σ H x y v u Q I f d h;obtain⟨p,e,rfl,a,g,c,q⟩:=h
 cases d;rcases a with a|a
 ·obtain⟨b,r,d,h⟩:=I.list a;calc SeqAt.in_listAt (JX x) d.isList (λw e=>q8 f g r c w (by simpa using e)) ⟨.bl _,H,I,rfl,?_⟩;rw[show b.toArray.any (JX x)=b.any (JX x) by simp,vg r c];exact q
 ·obtain⟨b,r,d,h⟩:=I.tuple a;calc SeqAt.in_tupleAt (JX x) d (λw e=>q8 f g r c w (by simpa using e)) ⟨.bl _,H,I,rfl,?_⟩;rw[show b.toArray.any (JX x)=b.any (JX x) by simp,vg r c];calc q
theorem vh:eX X (.type "list") (λxs H Q=>∃p d,xs=[.ref p]/\(aR X.K H p d\/bM X.K H p d)/\∀l,H l=none->Q (.ref l) (upd H l (.lst d))):=by
 intro i s σ H xs o Q I r h;obtain⟨p,d,rfl,j,q⟩:=h;obtain⟨u,rfl,n⟩:=vals1 r
 cases n;have k:∀(c:List Value),Vals d c->d.length<=sizeLine->∀(a:Heap) (f:Nat),(∀b h,s.heap.get? b=some h->a.get? b=some h)->
   a.get? s.heap.objs.size=some {cls:=.type "list",dict:=none,data:=.seq c.toArray f,slots:=#[]}->EP X i σ Q (.ref s.heap.objs.size) {s with heap:=a}:=λc g m a f t e=>
  ⟨.ref s.heap.objs.size,_,I.laid (t':=s.toks) t (L' _) (show cC X.prog X.w _ a _ (.lst d) from⟨m,c,f,g,e⟩),rfl,q _ (I.aW.fresh (L' _))⟩
 rcases j with j|j
 ·obtain⟨c,g,h,m⟩:=I.list j;have d:=g.length;obtain⟨o,i,l,n,q⟩:=h.isList;exact call_list_seq p (.inl rfl) i l q (λa f t e=>k c g m a f t e) (by simp only[List.size_toArray]<;>lia)
 ·obtain⟨c,g,h,m⟩:=I.tuple j;have d:=g.length;obtain⟨o,i,l,n,q⟩:=h;calc call_list_seq p (.inr rfl) i l q (λa f t e=>k c g m a f t e) (by simp only[List.size_toArray]<;>lia)
theorem lP:eX X (.type "tuple") (λxs H Q=>∃p c,xs=[.ref p]/\((aR X.K H p c/\∀l,H l=none->Q (.ref l) (upd H l (.tup c)))\/(bM X.K H p c/\Q (.ref p) H))):=by
 intro a s σ H xs e Q I r h;obtain⟨p,c,rfl,h⟩:=h;obtain⟨u,rfl,d⟩:=vals1 r
 cases d;rcases h with⟨f,q⟩|⟨f,q⟩
 ·obtain⟨g,h,i,j⟩:=I.list f;have d:=h.length;calc call_tuple_list i.isList (λd e=>?_) (by simp only[List.size_toArray]<;>lia);have k:Inv X a σ H {s with heap:=d}:=I.kept (t':=s.toks) e;have m:Inv X a σ (upd H d.objs.size (.tup c)) {s with heap:=d.push {cls:=.type "tuple",data:=.seq g.toArray}}:=
   k.laid (t':=s.toks) (λb o e=>K' _ e) (L' _) (show cC X.prog X.w _ _ _ (.tup c) from⟨j,g,h,IsTup.new _ _⟩)
  exact⟨.ref d.objs.size,_,m,rfl,q _ (k.aW.fresh (L' _))⟩
 ·obtain⟨g,h,i,j⟩:=I.tuple f;calc call_tuple_same i ⟨.ref p,H,I,rfl,q⟩
def Zi(K:W.Frag)(T:String)(x:V)(H:Hp):Prop:=match x with
 | .str _=>T="str"
 | .int _=>T="int"
 | .ref p=>(T="list"/\∃xs,aR K H p xs)\/(T="tuple"/\∃o,K.lookup p=some o/\o.cls=.type "tuple"/\o.dict=none)\/
   (T="dict"/\((∃a,H p=some (.dK a))\/∃a,H p=some (.dT a)))\/(T="set"/\∃S n,H p=some (.set S n))
 |_=>False
theorem E4{pins:List (Addr×Obj)}{σ:St}{H:Hp}{s:Shared}{T:String}{x:V}{v:Value}(I:Inv X pins σ H s)(r:RelV x v)(f:Zi X.K T x H):
  s.TypeIs v T/\∀a,v=.ref a->∃c,s.heap.get? a=some c/\c.dict=none:=by
 cases x with
 |str z=>
  obtain⟨t,rfl⟩:=r
  cases(show T="str" from f);exact⟨typeIs_str s z t,λ_ e=>nomatch e⟩
 |int i=>
  obtain⟨t,rfl⟩:=r
  cases(show T="int" from f);exact⟨typeIs_int s i t,λ_ e=>nomatch e⟩
 |ref p=>
  cases r;rcases f with⟨rfl,m,k⟩|⟨rfl,o,b,l,g⟩|⟨rfl,b⟩|⟨rfl,S,n,b⟩
  ·obtain⟨c,_,j,_⟩:=I.list k;refine⟨j.isList.typeIs,λa e=>?_⟩
   cases e;obtain⟨o,n,e,c,g,_⟩:=j;exact⟨o,e,g⟩
  ·refine⟨⟨o,I.gG p o b,l⟩,λa e=>?_⟩
   cases e;exact⟨o,I.gG _ o b,g⟩
  ·have z:∃o,s.heap.get? p=some o/\o.ExactDict:=by
    rcases b with⟨c,b⟩|⟨c,b⟩
    ·obtain⟨_,_,_,_,o,_,_,e,d,_⟩:=I.aW p _ b;exact⟨o,e,d⟩
    ·obtain⟨_,_,_,_,o,_,_,e,d,_⟩:=I.aW p _ b;exact⟨o,e,d⟩
   obtain⟨o,e,d⟩:=z;refine⟨⟨o,e,d.1⟩,λa h=>?_⟩
   cases h;exact⟨o,e,d.2.1⟩
  ·obtain⟨o,_,_,_,e,d,_⟩:=I.aW p _ b;refine⟨⟨o,e,d.1⟩,λa h=>?_⟩
   cases h;calc⟨o,e,d.2.1⟩
 |_=>calc aam f
def OD(K:W.Frag)(T:String)(r:V->List V->Hp->VK->Prop)(b:TE):TE:=λσ H Q=>b σ H λx a=>Zi K T x a/\r x [] a Q
def Zj(K:W.Frag)(T:String)(r:V->List V->Hp->VK->Prop)(b:TE)(t:TA):TE:=λσ H Q=>b σ H λx a=>Zi K T x a/\t σ a λxs b=>r x xs b Q
variable {o e:Expr}{es:List Expr}{to:TE}{t:TA}{name:Str}{apos gI:Pos}{T id:String}{r:V->List V->Hp->VK->Prop}
theorem OE(d:PlainAttrs T)(a:Slot T name id)(e:typeOf (.builtin id)=pure (.type "method_descriptor"))(f:SW X id r)(b:PE X o to)
  (c:attributeBase o name X.env (eval o X.env)=eval o X.env:=by rfl) (g:(apos.endLine==gI.line)=true:=by rfl):PE X (.Call (.Attribute o name apos) [] [] gI) (OD X.K T r to):=by
 walk_at "xc";refine wpAny_Call_method0_late c g (cJ (b pins s σ H _ I h) λv i j=>?_);nofun;obtain⟨x,g,b,c,k,l⟩:=j;ac_rfl;obtain⟨m,n⟩:=E4 b c k;exact⟨T,id,d,a,e,m,n,Calls.callWith_builtin rfl (PySem.evalArgs_none (f pins i σ g x [] v [] Q b c .nil l))⟩
theorem dD(f:PlainAttrs T)(a:Slot T name id)(g:typeOf (.builtin id)=pure (.type "method_descriptor"))(i:SW X id r)(b:PE X o to)(j:PA X (e::es) t)
  (c:attributeBase o name X.env (eval o X.env)=eval o X.env:=by rfl)
  (d:((backTo gI (starEach (e::es) X.env)).all (λx=> !x.1) && (backToKw gI (keywordEach [] X.env)).all (λx=>x.1.isSome)
   && decide ((e::es).length + ([]:List Keyword).length + (if ([]:List Keyword).isEmpty then 0 else 1) < 30))=true:=by rfl)
  (k:(apos.endLine==gI.line)=true:=by rfl) (l:starEach (e::es) X.env=(false,eval e X.env)::starEach es X.env:=by rfl) (m:(backTo gI (starEach es X.env)).any (·.1)=false:=by rfl):
  PE X (.Call (.Attribute o name apos) (e::es) [] gI) (Zj X.K T r to t):=by
 walk_at "xc";refine wpAny_Call_method_late c d k rfl (cJ (b pins s σ H _ I h) λv n p=>?_);nofun;obtain⟨x,k,b,c,q,u⟩:=p;ac_rfl;obtain⟨w,y⟩:=E4 b c q;refine⟨T,id,f,a,g,w,y,?_⟩;have d:=j gI pins n σ k _ b u;rw[l]at d ⊢;refine Calls.callWith_builtin (by show(false||(backTo gI (starEach es X.env)).any (·.1))=false;rw[m]<;>rfl) (Calls.evalArgs_plain ?_);exact cJ d λa f ⟨g,p,q,w,y⟩=>i pins f σ p x g v a Q q c w y
end
end
section
def Xl(X:Cx)(a:String)(r:V->List V->Hp->VK->Prop):Prop:=
 ∀(pins:List (Addr×Obj)) (s:Shared) (σ:St) (H:Hp) (x:V) (xs:List V) (v:Value) (us:List Value) (Q:VK),Inv X pins σ H s->RelV x v->Vals xs us->r x xs H Q->
  wpAny (model X.prog X.w) X.A (call (.builtin a) (v::us)) (EP X pins σ Q) X.xe s
theorem Vals.one:∀{x:V}{us:List Value},Vals [x] us->∃u,us=[u]/\RelV x u
 |_,_,.cons r .nil=>⟨_,rfl,r⟩
theorem Vals.zero:∀{us:List Value},Vals [] us->us=[]
 |_,.nil=>rfl
theorem Vals.dropLast{xs:List V}{us:List Value}(h:Vals xs us):Vals xs.dropLast us.dropLast:=by
 induction h with
 |nil=>calc .nil
 |cons r t a=>
  cases t with
  |nil=>calc .nil
  |cons q b=>calc .cons r a
theorem Vals.eraseIdx:∀{xs:List V}{us:List Value}(i:Nat),Vals xs us->Vals (xs.eraseIdx i) (us.eraseIdx i)
 |_,_,_,.nil=>.nil
 |_,_,0,.cons _ t=>t
 |_,_,i+1,.cons r t=>.cons r (Vals.eraseIdx i t)
theorem zd{α:Type}(l:List α):l.eraseIdx (l.length-1)=l.dropLast:=by
 induction l with
 |nil=>rfl
 |cons a r c=>
  cases r with
  |nil=>rfl
  |cons b r=>
   have e:(a::b::r).length-1=((b::r).length-1)+1:=by
    have d:(a::b::r).length=r.length+2:=rfl;have a:(b::r).length=r.length+1:=rfl;lia
   rw[e,List.eraseIdx_cons_succ,c]
   all_goals rfl
theorem oH{α:Type}:∀(l:List α) (i:Nat),(l.eraseIdx i).length<=l.length
 | [],_=>L' _
 |_::_,0=>Nat.le_succ _
 |_::r,i+1=>Nat.succ_le_succ (oH r i)
section
variable {X:Cx}{pins:List (Addr×Obj)}{σ:St}{H:Hp}{s:Shared}{l b:Addr}{xs ys zs:List V}
theorem Inv.E5{a kf:List Value}{n:Nat}{f:Array Value->Array Value}{t':Nat}(I:Inv X pins σ H s)(b:H l=some (.lst xs))
  (e:s.heap.get? l=some {cls:=.type "list",data:=.seq a.toArray n}) (c:f a.toArray=kf.toArray) (d:Vals ys kf) (g:ys.length<=sizeLine):
  Inv X pins σ (upd H l (.lst ys)) {s with heap:=s.heap.update l (Obj.mapSeq f),toks:=t'}:=by
 have q:=PySem.IsL.update e f;rw[c]at q;calc I.write (x:=l) (e:=l) (by rw[b];calc trivial) (.inl rfl) (λe u a c=>(Heap.get?_update_other s.heap (Obj.mapSeq f) (Ne.symm a)).trans c) ⟨_,q⟩ ?_;calc⟨g,kf,_,d,q⟩
theorem Inv.Zk{a:List Value}{t':Nat}(I:Inv X pins σ H s)(b:Vals ys a)(c:ys.length<=sizeLine):
  Inv X pins σ (upd H s.heap.objs.size (.lst ys)) {s with heap:=s.heap.push {cls:=.type "list",data:=.seq a.toArray},toks:=t'}:=
 I.laid (λ_ _ q=>K' _ q) (L' _) ⟨c,a,0,b,W' _ rfl⟩
theorem Inv.fresh(I:Inv X pins σ H s):H s.heap.objs.size=none:=I.aW.fresh (L' _)
theorem Inv.wK(I:Inv X pins σ H s)(b:H l=some (.lst xs)):xs.length<=sizeLine/\∃(a:List Value) (n:Nat),Vals xs a/\xs.length=a.length/\s.heap.get? l=some {cls:=.type "list",data:=.seq a.toArray n}:=by
 obtain⟨z,a,n,r,e⟩:=I.aW l _ b;calc⟨z,a,n,r,r.length,e⟩
theorem E6{n:Nat}(h:n<=sizeLine):Builtin.List.listTooLong n=false:=by
 unfold Builtin.List.listTooLong;calc decide_eq_false (by lia)
end
section
variable {X:Cx}
def JY:V->List V->Hp->VK->Prop:=λx vs H Q=>∃l xs y,x=.ref l/\vs=[y]/\H l=some (.lst xs)/\xs.length<sizeLine/\Q .bD (upd H l (.lst (xs++[y])))
theorem ud:Xl X "list.append" JY:=by
 intro a s σ H x e v f Q I c d h;obtain⟨l,g,y,rfl,rfl,b,i,q⟩:=h
 cases c;obtain⟨u,rfl,f⟩:=d.one;obtain⟨z,a,n,r,c,e⟩:=I.wK b;calc call_meets F.slot_list_append ⟨_,e,rfl⟩ F.entry_list_append (F.args_list_append_2 _ _) (PySem.list_append l a.toArray n u (by rw[List.size_toArray];lia)) ⟨e,?_⟩;calc⟨.bD,_,I.E5 (kf:=a++[u]) b e (by simp) (r.append (.cons f .nil)) ?_,rfl,q⟩;rw[List.length_append,List.length_singleton];lia
def JZ:V->List V->Hp->VK->Prop:=λx vs H Q=>∃l b xs a,x=.ref l/\vs=[.ref b]/\H l=some (.lst xs)/\H b=some (.lst a)/\xs.length+a.length<=sizeLine/\Q .bD (upd H l (.lst (xs++a)))
theorem Cp:Xl X "list.extend" JZ:=by
 intro a s σ H x e v j Q I c d h;obtain⟨l,b,k,m,rfl,rfl,f,g,n,q⟩:=h
 cases c;obtain⟨u,rfl,i⟩:=d.one
 cases i;obtain⟨z,a,n,r,c,e⟩:=I.wK f;obtain⟨d,c,h,i,k,j⟩:=I.wK g;have d:a.toArray.size+c.toArray.size<=sizeLine:=by rw[List.size_toArray,List.size_toArray];lia
 have g:¬(!a.toArray.isEmpty&&Builtin.List.listTooLong (a.toArray.size+c.toArray.size))=true:=by
  rw[E6 d,Bool.and_false];exact V'
 refine call_meets F.slot_list_extend ⟨_,e,rfl⟩ F.entry_list_extend (F.args_list_extend_2 _ _)
  (AutoSeq1.list_extend_list_list_0 l a.toArray n b c.toArray h g (by rw[List.size_toArray];lia) (by lia)) ⟨e,j,?_⟩
 calc⟨.bD,_,I.E5 (kf:=a++c) f e (by simp) (r.append i) ?_,rfl,q⟩;rw[List.length_append];lia
def Zl:V->List V->Hp->VK->Prop:=λx vs H Q=>∃l xs y,x=.ref l/\vs=[]/\H l=some (.lst xs)/\xs[xs.length-1]?=some y/\Q y (upd H l (.lst xs.dropLast))
theorem OG:Xl X "list.pop" Zl:=by
 intro a s σ H x e v i Q I d f h;obtain⟨l,j,y,rfl,rfl,c,g,q⟩:=h
 cases d;have b:=f.zero;subst b;obtain⟨z,a,n,r,d,e⟩:=I.wK c;obtain⟨u,b,f⟩:=r.get g;have h:a.toArray[a.toArray.size-1]?=some u:=by
  show a.toArray[a.length-1]?=some u;rw[<-Array.getElem?_toList,<-d];exact b
 calc call_meets F.slot_list_pop ⟨_,e,rfl⟩ F.entry_list_pop (F.args_list_pop_1 _) (MeetsSeq.list_pop_last l a.toArray n u h (by rw[List.size_toArray];lia)) ⟨e,?_⟩;refine⟨y,_,I.E5 (kf:=a.dropLast) c e ?_ r.dropLast ?_,f,q⟩
 ·show a.toArray.eraseIdxIfInBounds (a.toArray.size-1)=a.dropLast.toArray;rw[List.size_toArray,List.eraseIdxIfInBounds_toArray,zd]
 ·rw[List.length_dropLast];lia
def OH:V->List V->Hp->VK->Prop:=λx vs H Q=>∃l xs i k y,x=.ref l/\vs=[.int i]/\H l=some (.lst xs)/\-(2^63)<=i/\i<2^63/\seqIndex? i xs.length=some k/\xs[k]?=some y/\Q y (upd H l (.lst (xs.eraseIdx k)))
theorem Ta:Xl X "list.pop" OH:=by
 intro a s σ H x e v n Q I c d h;obtain⟨l,f,i,k,y,rfl,rfl,b,g,j,m,o,q⟩:=h
 cases c;obtain⟨u,rfl,p⟩:=d.one;obtain⟨t,rfl⟩:=p;obtain⟨z,a,n,r,c,e⟩:=I.wK b;obtain⟨w,d,h⟩:=r.get o;refine call_meets F.slot_list_pop ⟨_,e,rfl⟩ F.entry_list_pop (F.args_list_pop_2 _ _)
  (MeetsSeq.list_pop_at l a.toArray n i t k w (fitsIndex_both g j) (by rw[List.size_toArray,<-c];calc m) (by rw[<-Array.getElem?_toList];calc d) (by rw[List.size_toArray];lia)) ⟨e,?_⟩
 refine⟨y,_,I.E5 (kf:=a.eraseIdx k) b e ?_ (r.eraseIdx k) ?_,h,q⟩
 ·show a.toArray.eraseIdxIfInBounds k=(a.eraseIdx k).toArray;rw[List.eraseIdxIfInBounds_toArray]
 ·have:=oH f k;lia
def Zm:R2:=λx y H Q=>∃l b xs a,x=.ref l/\y=.ref b/\H l=some (.lst xs)/\H b=some (.lst a)/\xs.length+a.length<=sizeLine/\∀p,H p=none->Q (.ref p) (upd H p (.lst (xs++a)))
theorem OI:gJ X (binaryOp .Add) Zm:=by
 intro a s σ H x y v u Q I c d h;obtain⟨l,b,e,i,rfl,rfl,f,g,j,q⟩:=h
 cases c
 cases d;obtain⟨z,a,n,r,b,e⟩:=I.wK f;obtain⟨h,b,i,c,j,d⟩:=I.wK g;calc PySem.P.add_list e d ?_ (by rw[List.size_toArray,List.size_toArray];lia);have f:a.toArray++b.toArray=(a++b).toArray:=by simp
 rw[f];calc⟨.ref _,_,I.Zk (t':=s.toks) (r.append c) (by rw[List.length_append];lia),rfl,q _ I.fresh⟩
theorem E8{pins:List (Addr×Obj)}{s:Shared}{σ:St}{H:Hp}{l:Addr}{xs:List V}{i:Int}{t:Tok}{k:Nat}{Q:Unit->Shared->Prop}(I:Inv X pins σ H s)(b:H l=some (.lst xs))
  (c:-(2^63)<=i) (d:i<2^63) (f:seqIndex? i xs.length=some k) (h:∀s',Inv X pins σ (upd H l (.lst (xs.eraseIdx k))) s'->Q () s'):
  wpAny (model X.prog X.w) X.A (delItem (.ref l) (.int i t)) Q X.xe s:=by
 obtain⟨z,a,n,r,g,e⟩:=I.wK b;calc PySem.P.delItem_list (k:=k) e (fitsIndex_both c d) (by rw[List.size_toArray,<-g];calc f) (h _ ?_) (by rw[List.size_toArray];lia);refine I.E5 (kf:=a.eraseIdx k) (t':=s.toks) b e ?_ (r.eraseIdx k) ?_
 ·show a.toArray.eraseIdxIfInBounds k=(a.eraseIdx k).toArray;rw[List.eraseIdxIfInBounds_toArray]
 ·have:=oH xs k;lia
end
section
variable {prog:Program}{w:World}{A:Around}{E:Value->Shared->Prop}{s:Shared}
set_option maxRecDepth 100000 in
end
section
variable {X:Cx}
end
end
section
variable {a:Addr}{X:Cx}{H H':Hp}{pins:List (Addr×Obj)}{xs:List (List Key×Addr×Value)}{aQ:List (List Key×V)}{yB:List (TE×TE)}{pos:Pos}{s:Shared}{σ:St}{Q:Value->Shared->Prop}
section
variable {κ:Type} [DecidableEq κ]
def eY(aQ:List (κ×V))(k:κ):Option V:=(aQ.find? λa=>decide (a.1=k)).map (·.2)
def putK(aQ:List (κ×V))(k:κ)(v:V):List (κ×V):=
 if (aQ.any λa=>decide (a.1=k))=true then aQ.map (λa=>if a.1=k then(a.1,v) else a) else aQ++[(k,v)]
theorem E9{k:κ}:eY ([]:List (κ×V)) k=none:=rfl
theorem eL{p:κ×V}{r:List (κ×V)}{k:κ}(e:p.1=k):eY (p::r) k=some p.2:=by simp[eY,List.find?_cons,e]
theorem eN{p:κ×V}{r:List (κ×V)}{k:κ}(e:¬p.1=k):eY (p::r) k=eY r k:=by simp[eY,List.find?_cons,e]
theorem kl(k:κ):∀aQ:List (κ×V),(aQ.any λa=>decide (a.1=k))=(eY aQ k).isSome
 | []=>rfl
 |p::r=>by
  rw[List.any_cons];by_cases e:p.1=k
  ·simp only[eL e,decide_eq_true e,Bool.true_or,Option.isSome_some]
  ·rw[eN e,decide_eq_false e,Bool.false_or];calc kl k r
theorem wL(k j:κ)(y:V):∀aQ:List (κ×V),eY (aQ.map λa=>if a.1=k then(a.1,y) else a) j=(eY aQ j).map λx=>if j=k then y else x
 | []=>rfl
 |p::r=>by
  have a:=wL k j y r;rw[List.map_cons];by_cases h:p.1=k
  ·rw[if_pos h];by_cases e:p.1=j
   ·rw[eL (p:=(p.1,y)) e,eL e,Option.map_some,if_pos (e.symm.trans h)]
   ·rw[eN (p:=(p.1,y)) e,eN e,a]
  ·rw[if_neg h];by_cases e:p.1=j
   ·rw[eL (p:=p) e,eL e,Option.map_some,if_neg (λz=>h (e.trans z))]
   ·rw[eN (p:=p) e,eN e,a]
theorem ue(k j:κ)(y:V):∀aQ:List (κ×V),eY aQ k=none->eY (aQ++[(k,y)]) j=if j=k then some y else eY aQ j
 | [],_=>by
  by_cases e:k=j
  ·rw[if_pos e.symm];exact eL (p:=(k,y)) e
  ·rw[if_neg (λz=>e z.symm)];calc eN (p:=(k,y)) e
 |p::r,a=>by
  rw[List.cons_append];have b:¬p.1=k:=λz=>by rw[eL z]at a;cases a
  rw[eN b]at a;have c:=ue k j y r a;by_cases e:p.1=j
  ·rw[eL e,eL e,if_neg (λz=>b (e.trans z))]
  ·rw[eN e,eN e,c]
theorem q9(aQ:List (κ×V))(k j:κ)(y:V):eY (putK aQ k y) j=if j=k then some y else eY aQ j:=by
 unfold putK;by_cases a:(aQ.any λb=>decide (b.1=k))=true
 ·rw[if_pos a,wL];rw[kl] at a;by_cases e:j=k
  ·obtain⟨x,b⟩:=Option.isSome_iff_exists.mp a;rw[if_pos e,e,b,Option.map_some,if_pos rfl]
  ·rw[if_neg e]
   cases eY aQ j with
   |none=>rfl
   |some x=>rw[Option.map_some,if_neg e]
 ·rw[if_neg a];calc ue k j y aQ ?_;rw[kl] at a
  cases q:eY aQ k with
  |none=>rfl
  |some x=>rw[q]at a;calc(a rfl).elim
theorem km(aQ:List (κ×V))(k:κ)(v:V):(putK aQ k v).length<=aQ.length+1:=by
 unfold putK;split
 ·rw[List.length_map];lia
 ·rw[List.length_append,List.length_cons,List.length_nil];lia
theorem wM{aQ:List (κ×V)}{k:κ}(v:V)(h:eY aQ k=none):putK aQ k v=aQ++[(k,v)]:=by
 unfold putK;rw[kl,h];calc if_neg (by decide)
theorem iR.oI{o:Option V}{u:Option Value}(r:iR o u):o.isSome=u.isSome:=by
 cases o with
 |none=>cases u with
  |none=>rfl
  |some _=>calc(show False from r).elim
 |some _=>cases u with
  |none=>calc(show False from r).elim
  |some _=>rfl
theorem iR.getD{o:Option V}{u:Option Value}{d:V}{d':Value}(r:iR o u)(a:RelV d d'):RelV (o.getD d) (u.getD d'):=by
 cases o with
 |none=>cases u with
  |none=>calc a
  |some _=>calc(show False from r).elim
 |some _=>cases u with
  |none=>calc(show False from r).elim
  |some _=>calc r
theorem KV.val{aQ:List (κ×V)}{vs:List (κ×Value)}(r:KV aQ vs)(k:κ):iR (eY aQ k) (valueAt vs k):=by
 unfold KV at r;induction r with
 |nil=>calc aaw
 | @cons p q b a h t g=>
  obtain⟨d,i⟩:=h;by_cases e:p.1=k
  ·have c:q.1=k:=d.symm.trans e;have b:valueAt (q::a) k=some q.2:=by simp[valueAt,List.find?_cons,c]
   rw[eL e,b];exact i
  ·have c:¬q.1=k:=λz=>e (d.trans z);have b:valueAt (q::a) k=valueAt a k:=by simp[valueAt,List.find?_cons,c]
   rw[eN e,b];calc g
theorem KV.any{aQ:List (κ×V)}{vs:List (κ×Value)}(r:KV aQ vs)(k:κ):(aQ.any λa=>decide (a.1=k))=vs.any λa=>decide (a.1=k):=by
 unfold KV at r;induction r with
 |nil=>rfl
 |cons h t a=>rw[List.any_cons,List.any_cons,a,h.1]
theorem KV.OJ{aQ:List (κ×V)}{vs:List (κ×Value)}(r:KV aQ vs)(k:κ){y:V}{u:Value}(b:RelV y u):
  KV (aQ.map λa=>if a.1=k then(a.1,y) else a) (vs.map λa=>if a.1=k then(a.1,u) else a):=by
 unfold KV at r ⊢;induction r with
 |nil=>calc .nil
 | @cons p q a d h t c=>
  rw[List.map_cons,List.map_cons];calc .cons ?_ c;obtain⟨a,d⟩:=h;by_cases e:p.1=k
  ·rw[if_pos e,if_pos (a.symm.trans e)];exact⟨a,b⟩
  ·rw[if_neg e,if_neg (λz=>e (a.trans z))];calc⟨a,d⟩
theorem KV.put{aQ:List (κ×V)}{vs:List (κ×Value)}(r:KV aQ vs)(k:κ){y:V}{u:Value}(a:RelV y u):KV (putK aQ k y) (stored vs k u):=by
 unfold putK stored;rw[r.any k];by_cases e:(vs.any λb=>decide (b.1=k))=true
 ·rw[if_pos e,if_pos e];exact r.OJ k a
 ·rw[if_neg e,if_neg e];calc Paired.snoc r ⟨rfl,a⟩
theorem KV.length{aQ:List (κ×V)}{vs:List (κ×Value)}(r:KV aQ vs):aQ.length=vs.length:=Paired.length r
end
theorem uf{P:Program}{w:World}{k:Key}{u:Value}(r:RelV (kV k) u):(cX P w).is k u=true:=by
 cases k with
 |inl i=>obtain⟨t,e⟩:=(show ∃t,u=Value.int i t from r);subst e;calc wt P w i t
 |inr x=>obtain⟨t,e⟩:=(show ∃t,u=Value.str x t from r);subst e;calc wu P w x t
theorem ug{P:Program}{w:World}:∀{a:List Key}{us:List Value},Vals (a.map kV) us->ItemsAre (cX P w) a us
 | [],_,r=>by rw[List.map_nil]at r;cases r;calc .nil
 |k::a,_,r=>by
  rw[List.map_cons]at r
  cases r with
  |cons h t=>calc .cons (uf h) (ug t)
abbrev KT(H:Hp):List (List Key×V)->List (List Key×Addr×Value)->Prop:=Paired λp q=>p.1=q.1/\H q.2.1=some (.tup (p.1.map kV))/\RelV p.2 q.2.2
theorem KT.val{H:Hp}{aQ:List (List Key×V)}{xs:List (List Key×Addr×Value)}(r:KT H aQ xs)(k:List Key):iR (eY aQ k) ((atKey xs k).map (·.2)):=by
 induction r with
 |nil=>calc aaw
 | @cons p q b a h t g=>
  obtain⟨d,_,i⟩:=h;by_cases e:p.1=k
  ·have c:q.1=k:=d.symm.trans e;have b:atKey (q::a) k=some q.2:=by simp[atKey,List.find?_cons,c]
   rw[eL e,b];exact i
  ·have c:¬q.1=k:=λz=>e (d.trans z);have b:atKey (q::a) k=atKey a k:=by simp[atKey,List.find?_cons,c]
   rw[eN e,b];calc g
theorem KT.OJ{H:Hp}{aQ:List (List Key×V)}{xs:List (List Key×Addr×Value)}(r:KT H aQ xs)(k:List Key){y:V}{u:Value}(c:RelV y u):
  KT H (aQ.map λa=>if a.1=k then(a.1,y) else a) (xs.map (putAt k u)):=by
 induction r with
 |nil=>calc .nil
 | @cons p q a b h t d=>
  rw[List.map_cons,List.map_cons];calc .cons ?_ d;obtain⟨a,b,g⟩:=h;unfold putAt;by_cases e:p.1=k
  ·rw[if_pos e,if_pos (a.symm.trans e)];exact⟨a,b,c⟩
  ·rw[if_neg e,if_neg (λz=>e (a.trans z))];calc⟨a,b,g⟩
theorem KT.put(r:KT H aQ xs)(k:List Key){b:Addr}{y:V}{u:Value}(c:H b=some (.tup (k.map kV)))(a:RelV y u):
  KT H (putK aQ k y) (storedH xs k b u):=by
 have e:(aQ.any λb=>decide (b.1=k))=(atKey xs k).isSome:=by
  rw[kl,(r.val k).oI,Option.isSome_map]
 unfold putK storedH;rw[e];by_cases q:(atKey xs k).isSome=true
 ·rw[if_pos q,if_pos q];exact r.OJ k a
 ·rw[if_neg q,if_neg q];calc Paired.snoc r ⟨rfl,c,a⟩
theorem KT.keeps(r:KT H aQ xs)(c:∀b a,H b=some (.tup a)->H' b=some (.tup a)):KT H' aQ xs:=
 Paired.NR r λ_ _ z=>⟨z.1,c _ _ z.2.1,z.2.2⟩
section
variable {P:Program}{w:World}{H:Hp}{h:Heap}{a:Addr}
theorem L6{u:HO}(ok:lN P w H h)(e:Rd H a u):cC P w H h a u:=e.ok ok
theorem uh{aQ:List (Key×V)}(b:lN P w H h)(e:Rd H a (.dK aQ)):aQ.length<=sizeLine/\(a==sysModules)=false/\∃vs,KV aQ vs/\h.DictOf (cX P w) a vs:=
 show cC P w H h a (.dK aQ) from L6 b e
theorem L7{aQ:List (Key×V)}(b:lN P w H h)(e:H a=some (.dK aQ)):aQ.length<=sizeLine/\(a==sysModules)=false/\∃vs,KV aQ vs/\h.DictOf (cX P w) a vs:=uh b (.inl e)
theorem rg{b:List Key}(c:lN P w H h)(e:H a=some (.tup (b.map kV))):(tupleKind (cX P w)).is h b a:=by
 obtain⟨_,d,r,o,f,g,n,i⟩:=(show cC P w H h a (.tup (b.map kV)) from c a _ e)
 calc⟨o,d.toArray,n,f,g,i,by simpa using ug r⟩
theorem ui(d:lN P w H h)(e:Rd H a (.dT aQ)):aQ.length<=sizeLine/\(a==sysModules)=false/\
  ∃xs,KT H aQ xs/\h.DictOfH (tupleKind (cX P w)) a xs:=by
 obtain⟨z,y,xs,r,o,g,i,j,k,n,p,s⟩:=(show cC P w H h a (.dT aQ) from L6 d e)
 calc⟨z,y,xs,r,o,g,i,j,k,n,p,λx b=>?_,s⟩;have c:∀{l:List (List Key×V)} {m:List (List Key×Addr×Value)},KT H l m->∀x∈m,(tupleKind (cX P w)).is h x.1 x.2.1:=by
  intro l m q;induction q with
  |nil=>intro x b;calc nomatch b
  | @cons p q g i f t u=>
   intro x b;rcases List.mem_cons.mp b with e|b
   ·subst e;exact rg d (by rw[<-f.1];calc f.2.1)
   ·exact u x b
 calc c r x b
theorem L8(b:lN P w H h)(e:H a=some (.dT aQ)):aQ.length<=sizeLine/\(a==sysModules)=false/\
  ∃xs,KT H aQ xs/\h.DictOfH (tupleKind (cX P w)) a xs:=ui b (.inl e)
end
def gc(H:Hp)(a:Addr)(y:V)(r:Option V):Prop:=
 (∃aQ k,Rd H a (.dK aQ)/\y=kV k/\r=eY aQ k)\/∃aQ k b,Rd H a (.dT aQ)/\y=.ref b/\H b=some (.tup (k.map kV))/\r=eY aQ k
def oJ(H:Hp)(a:Addr)(y v:V)(H':Hp):Prop:=
 (∃aQ k,H a=some (.dK aQ)/\y=kV k/\aQ.length<sizeLine/\H'=upd H a (.dK (putK aQ k v)))\/
 ∃aQ k b,H a=some (.dT aQ)/\y=.ref b/\H b=some (.tup (k.map kV))/\aQ.length<sizeLine/\H'=upd H a (.dT (putK aQ k v))
theorem gc.k{aQ:List (Key×V)}{k:Key}(e:H a=some (.dK aQ)):gc H a (kV k) (eY aQ k):=.inl ⟨aQ,k,.inl e,rfl,rfl⟩
theorem gc.t{b:Addr}{k:List Key}(e:H a=some (.dT aQ))(c:H b=some (.tup (k.map kV))):gc H a (.ref b) (eY aQ k):=.inr ⟨aQ,k,b,.inl e,rfl,c,rfl⟩
theorem oJ.k{aQ:List (Key×V)}{k:Key}{v:V}(e:H a=some (.dK aQ))(b:aQ.length<sizeLine):oJ H a (kV k) v (upd H a (.dK (putK aQ k v))):=.inl ⟨aQ,k,e,rfl,b,rfl⟩
theorem oJ.t{b:Addr}{k:List Key}{v:V}(e:H a=some (.dT aQ))(c:H b=some (.tup (k.map kV)))(d:aQ.length<sizeLine):
  oJ H a (.ref b) v (upd H a (.dT (putK aQ k v))):=.inr ⟨aQ,k,b,e,rfl,c,d,rfl⟩
section
variable {X:Cx}{pins:List (Addr×Obj)}{σ:St}{H:Hp}{s:Shared}{a:Addr}{y v:V}{u r:Value}{o:Option V}{A:Around}{E:Value->Shared->Prop}
theorem Inv.big(I:Inv X pins σ H s):sysModules<s.heap.objs.size:=by
 have h:mainGlobals<s.heap.objs.size:=(I.mod.glob.keeps I.bk).lt;calc Nat.lt_trans (by decide) h
theorem uj(n:A.units+1<cLine)(I:Inv X pins σ H s)(g:gc H a y (some v))(m:RelV y u)(h:∀w' s',Inv X pins σ H s'->RelV v w'->Q w' s'):
  wpAny (model X.prog X.w) A (getItem (.ref a) u) Q E s:=by
 rcases g with⟨aQ,k,e,d,l⟩|⟨aQ,k,b,e,d,q,l⟩
 ·subst d;obtain⟨z,p,g,c,f⟩:=uh I.aW e;obtain⟨w',i,j⟩:=iR.some_of (v:=v) (o:=valueAt g k) (by rw[l];calc c.val k);exact wpAny_getItem_of (uf m) f.mapOf i (h w' _ (I.tok _) j)
 ·subst d
  cases(show u=Value.ref b from m);obtain⟨z,p,xs,c,f⟩:=ui I.aW e;obtain⟨w',i,j⟩:=iR.some_of (v:=v) (o:=(atKey xs k).map (·.2)) (by rw[l];calc c.val k);obtain⟨p,b,d⟩:=Option.map_eq_some_iff.mp i;calc wpAny_getItem_heap (tupleKind_room_in1 n) (rg I.aW q) f b ?_;rw[d];calc h w' _ (I.tok _) j
theorem J0(m:A.units+1<cLine)(I:Inv X pins σ H s)(g:gc H a y o)(j:RelV y u)(h:∀s',Inv X pins σ H s'->Q (.bool (!o.isSome)) s'):
  wpAny (model X.prog X.w) A (compareOp .NotIn u (.ref a)) Q E s:=by
 rcases g with⟨aQ,k,e,d,l⟩|⟨aQ,k,b,e,d,n,l⟩
 ·subst d;obtain⟨z,f,g,c,i⟩:=uh I.aW e;calc wpAny_notIn_of (uf j) f i.mapOf ?_;rw[<-(c.val k).oI,<-l];exact h _ (I.tok _)
 ·subst d
  cases(show u=Value.ref b from j);obtain⟨z,f,xs,c,i⟩:=ui I.aW e;calc wpAny_notIn_heap (tupleKind_room_in1 m) (rg I.aW n) f i ?_;have q:=(c.val k).oI;rw[Option.isSome_map]at q;rw[<-q,<-l];calc h _ (I.tok _)
theorem vi{h':Heap}{t':Nat}{b:HO}(I:Inv X pins σ H s)(d:So (H a))(f:Heap.SameBut a s.heap h')(g:∃q,h'.get? a=some q)(c:cC X.prog X.w (upd H a b) h' a b):
  Inv X pins σ (upd H a b) {s with heap:=h',toks:=t'}:=
 I.write (x:=a) (e:=a) d (.inl rfl) (λb q h z=>(f.2 b h).trans z) g c
theorem Fb{P:Program}{w:World}{h':Heap}{aQ:List (Key×V)}{vs:List (Key×Value)}(z:aQ.length<=sizeLine)(c:(a==sysModules)=false)(b:KV aQ vs)(d:h'.DictOf (cX P w) a vs):
  cC P w H' h' a (.dK aQ):=⟨z,c,vs,b,d⟩
theorem Cr{Q:Unit->Shared->Prop}(G:A.units+1<cLine)(I:Inv X pins σ H s)(g:oJ H a y v H')(B:RelV y u)(C:RelV v r)(h:∀s',Inv X pins σ H' s'->Q () s'):
  wpAny (model X.prog X.w) A (setItem (.ref a) u r) Q E s:=by
 rcases g with⟨aQ,k,e,c,l,j⟩|⟨aQ,k,b,e,c,D,l,j⟩
 ·subst c j;obtain⟨z,m,g,d,n⟩:=L7 I.aW e;have o:g.length<=sizeLine:=by rw[<-d.length];exact z
  have p:(putK aQ k v).length<=sizeLine:=by have:=km aQ k v;lia
  calc wpAny_setItem_pairs (hsz:=o) (uf B) n λF f x=>h _ ?_;have g:∃q,F.get? a=some q:=let ⟨q,_,_,i,_⟩:=f;⟨q,i⟩
  exact vi I (by rw[e];calc aaw) x g (Fb p m (d.put k C) f)
 ·subst c j
  cases(show u=Value.ref b from B);obtain⟨z,m,xs,d,n⟩:=L8 I.aW e;have o:xs.length<=sizeLine:=by rw[<-Paired.length d];exact z
  have p:(putK aQ k v).length<=sizeLine:=by have:=km aQ k v;lia
  calc wpAny_setItem_heap (hsz:=o) (tupleKind_room_in1 G) (rg I.aW D) n λF f x=>h _ ?_;obtain⟨q,g,j,i,l,n,o,_,t⟩:=f;calc vi I (by rw[e];calc aaw) x ⟨q,i⟩ ⟨p,m,_,(d.put k D C).keeps λc h b=>?_,q,g,j,i,l,n,o,t⟩;rw[ay (Sn b e (λz=>nomatch z))];calc b
end
section
variable {X:Cx}{pins:List (Addr×Obj)}{σ:St}{H:Hp}{s:Shared}{a:Addr}{aQ:List (Key×V)}{k:Key}{u:Value}{A:Around}{E:Value->Shared->Prop}
end
def Tb(i:Expr):Prop:=∀a b,subscripted i false a b=operate [a,b] (getItem a b)
theorem J2{prog:Program}{w:World}{A:Around}{E:Value->Shared->Prop}{env:Env}{b a:Expr}{T c:String}
  (j:typeLookup (.type T) "__getitem__"=pure (some (.builtin c))) (k:Tb a)
  (h:wpAny (model prog w) A (eval b env) (λo d=>wpAny (model prog w) A (eval a env) (λi c=>c.TypeIs o T/\wpAny (model prog w) A (getItem o i) Q E c) E d) E s):
  wpAny (model prog w) A (eval (.Subscript b a pos) env) Q E s:=by
 calc Subscript_ (aat h (λo d e=>aat e (λi c d=>?_) λ_ _ x=>x) λ_ _ x=>x);obtain⟨g,d⟩:=d;unfold subscriptTail;calc J' ?_;rw[getitemInPython_of_ne g.not_modules];calc J' (wpAny_specialOf g j ?_);have f:wpAny (model prog w) A (subscripted a false o i) (λr e=>wpAny (model prog w) A (letTemporaryGo b o r >>= λ_=>pure r) Q E e) E c:=by
  rw[k o i];exact wpAny_operating (aat d (λr e a=>J' (wpAny_letTemporaryGo (R' a))) λ_ _ x=>x)
 first
  |calc R' (J' f)
  |calc J' (R' (J' f))
  |calc J' f
theorem p7{y:V}{o:Option V}(I:Inv X pins σ H s)(g:gc H a y o):s.TypeIs (.ref a) "dict":=by
 rcases g with⟨aQ,k,e,_,_⟩|⟨aQ,k,b,e,_,_,_⟩
 ·obtain⟨_,_,c,_,b⟩:=uh I.aW e;exact b.typeIs
 ·obtain⟨_,_,xs,_,b⟩:=ui I.aW e;calc b.typeIs
def Fc(b c:TE):TE:=λσ H Q=>b σ H λx d=>c σ d λy b=>∃a v,x=.ref a/\gc b a y (some v)/\Q v b
def Tc(b c:TE):TE:=λσ H Q=>b σ H λy d=>c σ d λx b=>∃a o,x=.ref a/\gc b a y o/\Q (.bl o.isSome) b
def vj(b c:TE):TE:=λσ H Q=>b σ H λy d=>c σ d λx b=>∃a o,x=.ref a/\gc b a y o/\Q (.bl (!o.isSome)) b
def Fe(b c d:TE):TS:=λD σ H=>d σ H λv e=>b σ e λx d=>c σ d λy e=>∃a b,x=.ref a/\oJ e a y v b/\D.nx σ b
section
variable {X:Cx}{o i e value:Expr}{pos pos' JP:Pos}{td ty tv:TE}
theorem AY(c:X.A.units+1<cLine)(d:PE X o td)(e:PE X i ty)(f:Tb i):PE X (.Subscript o i pos) (Fc td ty):=by
 walk_at "xc";refine J2 PySem.F.slot_dict_getitem.lookup f (cJ (d pins s σ H _ I h) λu j ⟨x,k,l,m,n⟩=>cJ (e pins j σ k _ l n) λd f p=>?_);nofun;obtain⟨y,q,b,r,a,v,t,g,w⟩:=p;ac_rfl;subst t;obtain rfl:u=Value.ref a:=m;exact⟨p7 b g,uj c b g r λf j d e=>⟨v,q,d,e,w⟩⟩
theorem Cs(b:X.A.units+1<cLine)(c:PE X i ty)(d:PE X o td):PC X .NotIn i o (vj ty td):=by
 walk_at "xc";refine cJ (c pins s σ H _ I h) λw e ⟨y,f,j,k,l⟩=>cJ (d pins e σ f _ j l) λu c m=>?_;nofun;obtain⟨x,n,p,q,a,r,t,g,v⟩:=m;ac_rfl;subst t;obtain rfl:u=Value.ref a:=q;exact J0 b p g k λd c=>⟨.bl (!r.isSome),n,c,rfl,v⟩
theorem jO(b:X.A.units+1<cLine)(c:PE X o td)(d:PE X i ty)(e:PE X value tv)(f:swapsWith value (some (.Subscript o i pos')) pos.line X.env=pure false):
  PS X (.Assign [.Subscript o i pos'] value pos) (Fe td ty tv):=by
 walk_at "xd";refine wpAny_Assign_Subscript (cJ (e pins s σ H _ I h) λr j ⟨v,k,l,m,n⟩=>cJ (c pins j σ k _ l n) λu e ⟨x,p,q,t,r⟩=>cJ (d pins e σ p _ q r) λc j w=>?_) f;nofun;obtain⟨y,c,z,B,a,C,E,g,F⟩:=w;ac_rfl;subst E;obtain rfl:u=Value.ref a:=t;exact Cr b z g B m λd c=>⟨σ,C,c,F⟩
end
theorem wN{P:Program}{w:World}(h:Heap)(a:sysModules<h.objs.size):cC P w H (h.push {cls:=.type "dict",data:=.dict #[]}) h.objs.size (.dK []):=
 ⟨aav _,beq_eq_false_iff_ne.mpr (Ne.symm (X' a)),[],.nil,Heap.DictOf.new h⟩
theorem Ff{P:Program}{w:World}(h:Heap)(a:sysModules<h.objs.size):cC P w H (h.push {cls:=.type "dict",data:=.dict #[]}) h.objs.size (.dT []):=
 ⟨aav _,beq_eq_false_iff_ne.mpr (Ne.symm (X' a)),[],.nil,_,#[],0,W' _ rfl,⟨rfl,rfl,rfl⟩,rfl,rfl,List.nodup_nil⟩
def ze:TE:=λ_ H Q=>∀p,H p=none->Q (.ref p) (upd H p (.dK []))
def zf:TE:=λ_ H Q=>∀p,H p=none->Q (.ref p) (upd H p (.dT []))
section
variable {X:Cx}{pos:Pos}
theorem Fg:PE X (.Dict [] [] pos) ze:=.mk λpins s σ H Q I h=>
 wpAny_Dict_empty ⟨.ref s.heap.objs.size,_,I.laid (a:=s.heap.objs.size) (o:=.dK []) (t':=s.toks) (λ_ _ q=>K' _ q) (L' _) (wN s.heap I.big),rfl,h _ (I.aW.fresh (L' _))⟩
theorem Fh:PE X (.Dict [] [] pos) zf:=.mk λpins s σ H Q I h=>
 wpAny_Dict_empty ⟨.ref s.heap.objs.size,_,I.laid (a:=s.heap.objs.size) (o:=.dT []) (t':=s.toks) (λ_ _ q=>K' _ q) (L' _) (Ff s.heap I.big),rfl,h _ (I.aW.fresh (L' _))⟩
end
def oK:List (TE×TE)->St->Hp->(List (V×V)->Hp->Prop)->Prop
 | [],_,H,Q=>Q [] H
 |(a,b)::r,σ,H,Q=>a σ H λx c=>b σ c λy a=>oK r σ a λb c=>Q ((x,y)::b) c
abbrev VV:List (V×V)->List (Value×Value)->Prop:=Paired λp q=>RelV p.1 q.1/\RelV p.2 q.2
def Xm(X:Cx)(pos:Pos)(b:List (Option Expr))(a:List Expr)(yB:List (TE×TE)):Prop:=
 ∀(pins:List (Addr×Obj)) (s:Shared) (σ:St) (H:Hp) (Q:List (V×V)->Hp->Prop),Inv X pins σ H s->oK yB σ H Q->
  wpAny (model X.prog X.w) X.A (evalPairs (pairTrees b a X.env pos)) (λvs s'=>∃a H',Inv X pins σ H' s'/\VV a vs/\Q a H') X.xe s
theorem J3:Xm X pos [] [] []:=λpins s σ H Q I h=>pairTrees_nil_walk ⟨[],H,I,.nil,h⟩
theorem rj{k v:Expr}{a:List (Option Expr)}{vs:List Expr}{b c:TE}(d:PE X k b)(e:PE X v c)(f:Xm X pos a vs yB):
  Xm X pos (some k::a) (v::vs) ((b,c)::yB):=λpins s σ H Q I h=>
 pairTrees_cons_walk (cJ (d pins s σ H _ I h) λu a ⟨x,b,c,g,i⟩=>cJ (e pins a σ b _ c i) λm d ⟨y,h,j,k,l⟩=>
  cJ (f pins d σ h _ j l) λm n ⟨b,c,e,a,i⟩=>⟨(x,y)::b,c,e,.cons ⟨g,k⟩ a,i⟩)
def lU(aQ a:List (Key×V)):List (Key×V):=a.foldl (λb c=>putK b c.1 c.2) aQ
theorem KV.merge:∀{a:List (Key×V)}{b:List (Key×Value)}{aQ:List (Key×V)}{vs:List (Key×Value)},KV a b->KV aQ vs->KV (lU aQ a) (merged vs b):=by
 intro a b aQ vs r;unfold KV at r;induction r generalizing aQ vs with
 |nil=>intro q;calc q
 | @cons p q b c h t a=>
  intro b;have e:KV (putK aQ p.1 p.2) (stored vs q.1 q.2):=by
   have:=b.put p.1 h.2;rw[<-h.1];exact this
  calc a e
theorem lQ:∀(a aQ:List (Key×V)),(lU aQ a).length<=aQ.length+a.length
 | [],aQ=>by show aQ.length<=aQ.length+0;lia
 |p::r,aQ=>by
  have a:=lQ r (putK aQ p.1 p.2);have a:=km aQ p.1 p.2;show(lU (putK aQ p.1 p.2) r).length<=_;rw[List.length_cons];lia
theorem rm{P:Program}{w:World}:∀{aQ:List (Key×V)}{b:List (Value×Value)},VV (aQ.map λc=>(kV c.1,c.2)) b->∃d,Carries (cX P w) b d/\KV aQ d
 | [],_,r=>by rw[List.map_nil]at r;cases r;calc⟨[],aaw,.nil⟩
 |p::aQ,_,r=>by
  rw[List.map_cons]at r
  cases r with
  | @cons a b c e h t=>
   obtain⟨d,c,q⟩:=rm (P:=P) (w:=w) t;obtain⟨f,e⟩:=b;calc⟨(p.1,e)::d,⟨uf h.1,rfl,c⟩,.cons ⟨rfl,h.2⟩ q⟩
def AZ(yB:List (TE×TE)):TE:=λσ H Q=>∀p,H p=none->oK yB σ (upd H p (.dK [])) λc a=>a p=some (.dK [])/\∃aQ:List (Key×V),c=aQ.map (λb=>(kV b.1,b.2))/\aQ.length<=15/\Q (.ref p) (upd a p (.dK (lU [] aQ)))
theorem J4{b:List (Option Expr)}{d:List Expr}(h:Xm X pos b d yB)(k:b.all (·.isSome)=true)(l:b.length=d.length)(m:b≠[])
  (f:b.length<=15):PE X (.Dict b d pos) (AZ yB):=by
 refine⟨?_⟩;intro pins s σ H Q I q;have b:=I.aW.fresh (L' s.heap.objs.size);have d:=I.laid (a:=s.heap.objs.size) (o:=.dK []) (h':=s.heap.push {cls:=.type "dict",data:=.dict #[]}) (t':=s.toks) (λ_ _ q=>K' _ q) (L' _) (wN s.heap I.big);refine wpAny_Dict_walk (knd:=cX X.prog X.w) k l m f (cJ (h pins _ σ _ _ d (q _ b)) λz A n=>?_);nofun;obtain⟨b,d,j,g,e,aQ,p,f,r⟩:=n;ac_rfl;subst p;obtain⟨t,c,u⟩:=rm (P:=X.prog) (w:=X.w) g;obtain⟨z,v,b,x,y⟩:=L7 j.aW e
 cases x;calc⟨t,c,y,λi b d=>⟨.ref s.heap.objs.size,_,?_,rfl,r⟩⟩;have c:(lU [] aQ).length<=sizeLine:=by
  have f:=lQ aQ [];rw[List.length_nil]at f;rw[sizeLine_eq];lia
 have f:∃q,i.get? s.heap.objs.size=some q:=let ⟨q,_,_,g,_⟩:=b;⟨q,g⟩
 calc vi j (by rw[e];calc aaw) d f (Fb c v (u.merge .nil) b)
structure M1(X:Cx)(o:Expr)(m:Str)(apos:Pos)(e:Expr)(gI:Pos):Prop where
 base:attributeBase o m X.env (eval o X.env)=eval o X.env
 L9:((backTo gI (starEach [e] X.env)).all (λx=> !x.1) && (backToKw gI (keywordEach [] X.env)).all (λx=>x.1.isSome)
  && decide (([e]:List Expr).length + ([]:List Keyword).length + (if ([]:List Keyword).isEmpty then 0 else 1) < 30))=true
 line:(apos.endLine==gI.line)=true
 trees:backTo gI (starEach [e] X.env)=[(false,eval e X.env)]
structure M2(X:Cx)(o:Expr)(m:Str)(apos:Pos)(e f:Expr)(gI:Pos):Prop where
 base:attributeBase o m X.env (eval o X.env)=eval o X.env
 L9:((backTo gI (starEach [e,f] X.env)).all (λx=> !x.1) && (backToKw gI (keywordEach [] X.env)).all (λx=>x.1.isSome)
  && decide (([e,f]:List Expr).length + ([]:List Keyword).length + (if ([]:List Keyword).isEmpty then 0 else 1) < 30))=true
 line:(apos.endLine==gI.line)=true
 trees:backTo gI (starEach [e,f] X.env)=[(false,eval e X.env),(false,eval f X.env)]
def IsD(H:Hp)(a:Addr):Prop:=(∃aQ,Rd H a (.dK aQ))\/∃aQ,Rd H a (.dT aQ)
theorem OL(I:Inv X pins σ H s)(d:IsD H a):
  s.TypeIs (.ref a) "dict"/\(∀b,Value.ref a=.ref b->∃c,s.heap.get? b=some c/\c.dict=none)/\(a==sysModules)=false:=by
 rcases d with⟨aQ,e⟩|⟨aQ,e⟩
 ·obtain⟨_,g,d,_,f⟩:=uh I.aW e;refine⟨f.typeIs,λb q=>?_,g⟩
  cases q;obtain⟨c,_,_,h,i,_⟩:=f;exact⟨c,h,i.2.1⟩
 ·obtain⟨_,g,xs,_,f⟩:=ui I.aW e;refine⟨f.typeIs,λb q=>?_,g⟩
  cases q;obtain⟨c,_,_,h,i,_⟩:=f;calc⟨c,h,i.2.1⟩
section
variable {X:Cx}{pins:List (Addr×Obj)}{σ:St}{H:Hp}{s:Shared}{a:Addr}{y d:V}{u r:Value}{o:Option V}{A:Around}{E:Value->Shared->Prop}
theorem OM(m:A.units+1<cLine)(I:Inv X pins σ H s)(g:gc H a y o)(j:RelV y u)(h:∀w' s',Inv X pins σ H s'->RelV (o.getD .bD) w'->Q w' s'):
  wpAny (model X.prog X.w) A (call (.builtin "dict.get") [.ref a,u]) Q E s:=by
 rcases g with⟨aQ,k,e,f,l⟩|⟨aQ,k,b,e,f,n,l⟩
 ·subst f;obtain⟨z,i,g,c,d⟩:=uh I.aW e;calc call_meetsIn Sl d.typeIs PySem.F.entry_dict_get (PySem.F.args_dict_get_2 _ _) (meets_dict_get (cX X.prog X.w) a (uf j) i) ⟨_,d.mapOf,h _ _ (I.tok _) ?_⟩;rw[l];exact(c.val k).getD rfl
 ·subst f
  cases(show u=Value.ref b from j);obtain⟨z,i,xs,c,d⟩:=ui I.aW e;calc call_meetsIn Sl d.typeIs PySem.F.entry_dict_get (PySem.F.args_dict_get_2 _ _) (meetsH_dict_get (tupleKind (cX X.prog X.w)) a b i) ⟨tupleKind_room_in1 m,k,xs,rg I.aW n,d,h _ _ (I.tok _) ?_⟩;rw[l];calc(c.val k).getD rfl
end
def zg(c d:TE):TE:=λσ H Q=>c σ H λx b=>∃a,x=.ref a/\IsD b a/\d σ b λy c=>∃o,gc c a y o/\Q (o.getD .bD) c
section
variable {X:Cx}{o e f:Expr}{apos gI:Pos}{td ty tx:TE}
theorem Fi(c:X.A.units+1<cLine)(f:PE X o td)(i:PE X e ty)(m:M1 X o "get" apos e gI):PE X (.Call (.Attribute o "get" apos) [e] [] gI) (zg td ty):=by
 walk_at "xc";refine wpAny_Call_method m.base m.L9 m.line PySem.F.plainAttrs_dict Sl PySem.F.type_dict_get (cJ (f pins s σ H _ I h) λu j g=>?_);nofun;obtain⟨x,k,b,l,a,n,d,p⟩:=g;ac_rfl;subst n;obtain rfl:u=Value.ref a:=l;obtain⟨f,n,_⟩:=OL b d;refine⟨f,n,?_⟩;rw[m.trees];refine Calls.callWith_builtin rfl (Calls.evalArgs_plain (Calls.spliced_cons (cJ (i pins j σ k _ b p) λu v ⟨y,l,q,r,w,g,t⟩=>Calls.spliced_nil ?_)));exact OM c q g r λf i b d=>⟨_,l,b,d,t⟩
end
section
variable {X:Cx}{pins:List (Addr×Obj)}{σ:St}{H:Hp}{s:Shared}{a:Addr}{y:V}{u:Value}{A:Around}{E:Value->Shared->Prop}
end
end
end L2
namespace Att
open PySem PySem.W PySem.Calls PyProof.Rows
theorem qc{P:Params}{h:Heap}:∀(c:List Int) (vs:List Value),WellAll P h vs (c.map WData.int)->IntsAre vs c:=by
 intro c;induction c with
 |nil=>
  intro vs w;rw[List.map_nil]at w
  cases w;calc .nil
 |cons n c d=>
  intro vs w;rw[List.map_cons]at w
  cases w with
  |cons a b=>
   cases a;calc .cons _ _ (d _ b)
theorem Ct{l:OpenLaw}{n:Nat}(j:l.most=some n){P:Params}{h:Heap}{args:List WData}{c:List Value}
  (g:l.row.toRowW.claim.pre args=true) (k:WellAll P h c args):
  ∃a vs b,c=[Value.ref a]/\args=[WData.list (b.map WData.int)]/\h.get? a=some {cls:=.type "list",data:=.seq vs.toArray}/\IntsAre vs b/\b.length<=n:=by
 have f:WShape.hasAll [] args [.list .int]=true:=(pre_splitW g).1;have i:l.pre.holds [] {args:=args}=true:=(pre_splitW g).2;obtain⟨d,r,rfl,m,o⟩:=hasAllW_cons f;obtain rfl:=hasAllW_nil o;obtain⟨q,rfl,p⟩:=hasW_list m;obtain⟨b,rfl⟩:=items_int p;have e:b.length<=n:=by
  unfold OpenLaw.pre at i;have a:(WTm.not (.lt (.lit (.int (n:Int))) (.len (.arg 0)))).holds [] {args:=[.list (b.map .int)]}=true:=by
   have a:=(holds_andW i).1;rw[j]at a;exact a
  have c:=condW_of a (w_not (w_lt w_lit (w_len_list (w_arg rfl))));rw[List.length_map]at c;calc Nat.le_of_not_lt λq=>?_;have a:(n:Int)<((b.length:Nat):Int):=by lia
  first
   |(rw[decide_eq_true a]at c;calc absurd c (by decide))
   |(simp at c;lia)
 cases k with
 |cons s t=>
  cases t
  cases s with
  |list a c=>calc⟨_,_,b,rfl,rfl,a,qc b _ c,e⟩
theorem Cu(l:OpenLaw)(args:List WData):l.row.toRowW.claim.post args (.bool true) args=true:=
 postW_of (r:=l.row.toRowW) (X:=(true == true))
  (show WShape.has [] (.bool true) .bool=true by first|rfl|decide|simp[WShape.has,WShape.arms,WShape.armsAll])
  (show(WTm.eq .res (.lit (.bool true))).value [] {args:=args,res:=some (.bool true),after:=args}=some (.bool (true==true)) from w_eq_bool (w_res rfl) w_lit) rfl
theorem wO{l:OpenLaw}{n:Nat}{q:Program}{c:List Str}{p:(Str->Option Value)->Heap->Prop}{s:World->Heap->Prop}{d:DefRec}
  (x:l.most=some n) (y:d.params.defaults=[])
  (call:∀(w:World) (s₀ b:Shared) (h k:Str->Option Value) (g:Addr) (o:Obj) (m i e:Value) (a:Addr) (vs:List Value) (j:List Int),
   Ground q c [] p w s₀ h k b.heap->s w b.heap->
   b.heap.get? g=some o->o.data=.func (docDef d.name d.params d.body d.scope m i e)->b.heap.CodeRec i d.name->h d.name=some (.ref g)->
   b.heap.get? a=some {cls:=.type "list",data:=.seq vs.toArray}->IntsAre vs j->j.length<=n->b.gens=#[]->
   codeAny (model l.prog w) callerA (.call (.ref g) ⟨[.ref a],[]⟩) (λr s'=>r=.ok (.ret (.bool true))/\OldK b.heap s'.heap/\s'.os=b.os/\AllBare s'.gens) b):
  WalkO q c p s l.row.toRowW d [] (λf vs=>PySem.call f vs):=by
 intro w s₀ b h k G Y g o m i e z kV A B C t D E u v L F H I J M;obtain rfl:z=.none:=Dflts.none t y;obtain rfl:kV=.none:=Dflts.noKw t;obtain⟨a,vs,j,rfl,rfl,f,c,d⟩:=Ct x F J;calc enter_call (codeAny_mono (call w s₀ b h k g o m i e a vs j G Y A (fd_plain B) C D f c d E) λr s' K=>?_);obtain⟨rfl,a,b,c⟩:=K;calc⟨.inl ⟨.bool true,.bool true,[],rfl,λ_=>rfl,.bool true,Cu l _,λ_=>⟨List.Pairwise.nil,λ_ d=>(nomatch d)⟩⟩,a,b,c⟩
section
variable {prog:Program}{w:World}{A:Around}{E:Value->Shared->Prop}{s:Shared}{K:Frag}
end
end Att
namespace L2
open PySem PySem.Spec PyProof.Rows
section
theorem uo:∀{vs:List Value}{a:List Int},IntsAre vs a->Vals (a.map V.int) vs
 |_,_,.nil=>.nil
 |_,_,.cons n t h=>.cons ⟨t,rfl⟩ (uo h)
def OO(H:Hp):Prop:=∀b,H b=none\/∃o xs,H b=some (.yy o (.lst xs))
theorem Fj{P:Program}{w:World}{K:W.Frag}{j L:Str->Option Value}{CX:ET}{k:Nat}{m a:Addr}{n:FuncData}{x:Str}{sp:Sp}{c:Shared}{vs:List Value}{l:List Int}
  (R:K.In c.heap) (p:c.heap.Ns mainGlobals j) (g:c.heap.Ns builtinsNs L) (M:∀x:Str,x≠"__name__"->L x=bootBuiltins x) (Zn:c.heap.NoLimit) (hg:c.gens=#[])
  (I:c.heap.get? a=some {cls:=.type "list",data:=.seq vs.toArray}) (S:IntsAre vs l) (T:l.length<=sizeLine) (hr:dA k callerA)
  (F:∀base:Heap,K.In base->base.Ns mainGlobals j->iU P w K j base CX k m n [x] sp) (Tf:∀(s:Shared) (u:Value),BindsTo s n ⟨[u],[]⟩ [(x,u)])
  (wj:∀H:Hp,OO H->aR K H a (l.map V.int)->sp [.ref a] H (λv _=>v=.bl true) λ_ _ _=>False)
  (Zo:∀H e s',CX [] H c (λ_ _ _=>False) e s'->False):
  codeAny (model P w) callerA (.call (.ref m) ⟨[.ref a],[]⟩) (λr s'=>r=.ok (.ret (.bool true))/\OldK c.heap s'.heap/\s'.os=c.os/\AllBare s'.gens) c:=by
 have U:=uo S;have Zp:=S.length;have i:∀H:Hp,OO H->aR K H a (l.map V.int)->lN P w H c.heap->(∀b,H b≠none->b=a)->(H a≠none->K.lookup a=none)->
   codeAny (model P w) callerA (.call (.ref m) ⟨[.ref a],[]⟩) (λr s'=>r=.ok (.ret (.bool true))/\OldK c.heap s'.heap/\s'.os=c.os/\AllBare s'.gens) c:=by
  intro H X hS Y Z hK;have A0:∀{b:Addr} {o:Obj},c.heap.get? b=some o->H b=none->(uU c.heap H).get? b=some o:=λe n=>Ep e n;have SM:∀{b:Addr} {o:Obj} {t:Array DictEntry} {y:Nat},c.heap.get? b=some o->o.data=.dict t y->H b=none:=λ{b o t y} e d=>by
   cases q:H b with
   |none=>rfl
   |some u=>
    have N:b=a:=Z b (by rw[q];simp);subst N;rw[I]at e;cases e;have d':Data.seq vs.toArray _=Data.dict t y:=d
    cases d'
  have J:∀{b:Addr} {m:Str->Option Value},c.heap.Ns b m->(uU c.heap H).Ns b m:=λ{b m} ⟨o,t,y,e,d,r⟩=>⟨o,t,y,A0 e (SM e d),d,r⟩
  have B:K.In (uU c.heap H):=λb o e=>A0 (R b o e) (by
   cases q:H b with
   |none=>rfl
   |some u=>
    have N:b=a:=Z b (by rw[q];simp);subst N;rw[hK (by rw[q];simp)] at e;cases e)
  have d:Mod K j (uU c.heap H):=⟨B,J p,⟨L,J g,M⟩,let ⟨k,m,n⟩:=Zn;⟨k,J m,n⟩⟩
  have k:u9 P w K j (uU c.heap H) callerA [] c H:=⟨rfl,d,λb o e=>JD e,Nat.le_of_eq (Cb _ _),trivial,λb g=>absurd (show b∈([]:List Addr) from g) (by simp),Y,.of_eq hg⟩
  refine codeAny_mono ((F _ B (J p)).run callerA [] c H ⟨[.ref a],[]⟩ [.ref a] [.ref a] _ _ hr k (Tf c (.ref a)) (.cons rfl .nil) (wj H X hS)) λr s' h=>?_
  cases r with
  |error e=>calc(Zo H e s' h).elim
  |ok fl=>
   cases fl with
   |next=>calc aam h
   |brk=>calc aam h
   |cont=>calc aam h
   |ret u=>
    obtain⟨v,c,os,C,un,Zq,r',q⟩:=h;have q':v=.bl true:=q;subst q';obtain rfl:u=Value.bool true:=r';refine⟨rfl,OldK.of_keep λb o e=>?_,os,C⟩
    cases q:H b with
    |none=>calc un.keep b o e q (by intro z;calc absurd (show b∈([]:List Addr) from z) (by simp)) (by simp)
    |some u=>
     rcases X b with z|⟨ob,c,z⟩
     ·rw[q]at z;cases z
     ·have z2:=un.oz b ob _ z;obtain⟨e1,_⟩:=Y b _ z;obtain⟨e2,_⟩:=Zq b _ z2;rw[e]at e1;cases e1;exact e2
 cases O:K.lookup a with
 |some o=>
  have e:=R a o O;rw[I]at e
  cases e;calc i (λ_=>none) (λ_=>.inl rfl) (.inr ⟨_,vs.toArray,_,O,rfl,rfl,rfl,by rw[List.size_toArray,Zp];calc T,by simpa using U⟩) (λb u z=>by have G:(none:Option HO)=some u:=z;cases G) (λb z=>absurd rfl z) λz=>absurd rfl z
 |none=>
  refine i (λb=>if b=a then some (.yy {cls:=.type "list",data:=.seq vs.toArray} (.lst (l.map V.int))) else none) (λb=>?_) (.inl (.inr ⟨{cls:=.type "list",data:=.seq vs.toArray},if_pos rfl⟩)) (λb u z=>?_) (λb z=>?_) λ_=>O
  ·by_cases g:b=a
   ·exact .inr ⟨_,_,if_pos g⟩
   ·exact .inl (if_neg g)
  ·by_cases g:b=a
   ·have G:=(if_pos g).symm.trans z
    cases G;subst g;exact⟨I,by rw[List.length_map];calc T,vs,_,U,I⟩
   ·have G:=(if_neg g).symm.trans z
    cases G
  ·by_cases g:b=a
   ·exact g
   ·calc absurd (if_neg g) z
end
section
theorem J6{l:W.OpenLaw}{n k:Nat}{q:Program}{c:List Str}{p:(Str->Option Value)->Heap->Prop}{o:World->Heap->Prop}{d:DefRec}{K:Params->W.Frag}{CX:World->ET}{sp:World->Sp}{x:Str}
  (r:l.most=some n) (t:n<=sizeLine) (y:d.params.defaults=[]) (z:dA k callerA)
  (A:∀(w:World) (h:Heap),o w h->(K w.params).In h)
  (F:∀(w:World) (i:Str->Option Value) (j:Addr) (h:Heap),(K w.params).In h->h.Ns mainGlobals i->i d.name=some (.ref j)->
   ∃m:FuncData,(∀(s:Shared) (u:Value),BindsTo s m ⟨[u],[]⟩ [(x,u)])/\
    ∀base:Heap,(K w.params).In base->base.Ns mainGlobals i->iU l.prog w (K w.params) i base (CX w) k j m [x] (sp w))
  (u:∀(w:World) (H:Hp) (a:Addr) (h:List Int),h.length<=n->OO H->aR (K w.params) H a (h.map V.int)->sp w [.ref a] H (λv _=>v=.bl true) λ_ _ _=>False)
  (n:∀(w:World) (H:Hp) (s:Shared) (e:Value) (s':Shared),CX w [] H s (λ_ _ _=>False) e s'->False):
  W.WalkO q c p o l.row.toRowW d [] (λf vs=>PySem.call f vs):=by
 calc Att.wO r y λw k f i v j o x B l a vs h G Y C D E p q d c s=>?_;have k:=A w _ Y;obtain⟨m,l,o⟩:=F w i j _ k G.T.g p;calc Fj k G.T.g G.T.b G.T.builtins G.T.nolimit s q d (aap c t) z o l (λH m r=>u w H a h c m r) λH e s'=>n w H f e s'
end
section
variable {f:Addr}{st:Stmt}{qual:Str}
def eF(s:Stmt):Arguments:=match s with
 | .FunctionDef _ a _ _ _ _ _ _ _ _=>a
 |_=>{posonlyargs:=[],args:=[],vararg:=none,kwonlyargs:=[],kw_defaults:=[],kwarg:=none,defaults:=[]}
def cA(s:Stmt):List Stmt:=match s with
 | .FunctionDef _ _ b _ _ _ _ _ _ _=>b
 |_=>[]
def az(s:Stmt):Scope:=match s with
 | .FunctionDef _ _ _ _ _ _ a _ _ _=>a
 |_=>{kind:=.function,names:=[],isGenerator:=false,isCoroutine:=false}
abbrev uq:ET:=λ_ _ _ _ _ _=>False
abbrev E0:XK:=λ_ _ _=>False
theorem wQ{X:Cx}:Passes uq X E0:=λ_ _ _ _ _ _ _ h=>h.elim
structure DQ(K:W.Frag)(x qual:Str)(st:Stmt)(f:Addr)(fd:FuncData):Prop where
 ex:∃(oc:Value) (od:Option Addr) (kV doc pm:Value) (an:Option Addr) (dN ct:Value) (DO:Array (Option Value)),
  fd=W.fnOf x qual (eF st) (cA st) (az st) .none kV doc pm an dN ct/\K.lookup f=some ⟨oc,od,.func fd,DO⟩/\W.codeIn K dN qual=true
 kp:W.keepIn K (.ref f)=true
section
variable {P:Program}{w:World}{K:W.Frag}{mg:Str->Option Value}{base:Heap}
theorem DQ.ok{x:Str}{d:FuncData}{N b:List Str}{k:Nat}{sp:Sp}(F:DQ K x qual st f d)(S:aE N b (az st))(c:∀vs H Q E,sp vs H Q E->vs.length=b.length)
  (e:∀(a:Value) (A:Around) (outer:List Env) (s:Shared) (H:Hp) (vs:List V) (Q:VK) (E:XK),dA k (A.deeper (envOfC qual (az st) s.heap.objs.size f a))->sp vs H Q E->
   ∃t,qE (jx uq P w K mg base N qual (az st) f a A outer s H E).uZ (cA st) t/\t {nx:=λ_ g=>Q .bD g,rt:=Q} (start N vs) H):iU P w K mg base uq (k + 1) f d b sp:=by
 obtain⟨i,j,kV,h,l,m,a,n,o,rfl,b,d⟩:=F.ex;calc L5 b d S c λA outer s H vs Q E g i=>?_;obtain⟨t,h,q⟩:=e a A outer s H vs Q E g i;calc⟨t,h.uZ,q⟩
theorem DQ.binds{x:Str}{g:FuncData}{b:List Str}(F:DQ K x qual st f g)
  (h:∀(kV a c:Value) (d:Option Addr) (e ct:Value) (us:List Value),us.length=b.length->bindArgs (W.fnOf x qual (eF st) (cA st) (az st) .none kV a c d e ct) ⟨us,[]⟩=pure (b.zip us)):Binds K g b []:=by
 obtain⟨i,j,kV,a,c,d,e,ct,k,rfl,b,g⟩:=F.ex;calc .all (h kV a c d e ct)
theorem jP{x:Str}{g:Value}{od d:Option Addr}{h:Array (Option Value)}{kV a e b ct:Value}(l:K.lookup f=some ⟨g,od,.func (W.fnOf x qual (eF st) (cA st) (az st) .none kV a e d b ct),h⟩)
  (c:W.codeIn K b qual=true) (k:W.keepIn K (.ref f)=true):DQ K x qual st f (W.fnOf x qual (eF st) (cA st) (az st) .none kV a e d b ct):=⟨⟨g,od,kV,a,e,d,b,ct,h,rfl,l,c⟩,k⟩
end
theorem aG{n:Nat}(h:n<=1000):n<sizeLine:=aaS h (by decide)
section
variable {X:Cx}
theorem pv(i:Nat){x:Str}{a:Pos}(b:X.N[i]?=some x:=by rfl)(c:Ss X.env.scope x:=by first|calc Or.inl rfl|calc Or.inr (Or.inl rfl)|calc Or.inr (Or.inr rfl))(d:(x==("__debug__":Str))=false:=by decide)
  (e:(x==("__classdict__":Str))=false:=by decide):PE X (.Name x a) (Et i):=Eu b c d e
end
def av(H a:Hp):Prop:=∀b o,H b=some o->a b=some o
theorem av.refl(H:Hp):av H H:=λ_ _ h=>h
theorem av.trans{H c d:Hp}(a:av H c)(b:av c d):av H d:=λc o h=>b c o (a c o h)
theorem av.free{H a:Hp}(e:av H a){l:Addr}(h:a l=Option.none):H l=Option.none:=by
 cases q:H l with
 |none=>rfl
 |some o=>
  rw[e l o q]at h
  cases h
theorem av.seq{K:W.Frag}{H b:Hp}{a:Addr}{xs:List V}(e:av H b)(h:aR K H a xs):aR K b a xs:=by
 rcases h with(h|⟨o,h⟩)|h
 ·exact .inl (.inl (e _ _ h))
 ·exact .inl (.inr ⟨o,e _ _ h⟩)
 ·calc .inr h
end
end L2
set_option maxHeartbeats 4000000
namespace L2
open PySem PySem.Spec PyProof.Rows
section
variable {X:Cx}{H H₂:Hp}{pins:List (Addr×Obj)}{σ:St}
def lV(env:Env):List (Str×NameKind)->List (Str×Addr)->List (Str×Addr)
 | [],cs=>cs
 |(n,k)::r,cs=>lV env r (if k == .free then(n,(env.cells.lookup n).getD 0)::cs else cs)
theorem wR{env:Env}{x:Str}{c:Addr}:∀{l:List (Str×NameKind)}{cs:List (Str×Addr)},(x,c)∈lV env l cs->(x,c)∈cs\/((x,NameKind.free)∈l/\c=(env.cells.lookup x).getD 0)
 | [],cs,h=>.inl h
 |(n,k)::r,cs,h=>by
  unfold lV at h;rcases wR h with a|⟨a,g⟩
  ·by_cases b:(k == NameKind.free)=true
   ·rw[if_pos b] at a;have ek:k=.free:=by simpa using b
    rcases List.mem_cons.mp a with e|e
    ·have d:=congrArg Prod.fst e;have f:=congrArg Prod.snd e;simp only at d f;subst d ek;exact .inr ⟨aaB,f⟩
    ·exact .inl e
   ·rw[if_neg b]at a;exact .inl a
  ·calc .inr ⟨aay _ a,g⟩
theorem ur{env:Env}{p:Str×Addr}:∀{l:List (Str×NameKind)}{cs:List (Str×Addr)},p∈cs->p∈lV env l cs
 | [],_,h=>h
 |(n,k)::r,cs,h=>by
  unfold lV;calc ur ?_;split
  ·exact aay _ h
  ·calc h
theorem rq{env:Env}{x:Str}:∀{l:List (Str×NameKind)}{cs:List (Str×Addr)},(x,NameKind.free)∈l->(x,(env.cells.lookup x).getD 0)∈lV env l cs
 | [],_,h=>by simp at h
 |(n,k)::r,cs,h=>by
  unfold lV;rcases List.mem_cons.mp h with e|e
  ·have a:=congrArg Prod.fst e;have b:=congrArg Prod.snd e;simp only at a b;subst a b;calc ur ?_;rw[if_pos (by simp)];exact aaB
  ·calc rq e
theorem fc{β:Type}:∀{l:List (Str×β)}{x:Str}{c:β},(x,c)∈l->∃d,l.lookup x=some d
 | [],_,_,h=>by simp at h
 |(n,b)::r,x,c,h=>by
  by_cases e:x=n
  ·subst e;exact⟨b,by simp⟩
  ·have a:(x == n)=false:=beq_eq_false_iff_ne.mpr e;rcases List.mem_cons.mp h with q | q
   ·exact absurd (congrArg Prod.fst q) e
   ·obtain⟨d,b⟩:=fc q;calc⟨d,by simp only[List.lookup_cons,a];calc b⟩
theorem lR{scope:Scope}{env:Env}(h:∀x∈scope.names,x.2=.free->∃c,env.cells.lookup x.1=some c):closureFor scope env=pure (lV env scope.names []):=by
 unfold closureFor;have b:∀(l:List (Str×NameKind)) (a:List (Str×Addr)),(∀x ∈ l,x.2=.free->∃c,env.cells.lookup x.1=some c)->
   ((forIn l a λ(x:Str×NameKind) (r:List (Str×Addr))=>if (x.2==NameKind.free)=true then do let y <-cellOf env x.1;pure (ForInStep.yield ((x.1,y)::r)) else pure (ForInStep.yield r)):Sem (List (Str×Addr)))=pure (lV env l a):=by
  intro l;induction l with
  |nil=>intro a _;rfl
  |cons p r f=>
   intro a d;obtain⟨n,k⟩:=p;rw[List.forIn_cons];dsimp only;by_cases a:(k==NameKind.free)=true
   ·obtain⟨c,g⟩:=d (n,k) aaB (by simpa using a);have e:cellOf env n=pure c:=by unfold cellOf;rw[g]
    rw[if_pos a,e,pure_bind,pure_bind];dsimp only;rw[f _ λx c=>d x (List.mem_cons_of_mem _ c)];show _=pure (lV env r _);rw[if_pos a,g];rfl
   ·rw[if_neg a,pure_bind];dsimp only;rw[f _ λx c=>d x (List.mem_cons_of_mem _ c)];show _=pure (lV env r _);rw[if_neg a]
 have:=b scope.names [] h;simp only at this ⊢;rw[this,pure_bind]
def A7(a:List Expr)(env:Env):Sem Bool:=forIn a true λc r=>if r=true then do let ok <-isTrue c env (eval c env);pure (ForInStep.yield ok) else pure (ForInStep.yield r)
def Q9(X:Cx)(a:List Expr)(t:TT):Prop:=
 ∀(pins:List (Addr×Obj)) (s:Shared) (σ:St) (H:Hp) (Q:Bool->Hp->Prop),Inv X pins σ H s->t σ H Q->wpAny (model X.prog X.w) X.A (A7 a X.env) (TP X pins σ Q) X.xe s
def iM:TT:=λ_ H Q=>Q true H
theorem J7:Q9 X [] iM:=λ_ _ _ H _ I h=>R' ⟨H,I,h⟩
theorem lp{c:Expr}{t:TT}(h:PT X c t):Q9 X [c] t:=λpins s σ H Q I a=>wpAny_tests_one (h pins s σ H Q I a)
section
variable {prog:Program}{w:World}{A:Around}{R:Result->Shared->Prop}{s:Shared}
theorem vk{o a e:Expr}{p:List Expr}{scope:Scope}{t:Pos}{y q:Value}{env:Env}(I:Nat->Shared->Prop)
  (u:∀n s,I n s->wpAny (model prog w) A (pyNext y) (λr b=>match r with
   |none=>R (.ok .next) b
   | some v=>wpAny (model prog w) A (letOwnedTupleGo a y v) (λ_ f=>wpAny (model prog w) A (assign a env v) (λ_ g=>
     wpAny (model prog w) A (A7 p env) (λok c=>
      if ok=true then wpAny (model prog w) A (eval o env) (λx i=>
       wpAny (model prog w) A (call (.builtin "list.append") [q,x]) (λ_ j=>∃m,m < n/\I m j) (λ_ _=>False) i) (λ_ _=>False) c
      else ∃m,m < n/\I m c) (λ_ _=>False) g) (λ_ _=>False) f) (λ_ _=>False) b) (λ_ _=>False) s)
  (n:Nat) (h:I n s):
  codeAny (model prog w) A (.compLoop (.ListComp o [⟨a,e,p,0⟩] scope t) 0 y q env) R s:=by
 calc codeAny_loop rfl I (λn s m=>?_) n h;show wpAny _ A ((compTurn (.ListComp o [⟨a,e,p,0⟩] scope t) 0 y q env).onRaise (λx=>do noteFrame x env;theTreesLotGoes x)) _ _ s;calc wpAny_noted ?_;rw[compTurn_list];refine J' (wpAny_standAt (J' (aat (u n s m) (λr b k=>?_) λ_ _ d=>d.elim)))
 cases r with
 |none=>calc R' k
 |some v=>
  calc J' (aat k (λ_ f a=>?_) λ_ _ d=>d.elim);refine J' (aat a (λ_ g b=>J' (aat b (λok c l=>?_) λ_ _ d=>d.elim)) λ_ _ d=>d.elim)
  cases ok with
  |false=>calc R' ⟨rfl,l⟩
  |true=>
   calc J' (J' (aat l (λx i a=>J' (aat a (λ_ j b=>R' (R' ⟨rfl,b⟩)) λ_ _ d=>d.elim)) λ_ _ d=>d.elim))
end
def Cw(N N':List Str)(ix:List (Option Nat))(scope:Scope):Bool:=
 N'.length==ix.length&&(N'.zip ix).all λp=>match p.2 with|none=>true|some j=>N[j]? == some p.1&&scope.names.lookup p.1==some .free
def vm(ix:List (Option Nat))(σ:St):St:=ix.map λo=>match o with|none=>none|some j=>(σ[j]?).join
def freeOk(scope:Scope)(outer:Scope):Bool:=
 scope.names.all λx=>(x.2 != .cell)&&(x.2 != .free||(outer.names.lookup x.1==some .cell||outer.names.lookup x.1==some .free))&&(x.2 != .local||scope.names.lookup x.1==some .local)&&(x.2 != .free||scope.names.lookup x.1==some .free)
def Tg(X:Cx)(scope:Scope)(C:Addr)(N':List Str)(a:Shared)(H₂:Hp)(b:List Addr):Cx:=
 {X with N:=N',s₀:=a,H₀:=H₂,env:=compEnvC scope (lV X.env scope.names []) C X.env,outer:=X.stack,stack:=X.stack,ex:=b,fn:=λ_=>false,pn:=[],xe:=λ_ _=>False}
theorem freeOk.at{scope outer:Scope}(h:freeOk scope outer=true){x:Str×NameKind}(e:x∈scope.names):x.2≠.cell/\(x.2=.free->outer.names.lookup x.1=some .cell\/outer.names.lookup x.1=some .free)/\(x.2=.local->scope.names.lookup x.1=some .local)/\(x.2=.free->scope.names.lookup x.1=some .free):=by
 have f:=List.all_eq_true.mp h x e;simp only[Bool.and_eq_true,Bool.or_eq_true,bne_iff_ne,ne_eq,beq_iff_eq]at f;obtain⟨⟨⟨a,b⟩,c⟩,d⟩:=f;calc⟨a,λe=>b.resolve_left λz=>z e,λe=>c.resolve_left λz=>z e,λe=>d.resolve_left λz=>z e⟩
theorem eO{scope:Scope}{env:Env}:∀{names:List (Str×NameKind)}{x:Str}{k:NameKind},
  (names.map λ(n,k)=>if (k==NameKind.free&&env.scope.kind == .function&&env.kindOf n==some .cell) then(n,NameKind.cell) else(n,k)).lookup x=some k->∃a,(x,a)∈names/\(k=a\/(k=.cell/\a=.free))
 | [],_,_,h=>by simp at h
 |(n,c)::r,x,k,h=>by
  rw[List.map_cons]at h;by_cases d:(c==NameKind.free&&env.scope.kind == .function&&env.kindOf n==some .cell)=true
  ·simp only[d,if_true] at h
   cases b:x==n with
   |true=>
    simp only[List.lookup_cons,b]at h;have e:x=n:=by simpa using b
    subst e;have g:c=.free:=by
     simp only[Bool.and_eq_true,beq_iff_eq]at d;exact d.1.1
    calc⟨c,aaB,.inr ⟨(Option.some.inj h).symm,g⟩⟩
   |false=>
    simp only[List.lookup_cons,b]at h;obtain⟨a,m,q⟩:=eO (scope:=scope) (env:=env) h;exact⟨a,aay _ m,q⟩
  ·dsimp only at h;rw[if_neg d] at h
   cases b:x==n with
   |true=>
    simp only[List.lookup_cons,b]at h;have e:x=n:=by simpa using b
    subst e;calc⟨c,aaB,.inl (Option.some.inj h).symm⟩
   |false=>
    simp only[List.lookup_cons,b]at h;obtain⟨a,m,q⟩:=eO (scope:=scope) (env:=env) h;calc⟨a,aay _ m,q⟩
section
variable {X:Cx}{scope:Scope}{C:Addr}{N':List Str}{s₂:Shared}{H₂:Hp}{fp:List Addr}{pins:List (Addr×Obj)}{σ:St}
theorem lu(I:Inv X pins σ H₂ s₂)(d:freeOk scope X.env.scope=true){x:Str}{c:Addr}(h:(lV X.env scope.names []).lookup x=some c):X.env.cells.lookup x=some c/\(x,NameKind.free)∈scope.names:=by
 rcases wR (aaR h) with z|⟨a,b⟩
 ·simp at z
 ·have q:=(d |> λh=>freeOk.at h a).2.1 rfl;obtain⟨c,e⟩:=I.ok.has x q;rw[e]at b;calc⟨by rw[e,b];rfl,a⟩
theorem OP(I:Inv X pins σ H₂ s₂)(d:freeOk scope X.env.scope=true)(s:scope.kind=.function)(n:s₂.heap.objs.size<=C)(f:∀b∈fp,oB X pins H₂ b)(t:∀b∈fp,∃o,s₂.heap.get? b=some o):(Tg X scope C N' s₂ H₂ fp).Ok where
 mod:=I.ok.mod
 kind:=s
 glob:=I.ok.glob
 blt:=I.ok.blt
 above:=n
 inj:=λx y c s u=>I.ok.inj x y c (lu I d s).1 (lu I d u).1
 has:=λx h=>by
  have h:(relabel scope X.env).names.lookup x=some .cell\/(relabel scope X.env).names.lookup x=some .free:=h;have g:(x,NameKind.free)∈scope.names:=by
   rcases h with h|h
   ·obtain⟨v,m,q⟩:=eO (scope:=scope) h;rcases q with q | ⟨_,q⟩
    ·subst q;exact absurd rfl (freeOk.at d m).1
    ·subst q;exact m
   ·obtain⟨v,m,q⟩:=eO (scope:=scope) h;rcases q with q | ⟨q,_⟩
    ·subst q;exact m
    ·cases q
  exact fc (rq g)
 LQ:=λ_ _ h _=>absurd (show false=true from h) V'
 hd:=I.ok.hd
 frames:=I.ok.frames
 NS:=.inl rfl
 Q5:=λb a=>by
  obtain⟨o,g⟩:=t b a;obtain⟨p,i,j,k,l,r⟩:=f b a;calc⟨X' (S' (T' g) n),λx c h=>?_⟩;exact l x c (lu I d h).1
 bs:=I.bs
 yL:=aap I.ok.yL I.sz
 uV:=λb o e a=>by
  obtain⟨p,i,j,k,l,r⟩:=f b a;rcases k with z|z
  ·exact I.ok.uV b o e z
  ·exact absurd (S' (S' (T' e) I.ok.yL) z) (aaG _)
 wz:=λb a z=>by
  obtain⟨p,i,j,k,l,r⟩:=f b a;rcases List.mem_cons.mp (I.uW b z) with e|e
  ·exact i e
  ·exact j e
 lH:=I.stack
 Er:=I.qD
end
theorem Inv.less{a:St}{s:Shared}(I:Inv X pins σ H s)(b:a.length=σ.length)(h:∀(i:Nat) (v:V),a[i]?=some (some v)->σ[i]?=some (some v)):Inv X pins a H s:=
 ⟨I.ok,I.os,I.bare,I.base,(let ⟨m,a,c⟩:=I.loc;⟨m,a,λi x v d e f=>c i x v d (h i v e) f⟩),I.cell,I.free,I.ie,I.pin,I.aW,b.trans I.len⟩
def Ext(σ a:St):Prop:=a.length=σ.length/\∀(i:Nat) (v:V),σ[i]?=some (some v)->a[i]?=some (some v)
theorem Ext.refl(σ:St):Ext σ σ:=⟨rfl,λ_ _ h=>h⟩
theorem Ext.set{a:St}(h:Ext σ a){j:Nat}{w:Option V}(b:σ[j]?=some none):Ext σ (a.set j w):=by
 calc⟨by rw[List.length_set];calc h.1,λi v e=>?_⟩;have c:j≠i:=by rintro rfl;rw[b]at e;cases e
 rw[List.getElem?_set_ne c];calc h.2 i v e
theorem J8(ix:List (Option Nat))(σ:St):(vm ix σ).length=ix.length:=by unfold vm;rw[List.length_map]
section
variable {X:Cx}{scope:Scope}{N':List Str}{ix:List (Option Nat)}{s₂ s₄:Shared}{H₂:Hp}{fp:List Addr}{pins:List (Addr×Obj)}{σ:St}{C D:Addr}{h₄:Heap}
theorem Zr(I:Inv X pins σ H₂ s₂)(g:freeOk scope X.env.scope=true)(M:scope.kind=.function)(B:Cw X.N N' ix scope=true)(O:∀b∈fp,oB X pins H₂ b)(P:∀b∈fp,∃o,s₂.heap.get? b=some o)
  (l:s₂.heap.objs.size<=D) (p:s₂.heap.objs.size<=C) (R:D≠C) (S:h₄.Ns C (λ_=>none)) (n:∀b o,s₂.heap.get? b=some o->h₄.get? b=some o)
  (b:h₄.get? D=some {cls:=.type "list",data:=.seq ([]:List Value).toArray 0}) (t':Nat):
  Inv (Tg X scope C N' s₂ H₂ fp) [] (vm ix σ) (upd H₂ D (.lst [])) {s₂ with heap:=h₄,toks:=t'}:=by
 have T:H₂ D=none:=I.aW.fresh l;have U:H₂ C=none:=I.aW.fresh p;have W:lN X.prog X.w (upd H₂ D (.lst [])) h₄:=I.aW.laid n l ⟨aav _,[],0,.nil,b⟩;refine⟨OP I g M p O P,rfl,I.bare,Un.laid n l T,⟨_,S,λi x v y d Y=>?_⟩,λx c e=>?_,?_,λx c e=>?_,λp b=>absurd (show p∈([]:List (Addr×Obj)) from b) (by simp),W,?_⟩
 ·have a:=B;unfold Cw at a;rw[Bool.and_eq_true] at a;have b:N'.length=ix.length:=by simpa using a.1
  have b:i<N'.length:=(List.getElem?_eq_some_iff.mp y).1;unfold vm at d;rw[List.getElem?_map]at d
  cases q:ix[i]? with
  |none=>rw[q]at d;cases d
  |some o=>
   rw[q]at d
   cases o with
   |none=>cases d
   |some j=>
    have o:(x,some j)∈N'.zip ix:=by
     calc Y' (i:=i) ?_;rw[List.getElem?_zip_eq_some];exact⟨y,q⟩
    have b:=List.all_eq_true.mp a.2 _ o;simp only[Bool.and_eq_true,beq_iff_eq]at b;obtain⟨t,F⟩:=b;have m:(σ[j]?).join=some v:=by simpa using d
    have Z:σ[j]?=some (some v):=by
     cases z:σ[j]? with
     |none=>rw[z]at m;cases m
     |some y=>rw[z]at m;exact congrArg some m
    have G:(x,NameKind.free)∈scope.names:=aaR F;have J:=(freeOk.at g G).2.1 rfl;obtain⟨m,b,hv⟩:=I.loc;obtain⟨u,ru,lk⟩:=hv j x v t Z (by rcases J with z|z;calc .inr (.inl z);calc .inr (.inr z));refine⟨u,ru,.inr ⟨?_,?_⟩⟩
    ·rcases Y with z | z | z
     ·obtain⟨b,m',k⟩:=eO (scope:=scope) (env:=X.env) (show(relabel scope X.env).names.lookup x=some .local from z);rcases k with k | ⟨k,_⟩
      ·subst k;have:=(freeOk.at g m').2.2.1 rfl;rw[F]at this;cases this
      ·cases k
     ·exact .inl z
     ·exact .inr z
    ·rcases lk with⟨r,_⟩ | ⟨_,c,l2,l3⟩
     ·have r:X.env.scope.names.lookup x=some .local:=r;rcases J with z | z
      ·rw[r]at z;cases z
      ·rw[r]at z;cases z
     ·obtain⟨b,K⟩:=fc (rq (env:=X.env) (cs:=[]) G);have L:=(lu I g K).1;rw[l2]at L;have e7:c=b:=Option.some.inj L;subst e7;exact⟨c,K,l3.keeps n⟩
 ·obtain⟨v,z⟩:=I.cell x c (lu I g e).1;exact⟨v,z.keeps n⟩
 ·show upd H₂ D (.lst []) C=none;rw[ay (Ne.symm R)];exact U
 ·show upd H₂ D (.lst []) c=none;have b:=(lu I g e).1;obtain⟨v,z⟩:=I.cell x c b;have:c≠D:=X' (S' z.lt l);rw[ay this];exact I.ie x c b
 ·rw[J8];have a:=B;unfold Cw at a;rw[Bool.and_eq_true] at a;have:N'.length=ix.length:=by simpa using a.1
  calc this.symm
end
def lW(ix:List (Option Nat))(J:It)(g:TG)(d:TT)(e:TE)(σ:St)(a:Hp)(Q:VK)(D:Addr):Prop:=
 ∃W:Nat->Nat->Hp->Prop,(∃m,W 0 m (upd a D (.lst [])))/\∀i m H,W i m H->
  (J.stop i H/\Q (.ref D) H)\/(J.go i H/\∃N:Hp->Prop,(∀b,N b->∃c,c < m/\W (i + 1) c b)/\∀x b,J.LZ i H x b->g x (vm ix σ) b λa f=>Ext (vm ix σ) a/\d a f λb c=>
   if b=true then e a c λy d=>∃a,d D=some (.lst a)/\a.length < sizeLine/\N (upd d D (.lst (a++[y]))) else N c)
def Tj(ix:List (Option Nat))(b:TI)(g:TG)(c:TT)(d:TE):TE:=λσ H Q=>b σ H λJ a=>∀D,a D=none->lW ix J g c d σ a Q D
abbrev sU(X:Cx)(scope:Scope)(N':List Str)(F:Cx->Prop):Prop:=∀(C:Addr) (a:Shared) (H₂:Hp) (b:List Addr),F (Tg X scope C N' a H₂ b)
section
variable {X:Cx}{elt target iter:Expr}{ifs:List Expr}{scope:Scope}{pos:Pos}{N':List Str}{ix:List (Option Nat)}{wi:TI}{g:TG}{tt:TT}{te:TE}
theorem wV{a:Shared}{it:Addr}{l:List Addr}{S:Nat->Heap->Prop}{J:It}{QD:Addr->Hp->Prop}{RR:Value->Addr->Result->Shared->Prop}{E:Value->Shared->Prop}
  (J9:X.calm=true) (hf:freeOk scope X.env.scope=true) (hk:scope.kind=.function) (hx:Cw X.N N' ix scope=true)
  (hg:sU X scope N' λY=>PG Y target g) (ht:sU X scope N' λY=>Q9 Y ifs tt) (he:sU X scope N' λY=>PE Y elt te)
  (I:Inv X pins σ H₂ a) (T:Turn X.prog X.w X.K target J l it S) (st:S 0 a.heap) (Jg:∀b∈l,oB X pins H₂ b)
  (hw:∀D,H₂ D=none->∃W:Nat->Nat->Hp->Prop,(∃m,W 0 m (upd H₂ D (.lst [])))/\∀i m H,W i m H->
   (J.stop i H/\QD D H)\/(J.go i H/\∃N:Hp->Prop,(∀d,N d->∃B,B < m/\W (i + 1) B d)/\∀x d,J.LZ i H x d->g x (vm ix σ) d λp C=>Ext (vm ix σ) p/\tt p C λb L=>
    if b=true then te p L λy C=>∃U,C D=some (.lst U)/\U.length < sizeLine/\N (upd C D (.lst (U++[y]))) else N L))
  (hRR:∀(D C:Addr) (s':Shared) (d:Hp) (m:Str->Option Value),a.heap.objs.size<=C->d C=none->C∉wg X.stack->s'.heap.Ns C m->(∃o,s'.heap.get? C=some o/\∀v,o.data≠.cell v)->Inv X pins σ d s'->QD D d->RR (.ref D) C (.ok .next) s'):
  wpAny (model X.prog X.w) X.A (newList []) (λp j=>wpAny (model X.prog X.w) X.A (newFunctionEnv scope X.env.globals (lV X.env scope.names []) [] X.env.qual none .none (some X.env)) (λJ C=>
   codeAny (model X.prog X.w) X.A (.compStart (.ListComp elt [⟨target,iter,ifs,0⟩] scope pos) 0 (.ref it) p {J with scope:=relabel scope X.env}) (RR p J.locals) C) E j) E a:=by
 calc aaJ (wpAny_newFunctionEnv (λx hx=>(freeOk.at hf hx).1) (by intro y p;simp at p) (λk OS Ka=>?_) hk);dsimp only at OS Ka ⊢;generalize C:a.heap.push {cls:=.type "list",dict:=none,data:=.seq ([]:List Value).toArray}=P2 at OS Ka ⊢;have p:P2.objs.size=a.heap.objs.size+1:=by rw[<-C,Heap.size_push]
 have J:a.heap.objs.size≠P2.objs.size:=by rw[p];exact X' (Nat.lt_succ_self _)
 have M:a.heap.objs.size<=P2.objs.size:=by rw[p];exact Nat.le_succ _
 have Z:∀b o,a.heap.get? b=some o->k.get? b=some o:=λb o e=>Ka.extBut b o (X' (S' (T' e) M)) (K' _ (C▸K' _ e));have N:k.get? a.heap.objs.size=some {cls:=.type "list",data:=.seq ([]:List Value).toArray 0}:=Ka.extBut _ _ J (K' _ (C▸W' _ rfl));have p:∀b∈l,∃o,a.heap.get? b=some o:=λb c=>let ⟨o,e,_⟩:=T.obj _ _ st b c;⟨o,e⟩
 have C:a.heap.get? P2.objs.size=none:=Heap.get?_none_of_le M;have C:H₂ a.heap.objs.size=none:=I.aW.fresh (L' _);obtain⟨W,⟨m0,w0⟩,turn⟩:=hw a.heap.objs.size C;have fpD:∀b∈l,b≠a.heap.objs.size:=λb c=>let ⟨o,e⟩:=p b c;X' (T' e)
 have fpC:∀b∈l,b≠P2.objs.size:=λb c=>let ⟨o,e⟩:=p b c;X' (S' (T' e) M)
 let Y:=Tg X scope P2.objs.size N' a H₂ l
 have hcY:Y.calm=true:=J9;have I0:Inv Y [] (vm ix σ) (upd H₂ a.heap.objs.size (.lst [])) {a with heap:=k,toks:=a.toks+([]:List (Str×Value)).length}:=
  Zr I hf hk hx Jg p (L' _) M J (by simpa using OS) Z N _
 have NU:P2.objs.size∉wg X.stack:=λz=>by
  rcases List.mem_cons.mp (I.uW _ z) with e|e
  ·exact absurd I.lt (by rw[<-e];calc Nat.not_lt.mpr M)
  ·exact I.NV M e
 have yQ:∀{d:Hp},(∀b∈l,d b=none)->∀b∈l,oB Y [] d b:=λhn b c=>by
  obtain⟨f0,f1,f2,f3,f4,f5⟩:=Jg b c;refine⟨hn b c,fpC b c,I0.ok.wz b c,.inl c,(I0.ok.Q5 b c).2,λp C=>absurd (show p∈([]:List (Addr×Obj)) from C) (by simp)⟩
 have To:S 0 k:=T.keep _ _ _ st λb _ o e=>Z b o e;have G:∀j:Shared,j={a with heap:=k,toks:=a.toks + ([]:List (Str×Value)).length}->
   codeAny (model X.prog X.w) X.A (.compLoop (.ListComp elt [⟨target,iter,ifs,0⟩] scope pos) 0 (.ref it) (.ref a.heap.objs.size) (compEnvC scope (lV X.env scope.names []) P2.objs.size X.env))
    (RR (.ref a.heap.objs.size) P2.objs.size) j:=by
  rintro j rfl;calc vk (λn s'=>∃i d,Inv Y [] (vm ix σ) d s'/\S i s'.heap/\(∀b∈l,d b=none)/\W i n d) ?_ m0 ⟨0,_,I0,To,λb c=>by rw[ay (fpD b c)];calc(Jg b c).1,w0⟩;rintro n s3 ⟨i,L,I3,oo,Sy,w3⟩;rcases turn i n L w3 with⟨stop,qn⟩|⟨go,Nn,hNn,step⟩
  ·calc cJ (T.done Y rfl rfl rfl hcY i [] s3 _ L _ I3 (yQ Sy) oo stop) λr s4 q=>?_;nofun;obtain⟨hr,O⟩:=q;ac_rfl;subst hr;obtain⟨m,hn,_⟩:=O.loc;refine hRR _ _ s4 L m M O.free NU hn ?_ ?_ qn
   ·obtain⟨o,k,p,j,hd,_⟩:=hn;exact⟨o,j,λv z=>by rw[hd]at z;cases z⟩
   ·refine I.LW (s':=s4) (ch:=l) O.os ?_ O.aW O.bare λb c=>?_
    ·exact O.base
    ·obtain⟨f0,f1,f2,f3,f4,f5⟩:=Jg b c;exact⟨f3,f1,f4,f5⟩
  ·calc cJ (T.item Y rfl rfl rfl hcY i [] s3 _ L _ I3 (yQ Sy) oo go) λr s4 q=>?_;nofun;obtain⟨u,hr,h4⟩:=q;ac_rfl;subst hr;calc cJ h4 λ_ s5 q=>?_;nofun;obtain⟨x,j,p,r,v,k,z⟩:=q;ac_rfl;have C:=p.pinned (yQ z) (T.obj _ _ k);calc cJ (hg _ _ _ _ _ s5 _ j x u _ C r (step x j v)) λ_ I q=>?_;nofun;obtain⟨F,p,r,j,u⟩:=q;ac_rfl;calc cJ (ht _ _ _ _ _ I F p _ r u) λok s7 q=>?_;nofun;obtain⟨H7,I7,q7⟩:=q;ac_rfl;have t:∀{P:Shared} {R:Hp} {B:Nat},Inv Y ([]++oC l s5.heap) F R P->B<n->W (i+1) B R->∃m,m<n/\∃i d,Inv Y [] (vm ix σ) d P/\S i P.heap/\(∀b∈l,d b=none)/\W i m d:=λ{P R B} I8 hm w8=>by
    calc⟨B,hm,i+1,R,(I8.kh).less j.1.symm j.2,T.keep _ _ _ k λb c o e=>(I8.pin (b,o) (aar _ (aar _ (jM c e)))).1,λb c=>?_,w8⟩;obtain⟨o,e,d⟩:=T.obj _ _ k b c;exact(I8.pin (b,o) (aar _ (aar _ (jM c e)))).2.1
   cases ok with
   |false=>
    rw[if_neg Bool.false_ne_true]at q7 ⊢;obtain⟨B,hm,w8⟩:=hNn _ q7;calc t I7 hm w8
   |true=>
    rw[if_pos rfl] at q7 ⊢;calc cJ (he _ _ _ _ _ s7 F H7 _ I7 q7) λy P q=>?_;nofun;obtain⟨b,R,I8,d,U,e,i,j⟩:=q;ac_rfl;have k:=(ud (X:=Y)) (pins:=[]++oC l s5.heap) P F R (.ref a.heap.objs.size) [b] (.ref a.heap.objs.size) [y] (λ_ c=>Nn c) I8 rfl (.cons d .nil)
     ⟨_,U,b,rfl,rfl,e,i,j⟩
    exact cJ k λ_ a ⟨_,c,b,_,d⟩=>let ⟨B,hm,a⟩:=hNn _ d;t b hm a
 calc codeAny_compStart_list (G _ rfl) (T.self _ 0 _ _ _ To (G _ rfl))
theorem Inv.Zw{s b:Shared}{C:Addr}{h':Heap}(a:Inv X pins σ H₂ b)(I:Inv X pins σ H s)(d:b.heap.objs.size<=C)(f:H C=none)(g:Heap.SameBut C s.heap h'):Inv X pins σ H {s with heap:=h'}:=by
 refine I.turned (t':=s.toks) (λb o h e=>(g.2 b h).trans e) f (Nat.ne_of_gt (S' a.lt d)) (.inr (aap a.sz d)) (λx c e z=>?_) λp b z=>?_
 ·obtain⟨v,q⟩:=a.cell x c e;exact absurd (S' q.lt (by rw[z];calc d)) (aaG _)
 ·calc absurd (S' (T' (a.pin p b).1) (by rw[z];calc d)) (aaG _)
theorem dE
  (l:PI X target iter wi) (n:sU X scope N' λY=>PG Y target g) (o:sU X scope N' λY=>Q9 Y ifs tt) (a:sU X scope N' λY=>PE Y elt te)
  (p:X.calm=true:=by rfl) (f:freeOk scope X.env.scope=true:=by kernel_rfl) (i:scope.kind=.function:=by rfl) (b:Cw X.N N' ix scope=true:=by kernel_rfl) (j:∀x,foldedSetIterable iter X.env x=pure x:=by intro _;rfl):PE X (.ListComp elt [⟨target,iter,ifs,0⟩] scope pos) (Tj ix wi g tt te):=by
 walk_at "xc";rw[eval_ListComp];have m:∀x∈scope.names,x.2=.free->∃c,X.env.cells.lookup x.1=some c:=λx b a=>I.ok.has x.1 ((freeOk.at f b).2.1 a);refine wpAny_comprehension_free (use:=none) rfl j (lR m) i (λx b a=>(freeOk.at f b).2.2.1 a) (aat (l pins s σ H _ I h) (λm j c=>aat c (λl j d=>?_) λ_ _ e=>e) λ_ _ e=>e);obtain⟨c,j,l,J,m,e,k,T,r,t,u⟩:=d;subst e;refine wV (RR:=λc C=>compPost (model X.prog X.w) X.A X.xe none (EP X pins σ Q) c C) (QD:=λD c=>Q (.ref D) c) p f i b n o a k T r t u ?_;intro D C x c m d e y j z l q;exact⟨m,j,λB v=>⟨.ref D,c,k.Zw l d e v,rfl,q⟩⟩
theorem ij{i:Nat}{y:Str}{d S:Pos}(hN:X.N.Nodup)(F:X.N[i]?=some y)(hy:Loc X.env.scope y)
  (hi:PI X target iter wi) (hg:sU X scope N' λY=>PG Y target g) (ht:sU X scope N' λY=>Q9 Y ifs tt) (j:sU X scope N' λY=>PE Y elt te)
  (G:swapsWith (.ListComp elt [⟨target,iter,ifs,0⟩] scope pos) (some (.Name y d)) S.line X.env=pure true:=by rfl)
  (J9:X.calm=true:=by rfl) (K:freeOk scope X.env.scope=true:=by kernel_rfl) (U:scope.kind=.function:=by rfl) (k:Cw X.N N' ix scope=true:=by kernel_rfl) (hs:∀x,foldedSetIterable iter X.env x=pure x:=by intro _;rfl) (NW:X.fn y=true\/X.env.scope.names.lookup y=some .local:=by grind):
  PS X (.Assign [.Name y d] (.ListComp elt [⟨target,iter,ifs,0⟩] scope pos) S) (Ce (Tj ix wi g tt te) (gX i)):=by
 walk_at "xd";rw[exec_Assign_Name_used _ _ _ _ G];refine J' (wpAny_standAt (J' ?_));show wpAny _ X.A (do let _ <-comprehension (.ListComp elt [⟨target,iter,ifs,0⟩] scope pos) scope X.env _ (newList []) false (eval iter X.env) (some (assign (.Name y d) X.env))) _ _ s;have Tp:∀x ∈ scope.names,x.2=.free->∃c,X.env.cells.lookup x.1=some c:=λx k j=>I.ok.has x.1 ((freeOk.at K k).2.1 j);refine J' (aat (wpAny_comprehension_free (use:=some (assign (.Name y d) X.env)) (Q:=λ_ a=>SP X pins D .next a) rfl hs (lR Tp) U (λx k j=>(freeOk.at K k).2.2.1 j)
  (aat (hi pins s σ H _ I h) (λxv W l=>aat l (λXf Z n=>?_) λ_ _ e=>e) λ_ _ e=>e)) (λ_ a hq=>R' (R' hq)) λ_ _ e=>e)
 obtain⟨it,fp,tn,J,H2,e,f,T,AG,f2,hw⟩:=n;subst e;calc wV (RR:=λL C=>compPost (model X.prog X.w) X.A X.xe (some (assign (.Name y d) X.env)) (λ_ a=>SP X pins D .next a) L C) (QD:=λr t=>D.nx (σ.set i (some (.ref r))) t) J9 K U k hg ht j f T AG f2 hw ?_;intro r C a t m u Th DR hn E I' q;obtain⟨o,E,Xc⟩:=E;show wpAny _ X.A (assign (.Name y d) X.env (.ref r)) _ _ a;have B:C≠X.env.locals:=Nat.ne_of_gt (S' f.lt u);have M:C∉X.fs:=f.NV u;have O:Inv X (pins++[(C,o)]) σ t a:=I'.uX λp P=>(List.mem_append.mp P).elim (λz=>I'.pin p (aar _ z)) λz=>by
  have z':p=(C,o):=by simpa using z
  subst z';exact⟨E,Th,B,M,Xc⟩
 calc wpAny_assign_Name (ju O hN F hy (v:=.ref r) rfl (λs3 I3=>?_) NW);obtain⟨e3,n3,_⟩:=I3.pin (C,o) (aar _ (aar _ (by simp)));obtain⟨o',es,ep,lI,r'⟩:=hn;rw[E]at lI;cases lI;have R:Inv X pins (σ.set i (some (.ref r))) t s3:=I3.kh;calc⟨m,⟨o,es,ep,e3,r'⟩,λh' Ma=>⟨_,t,?_,q⟩⟩;refine R.turned (t':=s3.toks) (λb o hb e=>(Ma.2 b hb).trans e) n3 B (.inr (aap f.sz u)) (λx c e z=>?_) λp P z=>?_
 ·obtain⟨v,q⟩:=f.cell x c e;exact absurd (S' q.lt (by rw[z];calc u)) (aaG _)
 ·calc absurd (S' (T' (f.pin p P).1) (by rw[z];calc u)) (aaG _)
end
def Xs(b:Nat->List V->Hp->Prop)(D:Addr)(i:Nat)(H:Hp):Prop:=∃a,H D=some (.lst a)/\a.length<=i+1/\b (i+1) a H
theorem cn{c:Nat->List V->Hp->Prop}{D:Addr}{i n:Nat}{a:List V}{y:V}(d:H D=some (.lst a))(b:a.length<=i)(e:i<n)(f:n<=sizeLine)(h:c (i+1) (a++[y]) (upd H D (.lst (a++[y])))):
  ∃b,H D=some (.lst b)/\b.length<sizeLine/\Xs c D i (upd H D (.lst (b++[y]))):=
 ⟨a,d,by lia,a++[y],af,by rw[List.length_append,List.length_singleton];lia,h⟩
theorem bx{ix:List (Option Nat)}{J:It}{n:Nat}{g:TG}{c:TT}{k:TE}{l:Hp}{Q:VK}{D:Addr}(f:Nat->List V->Hp->Prop)(a:n<=sizeLine)(t:f 0 [] (upd l D (.lst [])))
  (u:∀i d H,i<n->f i d H->J.go i H) (v:∀d H,f n d H->J.stop n H)
  (w:∀i d H,i < n->H D=some (.lst d)->d.length<=i->f i d H->∀x h,J.LZ i H x h->g x (vm ix σ) h λa q=>Ext (vm ix σ) a/\c a q λb o=>
   if b=true then k a o λy q=>∃j,q D=some (.lst j)/\j.length < sizeLine/\Xs f D i (upd q D (.lst (j++[y]))) else Xs f D i o)
  (z:∀d H,H D=some (.lst d)->d.length<=n->f n d H->Q (.ref D) H):
  lW ix J g c k σ l Q D:=by
 calc⟨λi m H=>m=n-i/\i<=n/\∃d,H D=some (.lst d)/\d.length<=i/\f i d H,⟨n,by simp,aav _,[],af,L' _,t⟩,?_⟩;rintro i m H ⟨rfl,a,d,r,s,p⟩;by_cases g:i<n
 ·exact .inr ⟨u i d H g p,Xs f D i,λh ⟨j,a,b,c⟩=>⟨n-(i+1),by lia,rfl,g,j,a,b,c⟩,λx h y=>w i d H g r s p x h y⟩
 ·have e:i=n:=by lia
  subst e;calc .inl ⟨v d H p,z d H r s p⟩
end
section
section
variable {X:Cx}
def Fl(i j:Int):Prop:=0<j/\j.natAbs.log2<9000
theorem Fm:gJ X (binaryOp .FloorDiv) (rI Fl λi j=>.int (i/j)):=Xg λi j _ _ _ _ _ a q=>by
 have b:(0:Int)<j:=a.1;calc floordiv_int (by lia) (by rw[Int.fdiv_eq_ediv_of_nonneg i (by lia)];calc q) (.inl (PyProof.noPylong_of_log2 a.2))
def OT:R2:=λx y H Q=>match x,y with
 | .int i,.int j=>Q (.int (i+j)) H
 | .str i,.str j=>i.length+j.length<=sizeLine/\Q (.str (i++j)) H
 | .ref a,.ref b=>∃xs c,H a=some (.lst xs)/\H b=some (.lst c)/\xs.length+c.length<=sizeLine/\∀p,H p=none->Q (.ref p) (upd H p (.lst (xs++c)))
 |_,_=>False
def uI(C:Int->Int->Prop)(g:Int->Int->V):R2:=λx y H Q=>match x,y with
 | .int i,.int j=>C i j/\Q (g i j) H
 |_,_=>False
def OU(g:Int->Int->V):R2:=λx y H Q=>match x,y with
 | .int i,.int j=>Q (g i j) H
 |_,_=>False
theorem Xt{f:Value->Value->Sem Value}{C:Int->Int->Prop}{g:Int->Int->V}(h:gJ X f (rI C g)):gJ X f (uI C g):=by
 intro a s σ H x y v u Q I b c q
 cases x<;>cases y<;>first
  |calc(show False from q).elim
  |calc h a s σ H _ _ v u Q I b c ⟨_,_,rfl,rfl,q.1,q.2⟩
theorem Fo{f:Value->Value->Sem Value}{g:Int->Int->V}(h:gJ X f (JJ g)):gJ X f (OU g):=by
 intro a s σ H x y v u Q I b c q
 cases x<;>cases y<;>first
  |calc(show False from q).elim
  |calc h a s σ H _ _ v u Q I b c ⟨_,_,rfl,rfl,q⟩
theorem e9:gJ X (binaryOp .Sub) (OU λi j=>.int (i-j)):=Fo Oi
theorem lx:gJ X (binaryOp .Mult) (uI EL λi j=>.int (i*j)):=Xt Oj
theorem cK:gJ X (binaryOp .Mod) (uI (λ_ j=>0<j) λi j=>.int (i%j)):=Xt Ol
theorem eP:gJ X (binaryOp .FloorDiv) (uI Fl λi j=>.int (i/j)):=Xt Fm
theorem nv:gJ X (binaryOp .Pow) (uI EK λi j=>.int (i^j.toNat)):=Xt Om
theorem gK:gJ X (compareOp .Lt) (OU λi j=>.bl (decide (i<j))):=Fo SE
theorem zi:gJ X (compareOp .LtE) (OU λi j=>.bl (decide (i<=j))):=Fo SG
theorem oM:gJ X (compareOp .Gt) (OU λi j=>.bl (decide (j<i))):=Fo SH
theorem OV:gJ X (compareOp .GtE) (OU λi j=>.bl (decide (j<=i))):=Fo SI
def kn(K:W.Frag)(H:Hp):Nat->V->V->Prop
 |0,_,_=>False
 |n+1,x,y=>(x=y/\fZ x=true)\/∃a b xs c,x=.ref a/\y=.ref b/\((bM K H a xs/\bM K H b c)\/(aR K H a xs/\aR K H b c))/\xs.length=c.length/\∀(i:Nat) u v,xs[i]?=some u->c[i]?=some v->kn K H n u v
theorem in1_units(A:Around):A.in1.units=A.units+1:=rfl
theorem ny{pins:List (Addr×Obj)}{σ:St}{H:Hp}{s:Shared}(I:Inv X pins σ H s):∀(n:Nat) (A:Around) {x y:V}{u v:Value},kn X.K H n x y->A.units+n<cLine->RelV x u->RelV y v->SeqAt.EqAt A s u v true
 |0,_,_,_,_,_,h,_,_,_=>h.elim
 |n+1,A,x,y,u,v,h,o,c,d=>by
  rcases h with⟨e,f⟩|⟨a,b,J,L,j,k,l,o,M⟩
  ·subst e;have q:=zc (A:=A) (s:=s) c d f f;have g:DP x x=true:=by cases x <;> first | rfl | calc absurd (show false=true from f) V' | simp[DP]
   rw[g]at q;exact q
  ·subst j k
   cases c
   cases d;by_cases m:a=b
   ·subst m;exact SeqAt.EqAt.same _
   rcases l with⟨o,p⟩|⟨o,p⟩
   ·obtain⟨c,h,q,H⟩:=I.tuple o;obtain⟨f,k,r,N⟩:=I.tuple p;have O:=h.length;have P:=k.length;have t:c.toArray.size=f.toArray.size:=by simp;lia
    have d:=SeqAt.RcAt.tuples (A:=A) (e:=λ_=>true) (show s.heap.IsTuple a c.toArray from q) (show s.heap.IsTuple b f.toArray from r) (by lia) λj u v=>by
     have w:j<c.length:=by simpa using u
     have y:j<f.length:=by simpa using v
     obtain⟨z,l,B⟩:=h.get (i:=j) (x:=J[j]'(by lia)) (by simp);obtain⟨C,g,D⟩:=k.get (i:=j) (x:=L[j]'(by lia)) (by simp);have E:c.toArray[j]=z:=by
      have:=cE w;rw[this]at l;simpa using Option.some.inj l
     have F:f.toArray[j]=C:=by
      have:=cE y;rw[this]at g;simpa using Option.some.inj g
     rw[E,F];exact ny I n A.in1 (M j _ _ (by simp) (by simp)) (by rw[in1_units];lia) B D
    have G:SeqAt.RcAt A s (.ref a) (.ref b) true:=by
     have:((List.range (min c.toArray.size f.toArray.size)).all (λ_=>true)&&c.toArray.size==f.toArray.size)=true:=by
      rw[t];simp
     rw[this]at d;exact d
    exact SeqAt.EqAt.of_refs m G
   ·obtain⟨c,h,q,H⟩:=I.list o;obtain⟨f,k,r,N⟩:=I.list p;have O:=h.length;have P:=k.length;have t:c.toArray.size=f.toArray.size:=by simp;lia
    have d:=SeqAt.RcAt.lists (A:=A) (e:=λ_=>true) q.isList r.isList t (by lia) λj u v=>by
     have w:j<c.length:=by simpa using u
     have y:j<f.length:=by simpa using v
     obtain⟨z,l,B⟩:=h.get (i:=j) (x:=J[j]'(by lia)) (by simp);obtain⟨C,g,D⟩:=k.get (i:=j) (x:=L[j]'(by lia)) (by simp);have E:c.toArray[j]=z:=by
      have:=cE w;rw[this]at l;simpa using Option.some.inj l
     have F:f.toArray[j]=C:=by
      have:=cE y;rw[this]at g;simpa using Option.some.inj g
     rw[E,F];exact ny I n A.in1 (M j _ _ (by simp) (by simp)) (by rw[in1_units];lia) B D
    have G:SeqAt.RcAt A s (.ref a) (.ref b) true:=by
     have:((List.range c.toArray.size).all (λ_=>true))=true:=by simp
     rw[this]at d;exact d
    calc SeqAt.EqAt.of_refs m G
end
end
section
variable {pins:List (Addr×Obj)}{σ:St}
section
variable {X:Cx}
theorem Fp{H:Hp}{s:Shared}(I:Inv X pins σ H s){A:Around}{n:Nat}{a b:Addr}(h:kn X.K H (n+1) (.ref a) (.ref b))(f:A.units+n+1<cLine):
  SeqAt.RcAt A s (.ref a) (.ref b) true/\SeqAt.RcNeAt A s (.ref a) (.ref b) false:=by
 rcases h with⟨e,f⟩|⟨g,k,J,L,c,d,j,l,M⟩
 ·exact absurd (show false=true from f) V'
 ·cases c
  cases d;rcases j with⟨g,h⟩|⟨g,h⟩
  ·obtain⟨d,k,l,H⟩:=I.tuple g;obtain⟨f,m,o,N⟩:=I.tuple h;have O:=k.length;have P:=m.length;have u:d.toArray.size=f.toArray.size:=by simp;lia
   have c:∀j (g:j<d.toArray.size) (h:j<f.toArray.size),SeqAt.EqAt A.in1 s d.toArray[j] f.toArray[j] ((λ_=>true) j):=λj v w=>by
    have y:j<d.length:=by simpa using v
    have z:j<f.length:=by simpa using w
    obtain⟨B,p,C⟩:=k.get (i:=j) (x:=J[j]'(by lia)) (by simp);obtain⟨D,q,E⟩:=m.get (i:=j) (x:=L[j]'(by lia)) (by simp);have F:d.toArray[j]=B:=by
     have:=cE y;rw[this]at p;simpa using Option.some.inj p
    have G:f.toArray[j]=D:=by
     have:=cE z;rw[this]at q;simpa using Option.some.inj q
    rw[F,G];exact ny I n A.in1 (M j _ _ (by simp) (by simp)) (by rw[in1_units];lia) C E
   have e:((List.range (min d.toArray.size f.toArray.size)).all (λ_=>true)&&d.toArray.size==f.toArray.size)=true:=by
    rw[u];simp
   have r:=SeqAt.RcAt.tuples (A:=A) (show s.heap.IsTuple a d.toArray from l) (show s.heap.IsTuple b f.toArray from o) (by lia) c;have t:=SeqAt.RcNeAt.tuples (A:=A) (show s.heap.IsTuple a d.toArray from l) (show s.heap.IsTuple b f.toArray from o) (by lia) c;rw[e]at r t;exact⟨r,t⟩
  ·obtain⟨d,k,l,H⟩:=I.list g;obtain⟨f,m,o,N⟩:=I.list h;have O:=k.length;have P:=m.length;have u:d.toArray.size=f.toArray.size:=by simp;lia
   have c:∀j (g:j<d.toArray.size) (h:j<f.toArray.size),SeqAt.EqAt A.in1 s d.toArray[j] f.toArray[j] ((λ_=>true) j):=λj v w=>by
    have y:j<d.length:=by simpa using v
    have z:j<f.length:=by simpa using w
    obtain⟨B,p,C⟩:=k.get (i:=j) (x:=J[j]'(by lia)) (by simp);obtain⟨D,q,E⟩:=m.get (i:=j) (x:=L[j]'(by lia)) (by simp);have F:d.toArray[j]=B:=by
     have:=cE y;rw[this]at p;simpa using Option.some.inj p
    have G:f.toArray[j]=D:=by
     have:=cE z;rw[this]at q;simpa using Option.some.inj q
    rw[F,G];exact ny I n A.in1 (M j _ _ (by simp) (by simp)) (by rw[in1_units];lia) C E
   have e:(List.range d.toArray.size).all (λ_=>true)=true:=by simp
   have r:=SeqAt.RcAt.lists (A:=A) l.isList o.isList u (by lia) c;have t:=SeqAt.RcNeAt.lists (A:=A) l.isList o.isList u (by lia) c;rw[e]at r t;calc⟨r,t⟩
def rz(K:W.Frag)(H:Hp)(a b:Addr):Prop:=∃xs c,xs.length≠c.length/\((aR K H a xs/\aR K H b c)\/(bM K H a xs/\bM K H b c/\(xs=[]\/c=[])))
theorem A8{H:Hp}{s:Shared}(I:Inv X pins σ H s){A:Around}{a b:Addr}(h:rz X.K H a b)(k:A.units<cLine):
  SeqAt.RcAt A s (.ref a) (.ref b) false/\SeqAt.RcNeAt A s (.ref a) (.ref b) true:=by
 obtain⟨j,n,r,⟨l,m⟩|⟨l,m,q⟩⟩:=h
 ·obtain⟨d,h,g,r⟩:=I.list l;obtain⟨f,n,i,t⟩:=I.list m;have o:=h.length;have p:=n.length;have j:(d.toArray.size != f.toArray.size)=true:=by simp;lia
  exact⟨SeqAt.RcAt.lists_lengths g.isList i.isList j k,SeqAt.RcNeAt.lists_lengths g.isList i.isList j k⟩
 ·obtain⟨d,h,g,r⟩:=I.tuple l;obtain⟨f,n,i,t⟩:=I.tuple m;have o:=h.length;have p:=n.length;have c:∀j (l:j<d.toArray.size) (m:j<f.toArray.size),SeqAt.EqAt A.in1 s d.toArray[j] f.toArray[j] ((λ_=>true) j):=λj h l=>by
   exfalso;have m:j<d.length:=by simpa using h
   have h:j<f.length:=by simpa using l
   rcases q with e|e
   ·subst e;simp at o;lia
   ·subst e;simp at p;lia
  have e:((List.range (min d.toArray.size f.toArray.size)).all (λ_=>true)&&d.toArray.size==f.toArray.size)=false:=by
   have:d.toArray.size≠f.toArray.size:=by simp;lia
   rw[Bool.and_eq_false_iff];exact .inr (beq_eq_false_iff_ne.mpr this)
  have h:=SeqAt.RcAt.tuples (A:=A) (show s.heap.IsTuple a d.toArray from g) (show s.heap.IsTuple b f.toArray from i) k c;have j:=SeqAt.RcNeAt.tuples (A:=A) (show s.heap.IsTuple a d.toArray from g) (show s.heap.IsTuple b f.toArray from i) k c;rw[e]at h j;calc⟨h,j⟩
def OX(K:W.Frag):R2:=λx y H Q=>match x,y with
 | .ref a,.ref b=>(kn K H 20 (.ref a) (.ref b)/\Q (.bl true) H)\/(rz K H a b/\Q (.bl false) H)
 |x,y=>JL x y=true/\Q (.bl (decide (x=y))) H
def Ra(K:W.Frag):R2:=λx y H Q=>match x,y with
 | .ref a,.ref b=>(kn K H 20 (.ref a) (.ref b)/\Q (.bl false) H)\/(rz K H a b/\Q (.bl true) H)
 |x,y=>JL x y=true/\Q (.bl (!decide (x=y))) H
theorem Fq(c:X.A.units+64<cLine):gJ X (compareOp .Eq) (OX X.K):=by
  intro pins s σ H x y v u Q I a b h
  cases x<;>cases y<;>first
    |calc SA pins s σ H _ _ v u Q I a b h
    | (cases a;cases b
       rcases h with⟨a,q⟩|⟨a,q⟩
       · exact(Fp I (A:=X.A) a (by lia)).1 X.prog X.w X.xe _ ⟨.bl true,H,I,rfl,q⟩
       · calc(A8 I (A:=X.A) a (by lia)).1 X.prog X.w X.xe _ ⟨.bl false,H,I,rfl,q⟩)
theorem OY(c:X.A.units+64<cLine):gJ X (compareOp .NotEq) (Ra X.K):=by
  intro pins s σ H x y v u Q I a b h
  cases x<;>cases y<;>first
    |calc SD pins s σ H _ _ v u Q I a b h
    | (cases a;cases b
       rcases h with⟨a,q⟩|⟨a,q⟩
       · exact(Fp I (A:=X.A) a (by lia)).2 X.prog X.w X.xe _ ⟨.bl false,H,I,rfl,q⟩
       · calc(A8 I (A:=X.A) a (by lia)).2 X.prog X.w X.xe _ ⟨.bl true,H,I,rfl,q⟩)
def Ts(g:Bool->Bool):R2:=λx y H Q=>match x,y with
 | .bl c,.bl d=>Q (.bl (g (c==d))) H
 |x,.bD=>Q (.bl (g (decide (x=.bD)))) H
 |_,_=>False
theorem vn:gJ X (compareOp .Is) (Ts id):=by
 intro pins s σ H x y v u Q I a b h
 cases x<;>cases y<;>first
  |calc(show False from h).elim
  |calc Oo pins s σ H _ _ v u Q I a b ⟨rfl,h⟩
  |(cases a;cases b;calc is_bool ⟨.bl _,H,I,rfl,h⟩)
theorem oN:gJ X (compareOp .IsNot) (Ts not):=by
 intro pins s σ H x y v u Q I a b h
 cases x<;>cases y<;>first
  |calc(show False from h).elim
  |calc JM pins s σ H _ _ v u Q I a b ⟨rfl,h⟩
  |(cases a;cases b;calc isnot_bool ⟨.bl _,H,I,rfl,h⟩)
def uIn(K:W.Frag)(a:Bool):R2:=λx y H Q=>match y with
 | .ref p=>∃xs,(aR K H p xs\/bM K H p xs)/\fZ x=true/\xs.all fZ=true/\Q (.bl (if a then !AX x xs else AX x xs)) H
 |_=>False
theorem Fs:gJ X (compareOp .In) (uIn X.K false):=by
 intro pins s σ H x y v u Q I a b h
 cases y<;>first
  |calc(show False from h).elim
  |(obtain⟨c,d,e,f,g⟩:=h;calc Cn pins s σ H _ _ v u Q I a b ⟨_,c,rfl,d,e,f,g⟩)
def Zy(K:W.Frag):List V->Hp->VK->Prop:=λxs H Q=>match xs with
 | [x,.ty n]=>∃t b,gb K H x t/\W.kitOne K t (.type n)=some b/\Q (.bl b) H
 |_=>False
def OZ(K:W.Frag)(a:TE):TI:=λσ H R=>a σ H λx b=>match x with
 | .ref a=>((∃xs,aR K b a xs)/\R (u7 K a) b)\/((∃xs,bM K b a xs)/\R (Sx K a) b)
 |_=>False
theorem cu{n l:Expr}{i:TE}(r:PE X l i):PI X n l (OZ X.K i):=by
  calc⟨?_⟩;intro pins s σ H R I h;calc cJ (r pins s σ H _ I h) λv c t=>?_;nofun;obtain⟨x,j,d,u,k⟩:=t;ac_rfl
  cases x<;>first
    |calc(show False from k).elim
    | (rename_i a;cases u
       rcases k with⟨⟨w,f⟩,q⟩|⟨⟨w,f⟩,q⟩
       · obtain⟨m,y,p,z⟩:=d.list f;calc wpAny_pyIter_list p.isList ?_;calc⟨c.heap.objs.size,[c.heap.objs.size],_,_,j,rfl,d.kept (t':=c.toks) λb o e=>K' _ e,Cf a _,⟨_,W' _ rfl,rfl,rfl⟩,λb g=>?_,q⟩;have e:b=c.heap.objs.size:=by simpa using g
         subst e;exact d.EF (L' _) (d.aW.fresh (L' _))
       · obtain⟨m,y,p,z⟩:=d.tuple f;calc aaF (show c.heap.IsTuple a m.toArray from p) ?_;calc⟨c.heap.objs.size,[c.heap.objs.size],_,_,j,rfl,d.kept (t':=c.toks) λb o e=>K' _ e,yO a _,⟨_,W' _ rfl,rfl,rfl⟩,λb g=>?_,q⟩;have e:b=c.heap.objs.size:=by simpa using g
         subst e;calc d.EF (L' _) (d.aW.fresh (L' _)))
def Its(a b:Int)(n:Nat):It:=⟨λi _=>i<n,λi H x c=>c=H/\x=.int (a+i*b),λi _=>n<=i⟩
def Mb(a:TA):TI:=λσ H R=>a σ H λvs b=>match vs with
 | [.int i,.int j,.int k]=>Builtin.Range.small i j k=true/\0<k/\k<1000/\R (Its i k (Builtin.Range.rangeSize i j k).toNat) b
 |_=>False
end
structure Def(P:Program)(w:World)(K:W.Frag)(mg:Str->Option Value)(base:Heap)(x:Str)(k:Nat)(ps:List Str)(sp:Sp):Prop where
 ex:∃f fd,iU P w K mg base uq k f fd ps sp/\mg x=some (.ref f)/\W.keepIn K (.ref f)=true/\Binds K fd ps []
structure cZ(K:W.Frag)(mg:Str->Option Value)(x qual:Str)(st:Stmt)(ps:List Str):Prop where
 ex:∃f fd,DQ K x qual st f fd/\mg x=some (.ref f)/\Binds K fd ps []
section
variable {P:Program}{w:World}{K:W.Frag}{mg:Str->Option Value}{base:Heap}
theorem cZ.ok{x a:Str}{b:Stmt}{N c:List Str}{k:Nat}{sp:Sp}(T:cZ K mg x a b c)(S:aE N c (az b))(d:∀vs H Q E,sp vs H Q E->vs.length=c.length)
  (g:∀(f:Addr) (e:Value) (A:Around) (outer:List Env) (s:Shared) (H:Hp) (vs:List V) (Q:VK) (E:XK),dA k (A.deeper (envOfC a (az b) s.heap.objs.size f e))->sp vs H Q E->
   ∃t,qE (jx uq P w K mg base N a (az b) f e A outer s H E).uZ (cA b) t/\t {nx:=λ_ a=>Q .bD a,rt:=Q} (start N vs) H):Def P w K mg base x (k + 1) c sp:=by
 obtain⟨f,a,F,b,c⟩:=T.ex;calc⟨f,a,F.ok S d (g f),b,F.kp,c⟩
end
theorem Tt{X:Cx}{k j:Nat}{c:List Str}{sp:Sp}{x:Str}{p a:Pos}{e:Expr}{b:List Expr}{t:TA}(D:Def X.prog X.w X.K X.mg X.base x k c sp)(d:dA j X.A)(g:PA X (e::b) t)(h:Gl X x:=by rfl)(c:k<=j:=by decide)
  (i:(x==("__debug__":Str))=false:=by decide) (j:starEach (e::b) X.env=(false,eval e X.env)::starEach b X.env:=by rfl) (k:(backTo a (starEach b X.env)).any (·.1)=false:=by rfl):
  PE X (.Call (.Name x p) (e::b) [] a) (tX sp [] E0 t):=by
 obtain⟨f,l,F,a,b,e⟩:=D.ex;calc JR F (d.mono c) h a b e .nil wQ g i j k
end
section
variable {p:Addr}{H H1:Hp}
section
variable {X:Cx}
def Rb(K:W.Frag):R2:=λx y H Q=>match x,y with
 | .str z,.int i=>∃c,z.length<=sizeLine/\hJ z.cps.toList i=some c/\Q (.str ⟨#[c]⟩) H
 | .ref p,.int i=>∃xs v,(aR K H p xs\/bM K H p xs)/\hJ xs i=some v/\Q v H
 | .ref p,.str k=>∃v,gc H p (.str k) (some v)/\Q v H
 |_,_=>False
theorem Zz(c:X.A.units+64<cLine):SV X (Rb X.K):=by
  intro a b d s σ H x y v u Q I i j h k
  cases x<;>cases y<;>first
    |calc(show False from h).elim
    |(obtain⟨c,f,l,e⟩:=h;calc OB a b d s σ H _ _ v u Q I i j ⟨_,_,c,rfl,rfl,f,l,e⟩ k)
    | (obtain⟨c,m,f | f,l,e⟩:=h
       · exact JW a b d s σ H _ _ v u Q I i j ⟨_,c,_,m,rfl,rfl,f,l,e⟩ k
       · calc OA a b d s σ H _ _ v u Q I i j ⟨_,c,_,m,rfl,rfl,f,l,e⟩ k)
    | (obtain⟨m,g,e⟩:=h
       cases i;calc tail_any (p7 I g) PySem.F.slot_dict_getitem.lookup (uj (by lia) I g j λc d a b=>⟨m,H,a,b,e⟩) k)
end
inductive DV where
 |bD|bl (b:Bool)|int (i:Int)|str (x:Str)|tup (ds:List DV)|lst (ds:List DV)|dict
inductive HD(H:Hp):Nat->V->DV->Prop
 |bD {n}:HD H n .bD .bD
 |bl {n} (b:Bool):HD H n (.bl b) (.bl b)
 |int {n} (i:Int):HD H n (.int i) (.int i)
 |str {n} (x:Str):HD H n (.str x) (.str x)
 |tup {n a xs ds}:H a=some (.tup xs)->xs.length=ds.length->(∀(i:Nat) u e,xs[i]?=some u->ds[i]?=some e->HD H n u e)->HD H (n+1) (.ref a) (.tup ds)
 |lst {n a xs ds}:H a=some (.lst xs)->xs.length=ds.length->(∀(i:Nat) u e,xs[i]?=some u->ds[i]?=some e->HD H n u e)->HD H (n+1) (.ref a) (.lst ds)
 |dict {n a aQ}:H a=some (.dK aQ)->HD H n (.ref a) .dict
theorem HD.same{H a:Hp}(s:av H a){n:Nat}{x:V}{d:DV}(h:HD H n x d):HD a n x d:=by
 induction h with
 |bD=>calc .bD
 |bl b=>calc .bl b
 |int i=>calc .int i
 |str x=>calc .str x
 |tup a b c d=>calc .tup (s _ _ a) b d
 |lst a b c d=>calc .lst (s _ _ a) b d
 |dict a=>calc .dict (s _ _ a)
theorem HD.mono{H:Hp}{n:Nat}{x:V}{d:DV}(h:HD H n x d):∀{m:Nat},n<=m->HD H m x d:=by
 induction h with
 |bD=>intro m _;calc .bD
 |bl b=>intro m _;calc .bl b
 |int i=>intro m _;calc .int i
 |str x=>intro m _;calc .str x
 |tup a b c f=>
  intro m g;obtain⟨k,rfl⟩:∃k,m=k+1:=⟨m-1,by lia⟩
  calc .tup a b λi u e p q=>f i u e p q (by lia)
 |lst a b c f=>
  intro m g;obtain⟨k,rfl⟩:∃k,m=k+1:=⟨m-1,by lia⟩
  calc .lst a b λi u e p q=>f i u e p q (by lia)
 |dict a=>intro m _;calc .dict a
inductive HT(H:Hp):Nat->V->DV->Prop
 |bD {n}:HT H n .bD .bD
 |bl {n} (b:Bool):HT H n (.bl b) (.bl b)
 |int {n} (i:Int):HT H n (.int i) (.int i)
 |str {n} (x:Str):HT H n (.str x) (.str x)
 |tup {n a xs ds}:H a=some (.tup xs)->xs.length=ds.length->(∀(i:Nat) u e,xs[i]?=some u->ds[i]?=some e->HT H n u e)->HT H (n+1) (.ref a) (.tup ds)
theorem HT.hd{H:Hp}{n:Nat}{x:V}{d:DV}(h:HT H n x d):HD H n x d:=by
 induction h with
 |bD=>calc .bD
 |bl b=>calc .bl b
 |int i=>calc .int i
 |str x=>calc .str x
 |tup a b c d=>calc .tup a b d
def bS(H a:Hp):Prop:=∀b xs,H b=some (.tup xs)->a b=some (.tup xs)
theorem av.aS{a:Hp}(h:av H a):bS H a:=λb a e=>h b _ e
theorem bS.refl(H:Hp):bS H H:=λ_ _ h=>h
theorem bS.trans{c:Hp}(a:bS H H1)(b:bS H1 c):bS H c:=λc o h=>b c o (a c o h)
theorem bS.upd{a:Hp}(h:bS H a){p:Addr}{o:HO}(d:∀xs,a p≠some (.tup xs)):bS H (upd a p o):=λb xs e=>by
 have c:=h b xs e;have:b≠p:=λz=>by subst z;exact d xs c
 rw[ay this];calc c
theorem HT.aK{H a:Hp}(s:bS H a){n:Nat}{x:V}{d:DV}(h:HT H n x d):HT a n x d:=by
 induction h with
 |bD=>calc .bD
 |bl b=>calc .bl b
 |int i=>calc .int i
 |str x=>calc .str x
 |tup a b c d=>calc .tup (s _ _ a) b d
theorem av.new(o:HO)(a:H p=none):av H (upd H p o):=λb u e=>by rw[ay (au e a)];calc e
def eG(H:Hp)(p:Addr):Prop:=∃a b,H p=some (.lst [.int a,.int b])
structure Step(p:Addr)(H H':Hp):Prop where
 fX:eG H' p
 rest:∀b o,H b=some o->b≠p->H' b=some o
theorem Step.refl(h:eG H p):Step p H H:=⟨h,λ_ _ e _=>e⟩
theorem Step.trans{c:Hp}(a:Step p H H1)(b:Step p H1 c):Step p H c:=⟨b.fX,λc o e n=>b.rest c o (a.rest c o e n) n⟩
theorem Step.same{c:Hp}(a:Step p H H1)(b:av H1 c):Step p H c:=
 ⟨let ⟨x,y,e⟩:=a.fX;⟨x,y,b _ _ e⟩,λc o e n=>b c o (a.rest c o e n)⟩
theorem Step.set(a:Step p H H1)(x y:Int):Step p H (upd H1 p (.lst [.int x,.int y])):=
 ⟨⟨x,y,af⟩,λc o e n=>by rw[ay n];calc a.rest c o e n⟩
theorem Step.new{q:Addr}(a:Step p H H1){o:HO}(b:H1 q=none):Step p H (upd H1 q o):=a.same (av.new o b)
theorem Step.aS(a:Step p H H1)(c:eG H p):bS H H1:=λb d e=>a.rest b _ e λz=>by
 subst z;obtain⟨_,_,h⟩:=c;rw[h]at e;cases e
theorem Step.ne{q:Addr}(b:eG H p)(a:H q=none):q≠p:=λz=>by
 subst z;obtain⟨_,_,h⟩:=b;rw[h]at a;cases a
end
section
section
variable {X:Cx}
def O0(K:W.Frag):List V->Hp->VK->Prop:=λxs H Q=>match xs with
 | [x]=>∃n,EN K x H n/\Q (.int (n:Nat)) H
 |_=>False
theorem aP:eX X (.builtin "len") (O0 X.K):=by
 intro a s σ H b c Q I r h
 match b,r,h with
 | [x],r,h=>
  obtain⟨n,b,d⟩:=h;calc EO a s σ H _ c Q I r ⟨x,n,rfl,b,d⟩
def uII(g:Int->Int->Int):List V->Hp->VK->Prop:=λxs H Q=>match xs with
 | [.int i,.int j]=>Q (.int (g i j)) H
 |_=>False
theorem Cz(b:X.calm=true):eX X (.builtin "max") (uII λi j=>if j > i then j else i):=by
 intro a s σ H c d Q I r h
 match c,r,h with
 | [.int i,.int j],r,h=>calc Ci b a s σ H _ d Q I r ⟨i,j,rfl,h⟩
def vo(K:W.Frag):List V->Hp->VK->Prop:=λxs H Q=>match xs with
 | [.ref p]=>(∃a,aR K H p a/\∀l,H l=none->Q (.ref l) (upd H l (.tup a)))\/(∃a,bM K H p a/\Q (.ref p) H)
 |_=>False
theorem cH:eX X (.type "tuple") (vo X.K):=by
 intro a s σ H b e Q I r h
 match b,r,h with
 | [.ref p],r,h=>
  rcases h with⟨b,c,d⟩|⟨b,c,d⟩
  ·exact lP a s σ H _ e Q I r ⟨p,b,rfl,.inl ⟨c,d⟩⟩
  ·calc lP a s σ H _ e Q I r ⟨p,b,rfl,.inr ⟨c,d⟩⟩
def Mc(K:W.Frag):List V->Hp->VK->Prop:=λxs H Q=>match xs with
 | [.ref p]=>∃a,(aR K H p a\/bM K H p a)/\∀l,H l=none->Q (.ref l) (upd H l (.lst a))
 |_=>False
theorem cM:eX X (.type "list") (Mc X.K):=by
 intro a s σ H b c Q I r h
 match b,r,h with
 | [.ref p],r,h=>
  obtain⟨b,d,e⟩:=h;calc vh a s σ H _ c Q I r ⟨p,b,rfl,d,e⟩
def Md:V->V->V->Hp->(Hp->Prop)->Prop:=λo i v H Q=>match o,i with
 | .ref p,.int k=>∃xs j,H p=some (.lst xs)/\p6 xs.length k=some j/\Q (upd H p (.lst (xs.set j v)))
 |_,_=>False
theorem d9:Oa X Md:=by
 intro a s σ H o i v b c u Q I d e f h
 cases o<;>cases i<;>first
  |calc(show False from h).elim
  |(obtain⟨g,j,i,k,l⟩:=h;calc set_list a s σ H _ _ v b c u Q I d e f ⟨_,g,_,j,rfl,rfl,i,k,l⟩)
end
theorem Tu{CX P w K mg base N qual scope f cd A outer s H E}:(jx CX P w K mg base N qual scope f cd A outer s H E).uZ.K=K:=rfl
theorem Me{X:Cx}:X.uZ.K=X.K:=rfl
theorem Ft{CX P w K mg base N qual scope f cd A outer s H E}:(jx CX P w K mg base N qual scope f cd A outer s H E).K=K:=rfl
theorem Mf{X:Cx}{scope C N' a b fp}:(Tg X scope C N' a b fp).K=X.K:=rfl
theorem dq:2<=sizeLine:=by decide
end
section
variable {g:Int->Int->V}
section
variable {K:W.Frag}{H:Hp}{Q:VK}{i j:Int}{a b:Addr}{x y:V}{s t:Str}
theorem A9:OT (.int i) (.int j) H Q=Q (.int (i+j)) H:=rfl
theorem Ba:OT (.str s) (.str t) H Q=(s.length+t.length<=sizeLine/\Q (.str (s++t)) H):=rfl
theorem Bb:OT (.ref a) (.ref b) H Q=∃xs c,H a=some (.lst xs)/\H b=some (.lst c)/\xs.length+c.length<=sizeLine/\∀p,H p=none->Q (.ref p) (upd H p (.lst (xs++c))):=rfl
theorem Mg{C:Int->Int->Prop}:uI C g (.int i) (.int j) H Q=(C i j/\Q (g i j) H):=rfl
theorem Fu:OU g (.int i) (.int j) H Q=Q (g i j) H:=rfl
theorem Fv:decide (V.int i=V.int j)=decide (i=j):=by simp
theorem Fw:decide (V.str s=V.str t)=decide (s=t):=by simp
theorem vp:OX K (.int i) (.int j) H Q=Q (.bl (decide (i=j))) H:=by
 show(true=true/\Q (.bl (decide (V.int i=V.int j))) H)=_;rw[Fv];simp
theorem vq:OX K (.str s) (.str t) H Q=Q (.bl (decide (s=t))) H:=by
 show(true=true/\Q (.bl (decide (V.str s=V.str t))) H)=_;rw[Fw];simp
theorem vt:Ra K (.int i) (.int j) H Q=Q (.bl (!decide (i=j))) H:=by
 show(true=true/\Q (.bl (!decide (V.int i=V.int j))) H)=_;rw[Fv];simp
theorem vv:Ra K (.str s) (.str t) H Q=Q (.bl (!decide (s=t))) H:=by
 show(true=true/\Q (.bl (!decide (V.str s=V.str t))) H)=_;rw[Fw];simp
theorem Fx:OX K (.ref a) (.ref b) H Q=((kn K H 20 (.ref a) (.ref b)/\Q (.bl true) H)\/(rz K H a b/\Q (.bl false) H)):=rfl
theorem Fy:Ra K (.ref a) (.ref b) H Q=((kn K H 20 (.ref a) (.ref b)/\Q (.bl false) H)\/(rz K H a b/\Q (.bl true) H)):=rfl
theorem Fz{g:Bool->Bool}{c d:Bool}:Ts g (.bl c) (.bl d) H Q=Q (.bl (g (c==d))) H:=rfl
theorem Mh{b:Bool}:uIn K b x (.ref a) H Q=∃xs,(aR K H a xs\/bM K H a xs)/\fZ x=true/\xs.all fZ=true/\Q (.bl (if b then !AX x xs else AX x xs)) H:=rfl
theorem FA:Rb K (.ref a) (.int i) H Q=∃xs v,(aR K H a xs\/bM K H a xs)/\hJ xs i=some v/\Q v H:=rfl
theorem FC:Rb K (.ref a) (.str s) H Q=∃v,gc H a (.str s) (some v)/\Q v H:=rfl
theorem FE:Rb K (.str s) (.int i) H Q=∃c,s.length<=sizeLine/\hJ s.cps.toList i=some c/\Q (.str ⟨#[c]⟩) H:=rfl
theorem FG{n:String}:Zy K [x,.ty n] H Q=∃t b,gb K H x t/\W.kitOne K t (.type n)=some b/\Q (.bl b) H:=rfl
theorem FH:O0 K [x] H Q=∃n,EN K x H n/\Q (.int (n:Nat)) H:=rfl
theorem Mi{g:Int->Int->Int}:uII g [.int i,.int j] H Q=Q (.int (g i j)) H:=rfl
theorem nz:vo K [.ref a] H Q=((∃b,aR K H a b/\∀l,H l=none->Q (.ref l) (upd H l (.tup b)))\/(∃b,bM K H a b/\Q (.ref a) H)):=rfl
theorem Bc:Mc K [.ref a] H Q=∃b,(aR K H a b\/bM K H a b)/\∀l,H l=none->Q (.ref l) (upd H l (.lst b)):=rfl
theorem wW{R:Hp->Prop}:Md (.ref a) (.int i) x H R=∃xs j,H a=some (.lst xs)/\p6 xs.length i=some j/\R (upd H a (.lst (xs.set j x))):=rfl
theorem uu{α:Type}{o:Option α}:(some o).join=o:=rfl
end
theorem Step.base{p:Addr}{a b c:Hp}(s:av a b)(d:a p=none)(f:L2.Step p b c):av a c:=λb o e=>f.rest b o (s b o e) (au e d)
end
section
variable {r:List V->Hp->VK->Prop}
def dw:Expr->Bool
 | .Starred ..=>false
 |_=>true
theorem dF{e:Expr}{a:List Expr}{env:Env}(h:dw e=true):starEach (e::a) env=(false,eval e env)::starEach a env:=by
 cases e<;>first|rfl|calc absurd h V'
theorem eZ{a:Pos}{env:Env}:∀{b:List Expr},b.all dw=true->(backTo a (starEach b env)).any (·.1)=false
 | [],_=>rfl
 |e::b,h=>by
  rw[List.all_cons,Bool.and_eq_true]at h;rw[dF h.1];show(false||(backTo a (starEach b env)).any (·.1))=false;rw[eZ h.2];rfl
def zj:Expr->Bool
 | .ListComp ..=>false
 | .SetComp ..=>false
 | .DictComp ..=>false
 |_=>true
theorem fL{e:Expr}{t:Option Expr}{l:Nat}{env:Env}(h:zj e=true):swapsWith e t l env=pure false:=by
 cases e<;>first|rfl|calc absurd h V'
section
variable {X:Cx}{e:Expr}{es:List Expr}{te:TE}{t:TA}{pos p:Pos}{x:Str}
theorem ag(a:PE X e te)(b:PA X es t)(h:dw e=true:=by rfl):PA X (e::es) (wD te t):=JQ a b (dF h)
theorem aM{k j:Nat}{a:List Str}{sp:Sp}(D:Def X.prog X.w X.K X.mg X.base x k a sp)(b:dA j X.A)(c:PA X (e::es) t)(d:Gl X x:=by rfl)(a:k<=j:=by decide)
  (f:(x==("__debug__":Str))=false:=by decide) (g:dw e=true:=by rfl) (h:es.all dw=true:=by rfl):
  PE X (.Call (.Name x p) (e::es) [] pos) (tX sp [] E0 t):=Tt D b c d a f (dF g) (eZ h)
theorem bg{a:String}(b:eX X (.builtin a) r)(c:Gl X x)(d:X.mg x=none)(f:bootBuiltins x=some (.builtin a))(g:PA X (e::es) t)(h:x≠"__name__":=by decide)(a:(x==("__debug__":Str))=false:=by decide)
  (i:dw e=true:=by rfl) (j:es.all dw=true:=by rfl):PE X (.Call (.Name x p) (e::es) [] pos) (Q8 r t):=EY b c d f g h a (dF i) (eZ j)
theorem dZ{T:String}(a:eX X (.type T) r)(b:Gl X x)(c:X.mg x=none)(d:bootBuiltins x=some (.type T))(f:PA X (e::es) t)(g:x≠"__name__":=by decide)(h:(x==("__debug__":Str))=false:=by decide)
  (i:dw e=true:=by rfl) (j:es.all dw=true:=by rfl):PE X (.Call (.Name x p) (e::es) [] pos) (Q8 r t):=Cm a b c d f g h (dF i) (eZ j)
theorem ba{i:Nat}{a:Pos}(b:X.N.Nodup)(c:X.N[i]?=some x)(d:Loc X.env.scope x)(f:PE X e te)(h:zj e=true:=by rfl)(g:X.fn x=true\/X.env.scope.names.lookup x=some .local:=by grind):
  PS X (.Assign [.Name x a] e pos) (Ce te (gX i)):=EC b c d f (fL h) g
theorem cj(a:PE X e te)(h:zj e=true:=by rfl):PS X (.Expr e pos) (wB te):=JF a (fL h)
end
end
section
def vz:Expr->Bool
 | .Slice ..=>false
 |_=>true
theorem rA{b:Expr}(h:vz b=true):AV b:=λo i=>by
 cases b<;>first|rfl|calc absurd h V'
theorem ak{X:Cx}{a b:Expr}{d e:TE}{c:Pos}(f:X.A.units+64<cLine)(g:PE X a d)(i:PE X b e)(h:vz b=true:=by rfl):PE X (.Subscript a b c) (JI (Rb X.K) d e):=SX (Zz f) g i (rA h)
end
section
variable {E:Value->Shared->Prop}
def qI:List Value:=[.type "ValueError",.type "Exception",.type "BaseException",.type "object"]
section
variable {prog:Program}{w:World}{A:Around}{h:Heap}{g:Array GenState}{d:Drawn}{t:Nat}{os:OsState}
variable {nm q:Str}{C B N:Addr}{bs:List Value}{sn:List Str}{sub:List Value}{ab:Bool}{col:Option Bool}{dd:Option Addr}{k0 k1 k2 k3 k5:Option Value}
theorem zk{M:Model}{rest:List Value}{Q:Unit->Shared->Prop}(a:h.get? C=some (excClassObj nm q C N bs (.ref B::qI) true sn sub ab col dd k0 k1 k2 k3 k5 "ValueError.__new__"))
  (c:Q () ⟨h,g,d,t,os⟩):wpAny M A (checkBuiltinCall "ValueError.__new__" ⟨.ref C::rest,[]⟩) Q E ⟨h,g,d,t,os⟩:=by
 have b:=PySem.F.excBase_ValueError;have e:(Value.ref C::.ref B::qI).contains (.type "ValueError")=true:=rfl;have f:=b.noStar;simp only[checkBuiltinCall,b.newKind,b.newSplit,b.newRow]
 repeat (first|calc aaA a ?_|(calc aaY a ?_;rw[e])|calc wpAny_staticBase_exc a ?_|calc wpAny_madeBy_exc a ?_|simp only[bne_self_eq_false,Bool.false_eq_true,if_false]|wp_step)
 calc c
theorem CA{R:Result->Shared->Prop}{rest:List Value}(b:h.get? C=some (excClassObj nm q C N bs (.ref B::qI) true sn sub ab col dd k0 k1 k2 k3 k5 "ValueError.__new__"))
  (i:R (.ok (.ret (.ref (h.objs.size + 1)))) ⟨(h.push {cls:=.type "tuple",data:=.seq rest.toArray}).push
   {cls:=.ref C,data:=.fields #[.ref h.objs.size,.none,.none,.none,.bool false,.none]},g,d,t,os⟩) (a:rest.length<=sizeLine):
  codeAny (model prog w) A (.builtin "ValueError.__new__" ⟨.ref C::rest,[]⟩) R ⟨h,g,d,t,os⟩:=by
 have a:=PySem.F.excBase_ValueError;have c:=a.ends;have j:(Value.ref C::.ref B::qI).contains (.type "ValueError")=true:=rfl;have c:(Value.ref C::.ref B::qI).contains (.type "AttributeError")=false:=rfl;have e:(Value.ref C::.ref B::qI).contains (.type "NameError")=false:=rfl;refine codeAny_builtinAt a.entry ?_;unfold Builtin.«BaseException.__new__»;refine PySem.wpAt_bind ?_;show PySem.wpAt _ _ _ (stack >>= _) _ _ _;refine PySem.wpAt_bind (PySem.wpAt_stack λp f=>PySem.wpAt_of_wpAny ?_);wp_walk;refine PySem.wpAt_of_wpAny ?_;rw[a.owner]
 repeat (first|with_reducible calc wpAny_madeHere_exc a.canon b ?_|with_reducible calc aaA b ?_|(with_reducible calc aaY b ?_;first|rw[j]|rw[c]|rw[e])|wp_step)
 show R _ _;rw[Heap.size_push];calc i
theorem zl{K:W.Frag}{rest:List Value}{a:Addr}{Q:PySem.Fin->Shared->Prop}(X:K.In h)
    (c:h.get? C=some (excClassObj nm q C N bs (.ref B::qI) true sn sub ab col dd k0 k1 k2 k3 k5 "ValueError.__new__"))
    (i:W.findIn K (.ref C) "__init__"=some (some (.ref a))) (j:W.typeIn K (.ref a)=some (.type "function"))
    (k:wpAny (model prog w) A (call (.ref a) (.ref (h.objs.size + 1)::rest)) (λr s'=>r=.none/\Q (.done (.ret (.ref (h.objs.size + 1)))) s') E
      ⟨(h.push {cls:=.type "tuple",data:=.seq rest.toArray}).push {cls:=.ref C,data:=.fields #[.ref h.objs.size,.none,.none,.none,.bool false,.none]},g,d,t,os⟩) (a:rest.length<=sizeLine):
    wpAny (model prog w) A (Builtin.«type.__call__» ⟨.ref C::rest,[]⟩) Q E ⟨h,g,d,t,os⟩:=by
  have e:=PySem.F.excBase_ValueError
  repeat (first|with_reducible calc aaA c ?_|with_reducible calc wpAny_madeBy_exc c ?_|wp_step)
  calc codeAny_call_builtin_code (Code.quiet_builtin _ e.quiet) (zk c ?_);calc CA c ?_ a;show wpAny _ _ _ _ _ _;have f:∀b o,h.get? b=some o->((h.push {cls:=.type "tuple",data:=.seq rest.toArray}).push {cls:=.ref C,data:=.fields #[.ref h.objs.size,.none,.none,.none,.bool false,.none]}).get? b=some o:=
    λb o e=>K' _ (K' _ e)
  have b:=f _ _ c;have a:=X.keeps f;have c:((h.push {cls:=.type "tuple",data:=.seq rest.toArray}).push
      {cls:=.ref C,data:=.fields #[.ref h.objs.size,.none,.none,.none,.bool false,.none]}).get? (h.objs.size + 1)=some
      {cls:=.ref C,data:=.fields #[.ref h.objs.size,.none,.none,.none,.bool false,.none]}:=by heap_get
  have e:(Value.ref C::.ref B::qI).contains (.ref C)=true:=by simp
  unfold isInstance
  repeat (first|with_reducible calc aaA c ?_|(with_reducible calc aaY b ?_;rw[e])|wp_step)
  show wpAny _ _ (typeLookup (.ref C) _) _ _ _;calc(W.looks_findIn a i).here ?_;calc aaD (J' ?_);calc(W.bind_fn a _ j).here ?_;calc J' (aat k (λr s' l=>?_) λ_ _ x=>x);obtain⟨rfl,a⟩:=l;wp_walk;calc a
theorem zm{K:W.Frag}{rest:List Value}{b:Addr}{Q:Value->Shared->Prop}(X:K.In h)
  (a:h.get? C=some (excClassObj nm q C N bs (.ref B::qI) true sn sub ab col dd k0 k1 k2 k3 k5 "ValueError.__new__"))
  (c:W.findIn K (.ref C) "__init__"=some (some (.ref b))) (e:W.typeIn K (.ref b)=some (.type "function"))
  (f:wpAny (model prog w) (A.under (.builtin "type.__call__" ⟨.ref C::rest,[]⟩)) (call (.ref b) (.ref (h.objs.size + 1)::rest)) (λr s'=>r=.none/\Q (.ref (h.objs.size + 1)) s') E
   ⟨(h.push {cls:=.type "tuple",data:=.seq rest.toArray}).push {cls:=.ref C,data:=.fields #[.ref h.objs.size,.none,.none,.none,.bool false,.none]},g,d,t,os⟩) (b:rest.length<=sizeLine):
  wpAny (model prog w) A (call (.ref C) rest) Q E ⟨h,g,d,t,os⟩:=by
 have i:=tc_lookup;have i:=tc_bind (.ref C);have i:(⟨h,g,d,t,os⟩:Shared).TypeIs (.ref C) "type":=⟨_,a,rfl⟩
 calc wpAny_call (codeAny_of_tree ?_);show wpAny _ _ (callAny (.ref C) _) _ _ _
 repeat (any_goals (first|assumption|with_reducible calc aaA a ?_|wp_step))
 calc⟨rfl,?_⟩;calc codeAny_call_builtin_at (Code.quiet_builtin _ (by decide +kernel)) entry_typeCall (wpAny_check_type_call_sub a (zl X a c e ?_ b));calc f
end
end
end L2
set_option maxHeartbeats 400000
namespace L2
open PySem PySem.Spec PyProof.Rows
section
structure fY(K:W.Frag)(C B:Addr):Prop where
 ob:∃nm q N bs sn sub ab col dd k0 k1 k2 k3 k5,K.lookup C=some (excClassObj nm q C N bs (.ref B::qI) true sn sub ab col dd k0 k1 k2 k3 k5 "ValueError.__new__")
 ga:W.findIn K (.ref C) "__getattribute__"=some (some (.builtin "BaseException.__getattribute__"))
 gt:W.findIn K (.ref C) "__getattr__"=some none
 sa:W.findIn K (.ref C) "__setattr__"=some (some (.builtin "object.__setattr__"))
 cl:W.findIn K (.ref C) "__class__"=some (some (.builtin "object.__class__"))
 cg:W.specialIn K (.builtin "object.__class__") "__get__"=some (some (.builtin "getset_descriptor.__get__"))
 ct:W.takesIn K (.builtin "object.__class__")=some true
 kp:W.keepIn K (.ref C)=true
theorem fY.cd{K:W.Frag}{C B:Addr}(c:fY K C B):∃cd:ClassData,W.clsIn K C=some cd/\cd.mro=.ref C::.ref B::qI/\cd.hasDict=true:=by
 obtain⟨d,q,N,f,g,a,h,b,i,j,k,l,m,n,e⟩:=c.ob;calc⟨_,by unfold W.clsIn;rw[e],rfl,rfl⟩
theorem fY.mro{K:W.Frag}{C B:Addr}(c:fY K C B)(v:Value):W.mroIn K C v=some ((.ref C::.ref B::qI).contains v):=by
 obtain⟨cd,e,a,_⟩:=c.cd;unfold W.mroIn;rw[e,Option.bind_some,a];rfl
section
variable {prog:Program}{w:World}{A:Around}{E:Value->Shared->Prop}{s:Shared}{K:W.Frag}{x C B:Addr}{ox:Obj}{od:Option Obj}{name:Str}
open PySem.W in
theorem CB{v:Value}{a:Tok}{R:Result->Shared->Prop}(X:K.In s.heap)(I:InstAt s.heap x ox C od)(c:fY K C B)(e:findObj K C od name=some (.value v))(h:R (.ok (.ret v)) s):
  codeAny (model prog w) A (.call (.builtin "BaseException.__getattribute__") ⟨[.ref x,.str name a],[]⟩) R s:=by
 have f:=W9;have i:builtinKind "BaseException.__getattribute__"=some .slot:=by decide +kernel
 have j:splitId "BaseException.__getattribute__"=some ("BaseException","__getattribute__"):=by decide +kernel
 have b:=I.type (M:=model prog w);have k:mroIn K C (.type "BaseException")=some true:=(c.mro _).trans rfl;have L2:Looks (model prog w) s.heap (isInstance (.ref x) (.type "BaseException")) true:=b.andThen (looks_mroIn X k);refine codeAny_call_builtin f.ga.plain PySem.F.entry_bexc_ga (@check_slot (model prog w) _ _ s "BaseException.__getattribute__" "BaseException" "__getattribute__" (.ref x) [.str name a] [] _ i j L2 (PySem.F.args_bexc_ga _ _) ?_);obtain⟨c,g,d,t,l⟩:=s;have a:=looks_find (M:=model prog w) X I e;refine J' (R' (J' (R' (J' (b.here (J' (a.here ?_)))))));exact R' h
open PySem.W in
theorem zp{g a:Value}{b:Tok}{R:Result->Shared->Prop}(X:K.In s.heap)(I:InstAt s.heap x ox C od)(c:fY K C B)(f:findObj K C od name=some (.bind g a))
  (h:∀A,wpAny (model prog w) A (call g [a,.ref x,.ref C]) (λv s'=>R (.ok (.ret v)) s') (λe s'=>R (.error e) s') s):
  codeAny (model prog w) A (.call (.builtin "BaseException.__getattribute__") ⟨[.ref x,.str name b],[]⟩) R s:=by
 have i:=W9;have j:builtinKind "BaseException.__getattribute__"=some .slot:=by decide +kernel
 have k:splitId "BaseException.__getattribute__"=some ("BaseException","__getattribute__"):=by decide +kernel
 have e:=I.type (M:=model prog w);have l:mroIn K C (.type "BaseException")=some true:=(c.mro _).trans rfl;have L2:Looks (model prog w) s.heap (isInstance (.ref x) (.type "BaseException")) true:=e.andThen (looks_mroIn X l);refine codeAny_call_builtin i.ga.plain PySem.F.entry_bexc_ga (@check_slot (model prog w) _ _ s "BaseException.__getattribute__" "BaseException" "__getattribute__" (.ref x) [.str name b] [] _ j k L2 (PySem.F.args_bexc_ga _ _) ?_);obtain⟨c,m,d,t,n⟩:=s;have b:=looks_find (M:=model prog w) X I f;refine J' (R' (J' (R' (J' (e.here (J' (b.here ?_)))))));show wpAny _ _ (Builtin.ObjectAttr.bindTo g a (.ref x) (.ref C)) _ _ _;exact J' (aaD (aat (h _) (λv s' z=>R' z) λ_ _ z=>z))
end
end
section
section
variable {prog:Program}{w:World}{A:Around}{E:Value->Shared->Prop}{s:Shared}{K:W.Frag}{x C B:Addr}{ox:Obj}{od:Option Obj}{name:Str}
open PySem.W in
theorem ZD{v:Value}{a:Bool}{Q:Value->Shared->Prop}(X:K.In s.heap)(I:InstAt s.heap x ox C od)(c:fY K C B)(b:findObj K C od name=some (.value v))(e:handedIn v=true)(h:Q v {s with toks:=s.toks+1}):
  wpAny (model prog w) A (getAttr (.ref x) name a) Q E s:=by
 obtain⟨f,g,d,t,i⟩:=s;have j:=W9;have k:=I.type (M:=model prog w);have l:=looks_findIn (M:=model prog w) X c.ga;have L2:=looks_findIn (M:=model prog w) X c.gt;have m:(a&&onTheHeap (Value.builtin "BaseException.__getattribute__"))=false:=by cases a<;>rfl
 unfold getAttr getAttrBy;calc J' (wpAny_mkText (aaD (J' (k.at (J' (l.at ?_))))));show wpAny _ _ (getAttrByItsOwn _ _ _ _ _ _) _ _ _;unfold getAttrByItsOwn callGetattribute boundAndCalled;calc J' (L2.at (J' (wpAny_attempt (aaD ?_))));rw[m];simp only[Bool.false_eq_true,if_false];rw[j.ga.bind];calc J' (R' (wpAny_call ?_));calc CB (s:=⟨f,g,d,t+1,i⟩) X I c b ?_;show wpAny _ _ (handedOut v) _ _ _;rw[handedOut_of e];exact R' h
open PySem.W in
theorem O2{Q:Option Value->Shared->Prop}(X:K.In s.heap)(I:InstAt s.heap x ox C od)(c:fY K C B)(h:Q (some (.ref C)) {s with toks:=s.toks+1}):
  wpAny (model prog w) A (getAttr? (.ref x) "__class__") Q E s:=by
 obtain⟨a,g,d,t,b⟩:=s;have f:=W9;have i:=I.type (M:=model prog w);have j:=looks_findIn (M:=model prog w) X c.ga;have L2:=looks_findIn (M:=model prog w) X c.gt;have k:mroIn K C (.type "object")=some true:=(c.mro _).trans rfl;have l:findObj K C od "__class__"=some (.bind (.builtin "getset_descriptor.__get__") (.builtin "object.__class__")):=by
  obtain⟨cd,e,_⟩:=c.cd;unfold findObj;rw[e,Option.bind_some,c.cl,Option.bind_some];simp[c.cg,c.ct]
 unfold getAttr? getAttrBy? getAttrBy;calc J' (wpAny_mkText (J' (wpAny_attempt (aaD (J' (i.at (J' (j.at ?_))))))));show wpAny _ _ (getAttrByItsOwn _ _ _ _ _ _) _ _ _;unfold getAttrByItsOwn callGetattribute boundAndCalled;calc J' (L2.at (J' (wpAny_attempt (aaD ?_))));simp only[Bool.false_and,Bool.false_eq_true,if_false];rw[f.ga.bind];calc J' (R' (wpAny_call ?_));calc zp (s:=⟨a,g,d,t+1,b⟩) X I c l λe=>?_;calc wpAny_call (class_get (s:=⟨a,g,d,t+1,b⟩) (ox:=ox) (od:=od) X I k ?_);show wpAny _ _ (handedOut (.ref C)) _ _ _;exact R' (R' h)
open PySem.W in
theorem FI(c:fY K C B):KitX K (.ref x) (.ref C) (λh=>∃ox od,InstAt h x ox C od) where
 ty:=λ_ _ _ I=>let ⟨_,_,I⟩:=I;I.type
 it:=λ_ _ X _=>by
  obtain⟨i,q,N,j,l,a,m,b,g,o,p,r,t,u,d⟩:=c.ob;intro n v y z k q;unfold isType loadHead;exact J' (wpAny_loadPart (k _ _ (X _ _ d)) (R' q))
 ne:=λh v g y n z X w=>by
  obtain⟨i,q,N,j,l,a,m,b,g,o,p,r,t,u,d⟩:=c.ob;calc Bool.eq_false_iff.mpr λq=>?_;have e:C=v:=Value.ref.inj (beq_iff_eq.mp q);subst e;have z:=(X _ _ d).symm.trans w;have a:=congrArg (Option.map Obj.cls) z;simp at a
 ca:=λX I k=>let ⟨_,_,I⟩:=I;O2 X I c k
end
end
section
def XOb(C:Addr)(d:Option Addr)(c:Bool)(a:Addr)(h:Heap):Prop:=∃b e,h.get? a=some (⟨.ref C,d,.fields b,e⟩:Obj)/\(c=true->b[1]?=some .none)
abbrev XO(a C:Addr)(d:Option Addr)(b:Bool):HO:=.ext (XOb C d b a)
def Xu(c:List (Str×V))(a:Addr)(h:Heap):Prop:=∃b,h.Ns1 a b/\(∀f,iR (c.lookup f) (b f))/\PySem.Within b (c.map (·.1))
abbrev XD(a:Addr)(b:List (Str×V)):HO:=.ext (Xu b a)
section
variable {P:Program}{w:World}{H:Hp}{h:Heap}{a C:Addr}{d:Option Addr}{fl:Bool}
theorem FJ{b:Array Value}{c:Array (Option Value)}(e:h.get? a=some (⟨.ref C,d,.fields b,c⟩:Obj))(f:fl=true->b[1]?=some .none):cC P w H h a (XO a C d fl):=
 ⟨⟨b,c,e,f⟩,⟨_,e⟩,λ_ _ ⟨b,c,e,f⟩ k=>⟨b,c,k _ e,f⟩⟩
theorem O3(x:cC P w H h a (XO a C d fl)):XOb C d fl a h:=x.1
theorem TB{b:List (Str×V)}(x:Xu b a h):cC P w H h a (XD a b):=
 ⟨x,let ⟨_,⟨o,_,_,e,_⟩,_⟩:=x;⟨o,e⟩,λ_ _ ⟨m,n,r⟩ k=>⟨m,n.at k,r⟩⟩
theorem FK{b:List (Str×V)}(x:cC P w H h a (XD a b)):Xu b a h:=x.1
end
section
variable {prog:Program}{w:World}{A:Around}{E:Value->Shared->Prop}{s:Shared}{K:W.Frag}{x C B:Addr}{name:Str}{v:Value}
theorem FL(a:Value):refuseLoop a "__setattr__" (.ref C::.ref B::qI)=pure ():=by
 rw[refuseLoop_ref,refuseLoop_ref];exact PySem.F.store_ValueError.passes a
open PySem.W in
theorem ZE{ox:Obj}{od:Option Obj}{d:Tok}{R:Result->Shared->Prop}(X:K.In s.heap)(I:InstAt s.heap x ox C od)(c:fY K C B)(n:bJ K C name)
  (h:∀b a,wpAny (model prog w) a (Builtin.ObjectAttr.storeInOwnDict (.ref x) (.ref C) (.str name d) name v b)
   (λa s'=>match a with | .done f=>R (.ok f) s' | .again a=>a.quiet=true/\codeAny (model prog w) A a R s') (λe s'=>R (.error e) s') s):
  codeAny (model prog w) A (.call (.builtin "object.__setattr__") ⟨[.ref x,.str name d,v],[]⟩) R s:=by
 have a:=PySem.F.store_object;obtain⟨cd,e,f,b⟩:=c.cd;have g:mroIn K C (.type "object")=some true:=(c.mro _).trans rfl;have b:Looks (model prog w) s.heap (isInstance (.ref x) (.type "object")) true:=I.type.andThen (looks_mroIn X g);refine codeAny_call_builtin a.slot.plain a.entry (@check_slot (model prog w) _ _ s "object.__setattr__" "object" "__setattr__" (.ref x) [.str name d,v] [] _ a.kind a.split b (a.args (.ref x) (.str name d) v) ?_);have c:Looks (model prog w) s.heap (mroOf (.ref C)) cd.mro:=(looks_clsIn X e).andThen .now;rw[osa_eq,refuse_eq];refine J' (J' (I.type.here (J' (c.here ?_))));rw[f,FL];refine R' (J' (I.type.here (J' ((looks_findIn X n).here (J' (R' ?_))))));exact h _ _
end
end
section
variable {fl:Bool}
section
variable {X:Cx}{pins:List (Addr×Obj)}{σ:St}{H:Hp}{s:Shared}{a C B dx:Addr}{fs:List (Str×V)}{f:Str}{v:V}{A:Around}{E:Value->Shared->Prop}
theorem rB(I:Inv X pins σ H s){d:Option Addr}(e:H a=some (XO a C d fl)):∃vs b,s.heap.get? a=some (⟨.ref C,d,.fields vs,b⟩:Obj)/\(fl=true->vs[1]?=some .none):=O3 (I.aW a _ e)
theorem FN(I:Inv X pins σ H s){d:Option Addr}(e:H a=some (XO a C d fl)):∃vs b,s.heap.get? a=some (⟨.ref C,d,.fields vs,b⟩:Obj):=by
 obtain⟨vs,b,h,_⟩:=rB I e;calc⟨vs,b,h⟩
theorem zr{fl:Bool}{c:Value}{b:Bool}{d:Option Addr}{Q:Value->Shared->Prop}(I:Inv X pins σ H s)(e:H a=some (XO a C d fl))(f:∀dx,d=some dx->∃fs,H dx=some (XD dx fs))(g:fY X.K C B)
  (k:W.kitOne X.K (.ref C) c=some b) (h:∀i,Q (.bool b) {s with toks:=i}):wpAny (model X.prog X.w) A (call (.builtin "isinstance") [.ref a,c]) Q E s:=by
 calc W.kia_one (FI g) I.gG ?_ k (λz=>nomatch z) h;obtain⟨b,c,q⟩:=FN I e
 cases d with
 |none=>calc⟨_,none,q,rfl,rfl,aaw⟩
 |some dx=>
  obtain⟨fs,z⟩:=f dx rfl;obtain⟨_,⟨o,_,_,b,_⟩,_⟩:=FK (I.aW dx _ z);calc⟨_,some o,q,rfl,rfl,b⟩
theorem wX{b:Bool}{Q:Value->Shared->Prop}(I:Inv X pins σ H s)(e:H a=some (XO a C (some dx) fl))(d:H dx=some (XD dx fs))(c:fY X.K C B)(n:bJ X.K C f)(l:fs.lookup f=some v)
  (h:∀u s',Inv X pins σ H s'->RelV v u->Q u s'):wpAny (model X.prog X.w) A (getAttr (.ref a) f b) Q E s:=by
 obtain⟨b,g,q⟩:=FN I e;obtain⟨g,i,r,_⟩:=FK (I.aW dx _ d);obtain⟨b,e,j⟩:=tS i;obtain⟨u,k,d⟩:=iR.some_of (v:=v) (o:=g f) (by rw[<-l];calc r f);calc ZD (od:=some b) I.gG ⟨q,rfl,rfl,e⟩ c ?_ (tU d) (h u _ (I.tok _) d);obtain⟨cd,g,_,i⟩:=c.cd;calc W.findObj_own (attr:=none) (by unfold W.hasDictIn;rw[g];calc i) n rfl (by rw[j,k])
theorem vA{y:V}{u:Value}{Q:Unit->Shared->Prop}(I:Inv X pins σ H s)(e:H a=some (XO a C none fl))(c:fY X.K C B)(n:bJ X.K C f)(L:RelV y u)
  (h:∀dx s',H dx=none->Inv X pins σ (upd (upd H a (XO a C (some dx) fl)) dx (XD dx [(f,y)])) s'->Q () s'):wpAny (model X.prog X.w) A (setAttr (.ref a) f u) Q E s:=by
 obtain⟨vs,j,q,N⟩:=rB I e;have J:W.InstAt s.heap a ⟨.ref C,none,.fields vs,j⟩ C none:=⟨q,rfl,rfl,aaw⟩
 obtain⟨cd,k,_,o⟩:=c.cd;refine W.set_plain I.gG J c.sa (ZE (s:={s with toks:=s.toks+1}) I.gG J c n λb P=>?_);obtain⟨i,g,d,t,p⟩:=s;have q:i.get? a=some (⟨.ref C,none,.fields vs,j⟩:Obj):=q;have O:H i.objs.size=none:=I.aW.fresh (L' _);have r:a≠i.objs.size:=X' (T' q);have v:=W.looks_clsIn (M:=model X.prog X.w) (h:=i) I.gG k;unfold Builtin.ObjectAttr.storeInOwnDict Builtin.ObjectAttr.ownDictForStores;refine J' (R' ?_);rw[if_neg (by intro z;cases z)];refine J' ?_;show wpAny _ _ (instanceDict a true) _ _ _;unfold instanceDict;refine J' (wpAny_loadPart' q ?_);refine J' (v.here ?_);simp only[o,Bool.not_true,Bool.false_eq_true,if_false];have n:(i.push {cls:=.type "dict",data:=.dict #[]}).get? a=some (⟨.ref C,none,.fields vs,j⟩:Obj):=K' _ q;rw[if_neg (by simp[typeHasDict])];refine J' (wpAny_alloc' ?_);refine J' (wpAny_update' n ?_);refine R' ?_;have k:((i.push {cls:=.type "dict",data:=.dict #[]}).update a λo=>{cls:=o.cls,dict:=some i.objs.size,data:=o.data,slots:=o.slots}).get? i.objs.size=some {cls:=.type "dict",data:=.dict #[]}:=
  (Heap.get?_update_ne _ _ _ _ r.symm).trans (Heap.get?_push_at rfl rfl)
 have c:((i.push {cls:=.type "dict",data:=.dict #[]}).update a λo=>{cls:=o.cls,dict:=some i.objs.size,data:=o.data,slots:=o.slots}).Ns i.objs.size (λ_=>none):=
  ⟨_,#[],_,k,rfl,λe v=>absurd v (by simp),λ_=>rfl⟩
 have k:((i.push {cls:=.type "dict",data:=.dict #[]}).update a λo=>{cls:=o.cls,dict:=some i.objs.size,data:=o.data,slots:=o.slots}).get? a=some (⟨.ref C,some i.objs.size,.fields vs,j⟩:Obj):=
  aaW _ n rfl
 show wpAny _ _ (Builtin.ObjectAttr.storeInDict i.objs.size (.str f _) f u) _ _ _;unfold Builtin.ObjectAttr.storeInDict Builtin.ObjectAttr.newKeyGuard;calc J' (R' (J' (wpAny_nsSet1 (Heap.Ns1.of_empty c) λn v F=>?_)));obtain⟨U,c,J,P,R,S⟩:=v.count (Within.cons f u Within.nil);calc J' (wpAny_lookBehind P (by rw[R];calc pastItsLine_dict (aap S (by rw[List.length_cons,List.length_nil,sizeLine_eq];lia))) ?_);calc R' ?_;show Q () _;have T:n.get? a=some (⟨.ref C,some i.objs.size,.fields vs,j⟩:Obj):=(F.2 a r).trans k;have J:Xu [(f,y)] i.objs.size n:=by
  refine⟨_,v,λc=>?_,λc k=>?_⟩
  ·show iR (List.lookup c [(f,y)]) (if c=f then some u else none);by_cases z:c=f
   ·rw[if_pos z,z];simp only[List.lookup,beq_self_eq_true];exact L
   ·rw[if_neg z];simp only[List.lookup,beq_eq_false_iff_ne.mpr z];exact aaw
  ·by_cases z:c=f
   ·rw[z];simp
   ·exact absurd (if_neg z) k
 calc h i.objs.size _ O ?_;have l:(i.update a λo=>{cls:=o.cls,dict:=some i.objs.size,data:=o.data,slots:=o.slots}).get? a=some (⟨.ref C,some i.objs.size,.fields vs,j⟩:Obj):=aaW _ q rfl;have c:Inv X pins σ (upd H a (XO a C (some i.objs.size) fl)) {heap:=i.update a λo=>{cls:=o.cls,dict:=some i.objs.size,data:=o.data,slots:=o.slots},gens:=g,drawn:=d,toks:=t,os:=p}:=
  I.write (x:=a) (e:=a) (by rw[e];calc aaw) (.inl rfl) (λb G d z=>(Heap.get?_update_ne _ _ _ _ d).trans z) ⟨_,l⟩ (FJ l N)
 calc c.laid (a:=i.objs.size) (λb G z=>?_) (by show(i.update a _).objs.size<=_;rw[Heap.size_update];calc L' _) (TB J);by_cases m:b=a
 ·subst m;rw[l]at z;cases z;exact T
 ·have c:i.get? b=some G:=(Heap.get?_update_ne _ _ _ _ m).symm.trans z;calc(F.2 b (X' (T' c))).trans ((Heap.get?_update_ne _ _ _ _ m).trans (K' _ c))
end
end
section
structure qh(K:W.Frag)(mg:Str->Option Value)(x:Str)(C B:Addr):Prop where
 cl:fY K C B
 init:W.findIn K (.ref C) "__init__"=some (some (.builtin "ValueError.__init__"))
 mg:mg x=some (.ref C)
end
end L2
set_option maxHeartbeats 4000000
namespace PySem
variable {a j:Addr}{aO:Array Value}{b:Bool}{h:Heap}{Q:Value->Shared->Prop}
section
variable {prog:Program}{w:World}{A:Around}{E:Value->Shared->Prop}{s:Shared}
theorem qi{n:Nat}{v:Value}(b:s.heap.IsTupleIter j a n)(f:s.heap.IsTuple a aO)(h:aO[n]?=some v)
  (q:∀g,g.IsTupleIter j a (n+1)->Heap.SameBut j s.heap g->Q v {s with heap:=g}):wpAny (model prog w) A (Builtin.SmallTypes.nextOf (.ref j)) Q E s:=by
 obtain⟨g,e,c,d⟩:=id b;obtain⟨k,g,_,l,i⟩:=f;unfold Builtin.SmallTypes.nextOf;refine J' (aaH (name:=Str.ofString "__next__") b.typeIs F.slot_tuple_iterator_next (wpAny_call_entry F.slot_tuple_iterator_next b.typeIs F.entry_tuple_iterator_next ?_ (F.args_tuple_iterator_next_1 _)));refine J' (m:=field (.ref j) 0) (aax e d (x:=.ref a) rfl ?_);show wpAny _ _ (if (Value.ref a==Value.none)=true then _ else _) _ _ _;rw[if_neg (by exact Bool.false_ne_true)];refine J' (m:=field (.ref j) 1) (aax e d (x:=.int n 0) rfl ?_);refine J' (m:=seqItems? (.ref a)) (aa0 g i ?_);simp only[Int.toNat_natCast,h];refine J' (wpAny_setField e d (by simp) (R' ⟨v,rfl,R' (q _ ⟨_,aaW _ e (Obj.isFreed_of_fields (Obj.data_mapFields d _)),(Obj.cls_mapFields ..).trans c,?_⟩ (Heap.SameBut.update ..))⟩));rw[Obj.data_mapFields d];simp[rawInt]
theorem rC{n:Nat}(f:A.handled=none)(b:s.heap.IsTupleIter j a n)(h:s.heap.IsTuple a aO)(i:aO[n]?=none)
  (q:∀g e,Heap.ExtBut j s.heap g->(∃o,g.get? e=some o/\o.cls=.type "StopIteration")->E (.ref e) {s with heap:=g}):wpAny (model prog w) A (Builtin.SmallTypes.nextOf (.ref j)) Q E s:=by
 obtain⟨g,e,c,d⟩:=id b;obtain⟨k,c,_,l,g⟩:=h;unfold Builtin.SmallTypes.nextOf;refine J' (aaH (name:=Str.ofString "__next__") b.typeIs F.slot_tuple_iterator_next (wpAny_call_entry F.slot_tuple_iterator_next b.typeIs F.entry_tuple_iterator_next ?_ (F.args_tuple_iterator_next_1 _)));refine J' (m:=field (.ref j) 0) (aax e d (x:=.ref a) rfl ?_);show wpAny _ _ (if (Value.ref a==Value.none)=true then _ else _) _ _ _;rw[if_neg (by exact Bool.false_ne_true)];refine J' (m:=field (.ref j) 1) (aax e d (x:=.int n 0) rfl ?_);refine J' (m:=seqItems? (.ref a)) (aa0 c g ?_);simp only[Int.toNat_natCast,i];refine J' (wpAny_rule (J' (wpAny_setField e d (by simp) (J' (m:=newExc (.type "StopIteration") []) ?_))));simp only[newExc,newTuple];refine J' (aaJ (J' (m:=firstArgMember _ _) (wpAny_of_eq (a:=Value.none) (by first|rfl|(simp only[firstArgMember];rfl)) (aaJ ?_ (by size_fits)))) (by size_fits));simp only[raiseNew];refine J' (wpAny_handled ?_)
 first|rw[show A.in1.handled=none from f]|rw[f]
 calc J' (R' (wpAny_throw (q _ _ (((Heap.SameBut.update ..).extBut.push _).push _) ⟨_,W' _ rfl,rfl⟩)))
end
theorem Draws.tup{prog:Program}{w:World}{A:Around}(f:A.handled=none)(j a:Addr)(l:a≠j)(aO:Array Value):
  Draws prog w A j [j,a] aO.size (λi v=>aO[i]?=some v) (λi h=>h.IsTupleIter j a i/\h.IsTuple a aO) where
 live:=λ_ _ b=>let ⟨o,c,_⟩:=b.1;⟨o,c⟩
 frame:=λ_ _ _ b k=>⟨b.1.at λo e=>k j (by simp) o e,b.2.at λo e=>k a (by simp) o e⟩
 item:=λi s Q E c b q=>qi b.1 b.2 (v:=aO[i]) (by simp[c]) λg e d=>q _ g s.toks (by simp[c]) ⟨e,b.2.extBut d.extBut l⟩ d
 done:=λs Q E b q=>rC f b.1 b.2 (by simp) q
def sV(b:Bool)(h:Heap)(a:Addr)(aO:Array Value):Prop:=if b=true then h.IsList a aO else h.IsTuple a aO
def oO(b:Bool)(h:Heap)(j a:Addr)(n:Nat):Prop:=if b=true then h.IsListIter j a n else h.IsTupleIter j a n
theorem sV.at{h':Heap}(x:sV b h a aO)(k:∀o,h.get? a=some o->h'.get? a=some o):sV b h' a aO:=by
 cases b
 ·exact Heap.IsTuple.at x k
 ·calc Heap.IsList.at x k
theorem oO.at{h':Heap}{n:Nat}(x:oO b h j a n)(k:∀o,h.get? j=some o->h'.get? j=some o):oO b h' j a n:=by
 cases b
 ·exact Heap.IsTupleIter.at x k
 ·calc Heap.IsListIter.at x k
theorem oO.obj{n:Nat}(x:oO b h j a n):∃o,h.get? j=some o/\∀v,o.data≠.cell v:=by
 cases b<;>(obtain⟨o,e,c,d⟩:=x;calc⟨o,e,λv z=>by rw[d]at z;cases z⟩)
theorem Draws.sq{prog:Program}{w:World}{A:Around}(c:A.handled=none)(b:Bool)(j a:Addr)(d:a≠j)(aO:Array Value):
  Draws prog w A j [j,a] aO.size (λi v=>aO[i]?=some v) (λi h=>oO b h j a i/\sV b h a aO):=by
 cases b
 ·exact Draws.tup c j a d aO
 ·calc Draws.list c j a d aO
end PySem
namespace PySem
variable {Q:Option Value->Shared->Prop}
structure ZA(z ti to i1 i2:Addr)(f1 f2:List Addr):Prop where
 a1:ti≠z
 a2:to≠z
 a3:i1≠z
 a4:i2≠z
 a5:ti≠to
 a6:ti≠i1
 a7:ti≠i2
 a8:to≠i1
 a9:to≠i2
 a10:i1≠i2
 b1:z∉f1
 b2:to∉f1
 b3:i2∉f1
 c1:z∉f2
 c2:to∉f2
 c3:i1∉f2
section
variable {prog:Program}{w:World}{A:Around}{E:Value->Shared->Prop}{s:Shared}{z ti to i1 i2:Addr}{f1 f2:List Addr}{n1 n2 k:Nat}{P1 P2:Nat->Value->Prop}{S1 S2:Nat->Heap->Prop}{a b:Value}
theorem CC{Q:Value->Shared->Prop}(Z:ZA z ti to i1 i2 f1 f2)(B:Draws prog w A i1 f1 n1 P1 S1)(C:Draws prog w A i2 f2 n2 P2 S2)(d:IsZip s.heap z ti to .none)(i:IsPair s.heap ti (.ref i1) (.ref i2))(u:IsPair s.heap to a b)
  (l:S1 k s.heap) (F:S2 k s.heap) (n:k<n1) (G:k<n2)
  (q:∀x y g e,P1 k x->P2 k y->IsZip g z ti to (rawInt s.heap.objs.size)->IsPair g to x y->S1 (k + 1) g->S2 (k + 1) g->IsPair g s.heap.objs.size x y->g.objs.size=s.heap.objs.size + 1->
   (∀c o,c≠z->c≠to->c≠i1->c≠i2->s.heap.get? c=some o->g.get? c=some o)->Q (.ref s.heap.objs.size) {s with heap:=g,toks:=e}):
  wpAny (model prog w) A (Builtin.«zip.__next__» ⟨[.ref z],[]⟩) (λe s'=>∃v,e=.done (.ret v)/\Q v s') E s:=by
 calc J' (m:=field (.ref z) 2) (aax d rfl (x:=.bool false) rfl (J' (m:=field (.ref z) 3) (aax d rfl (x:=.ref ti) rfl ?_)));calc J' (aa0 i rfl (J' (m:=Builtin.SmallTypes.ownedTupleIsFree (.ref z)) ?_));unfold Builtin.SmallTypes.ownedTupleIsFree;calc J' (aax d rfl (x:=.none) rfl (R' ?_));simp only[if_true];refine J' (wpAny_rule (J' (aax d rfl (x:=.ref to) rfl (J' (wpAny_setField_rec d (by simp) λj p r=>?_)))))
 replace p:IsZip j z ti to .ellipsis:=p
 calc J' ?_;simp only[List.zipIdx_cons,List.zipIdx_nil,List.forIn_cons,List.forIn_nil];calc J' (J' (wpAny_onRaise (J' (m:=Builtin.SmallTypes.nextOf (.ref i1)) ?_)));refine B.item k _ _ _ n (B.frame _ _ _ l λc g o e=>r.extBut c o (λh=>Z.b1 (h▸g)) e) λx d l L J i=>R' ?_
 replace i:Heap.SameBut i1 j d:=i
 have l:IsPair d to a b:=i.extBut _ _ Z.a8 (r.extBut _ _ Z.a2 u);refine J' (aa0 l rfl (J' (wpAny_updateSeq_pair l λn t j=>J' (wpAny_letGo (R' ?_)))))
 replace t:IsPair n to x b:=t
 replace j:Heap.SameBut to d n:=j
 calc J' (J' (wpAny_onRaise (J' (m:=Builtin.SmallTypes.nextOf (.ref i2)) ?_)));refine C.item k _ _ _ G (C.frame _ _ _ F λc g o e=>j.extBut c o (λh=>Z.c2 (h▸g)) (i.extBut c o (λh=>Z.c3 (h▸g)) (r.extBut c o (λh=>Z.c1 (h▸g)) e))) λy u d M K l=>R' ?_
 replace l:Heap.SameBut i2 n u:=l
 have F:IsPair u to x b:=l.extBut _ _ Z.a9 t;refine J' (aa0 F rfl (J' (wpAny_updateSeq_pair F λd v n=>J' (wpAny_letGo (R' (R' ?_))))))
 replace v:IsPair d to x y:=v
 replace n:Heap.SameBut to u d:=n
 calc J' (aa0 v rfl (J' (wpAny_newTuple ?_)));have t:d.objs.size=s.heap.objs.size:=by rw[n.1,l.1,j.1,i.1,r.1]
 have u:IsZip d z ti to .ellipsis:=n.extBut _ _ Z.a2.symm (l.extBut _ _ Z.a4.symm (j.extBut _ _ Z.a2.symm (i.extBut _ _ Z.a3.symm p)));have N:∀c o,c≠z->c≠to->c≠i1->c≠i2->s.heap.get? c=some o->d.get? c=some o:=λc o p F G I e=>n.extBut _ _ F (l.extBut _ _ I (j.extBut _ _ F (i.extBut _ _ G (r.extBut _ _ p e))));have O:S1 (k+1) d:=B.frame _ _ _ J λc g o e=>n.extBut c o (λh=>Z.b2 (h▸g)) (l.extBut c o (λh=>Z.b3 (h▸g)) (j.extBut c o (λh=>Z.b2 (h▸g)) e));have P:S2 (k+1) d:=C.frame _ _ _ K λc g o e=>n.extBut c o (λh=>Z.c2 (h▸g)) e;have i:z<d.objs.size:=T' u;refine J' (m:=Builtin.SmallTypes.ownedTupleHandOut (.ref z) (.ref d.objs.size)) ?_;unfold Builtin.SmallTypes.ownedTupleHandOut;have j:IsZip (d.push {cls:=.type "tuple",data:=.seq #[x,y]}) z ti to .ellipsis:=K' _ u;refine J' (wpAny_setField_rec j (by simp) λn l J=>?_)
 replace l:IsZip n z ti to (rawInt d.objs.size):=l
 refine wpAny_setField_rec l (by simp) λj n u=>?_
 replace n:IsZip j z ti to (rawInt d.objs.size):=n
 have r:∀c o,c≠z->d.get? c=some o->j.get? c=some o:=λc o p e=>u.extBut _ _ p (J.extBut _ _ p (K' _ e));have K:IsPair j d.objs.size x y:=u.extBut _ _ (Nat.ne_of_gt i) (J.extBut _ _ (Nat.ne_of_gt i) (W' _ rfl));have l:j.objs.size=d.objs.size+1:=by rw[u.1,J.1,Heap.size_push]
 rw[t]at n K l;calc R' ⟨_,rfl,?_⟩;show Q (.ref d.objs.size) _;rw[t];calc q x y j _ L M n (r _ _ Z.a2 v) (B.frame _ _ _ O λc g o e=>r c o (λh=>Z.b1 (h▸g)) e) (C.frame _ _ _ P λc g o e=>r c o (λh=>Z.c1 (h▸g)) e) K l λc o p F G I e=>r c o p (N c o p F G I e)
theorem FT{Q:Fin->Shared->Prop}(Z:ZA z ti to i1 i2 f1 f2)(J:Draws prog w A i1 f1 n1 P1 S1)(R:Draws prog w A i2 f2 n2 P2 S2)(p:IsZip s.heap z ti to .none)(T:IsPair s.heap ti (.ref i1) (.ref i2))(U:IsPair s.heap to a b)
  (W:S1 k s.heap) (X:S2 k s.heap) (l:k=n1\/(k<n1/\k=n2))
  (q:∀g e Y,(∀c o,c≠z->c≠to->c≠i1->c≠i2->s.heap.get? c=some o->g.get? c=some o)->(∃o,g.get? e=some o/\o.cls=.type "StopIteration")->E (.ref e) {s with heap:=g,toks:=Y}):
  wpAny (model prog w) A (Builtin.«zip.__next__» ⟨[.ref z],[]⟩) Q E s:=by
 calc J' (m:=field (.ref z) 2) (aax p rfl (x:=.bool false) rfl (J' (m:=field (.ref z) 3) (aax p rfl (x:=.ref ti) rfl ?_)));calc J' (aa0 T rfl (J' (m:=Builtin.SmallTypes.ownedTupleIsFree (.ref z)) ?_));unfold Builtin.SmallTypes.ownedTupleIsFree;calc J' (aax p rfl (x:=.none) rfl (R' ?_));simp only[if_true];refine J' (wpAny_rule (J' (aax p rfl (x:=.ref to) rfl (J' (wpAny_setField_rec p (by simp) λK F r=>?_)))))
 replace F:IsZip K z ti to .ellipsis:=F
 calc J' ?_;simp only[List.zipIdx_cons,List.zipIdx_nil,List.forIn_cons,List.forIn_nil];calc J' (J' (wpAny_onRaise (J' (m:=Builtin.SmallTypes.nextOf (.ref i1)) ?_)));have t:=J.frame _ _ _ W λc u o e=>r.extBut c o (λh=>Z.b1 (h▸u)) e;rcases l with l|⟨l1,l2⟩
 ·subst l;calc J.done _ _ _ t λn x d L=>?_;nofun;obtain⟨M,j,v⟩:=L;ac_rfl
  replace d:Heap.ExtBut i1 K n:=d
  have S:IsZip n z ti to .ellipsis:=d _ _ Z.a3.symm F;have N:x≠z:=λy=>by subst y;rw[S]at j;cases j;simp at v
  exact wpAny_setField_rec S (by simp) λG _ i=>q G x s.toks (λc o B _ O _ y=>i.extBut _ _ B (d _ _ O (r.extBut _ _ B y))) ⟨M,i.extBut _ _ N j,v⟩
 ·subst l2;refine J.item k _ _ _ l1 t λx n P g l d=>R' ?_
  replace d:Heap.SameBut i1 K n:=d
  have g:IsPair n to a b:=d.extBut _ _ Z.a8 (r.extBut _ _ Z.a2 U);refine J' (aa0 g rfl (J' (wpAny_updateSeq_pair g λG l i=>J' (wpAny_letGo (R' ?_)))))
  replace i:Heap.SameBut to n G:=i
  calc J' (J' (wpAny_onRaise (J' (m:=Builtin.SmallTypes.nextOf (.ref i2)) ?_)));calc R.done _ _ _ (R.frame _ _ _ X λc u o e=>i.extBut c o (λh=>Z.c2 (h▸u)) (d.extBut c o (λh=>Z.c3 (h▸u)) (r.extBut c o (λh=>Z.c1 (h▸u)) e))) λg x I L=>?_;nofun;obtain⟨M,j,v⟩:=L;ac_rfl
  replace I:Heap.ExtBut i2 G g:=I
  have C:IsZip g z ti to .ellipsis:=I _ _ Z.a4.symm (i.extBut _ _ Z.a2.symm (d.extBut _ _ Z.a3.symm F));have N:x≠z:=λy=>by subst y;rw[C]at j;cases j;simp at v
  calc wpAny_setField_rec C (by simp) λg _ e=>q g x P (λc o B l O n y=>e.extBut _ _ B (I _ _ n (i.extBut _ _ l (d.extBut _ _ O (r.extBut _ _ B y))))) ⟨M,e.extBut _ _ N j,v⟩
end
section
variable {prog:Program}{w:World}{A:Around}{E:Value->Shared->Prop}{s:Shared}{z ti to i1 i2:Addr}{f1 f2:List Addr}{n1 n2 k:Nat}{P1 P2:Nat->Value->Prop}{S1 S2:Nat->Heap->Prop}{a b:Value}
theorem sW(Z:ZA z ti to i1 i2 f1 f2)(f:Draws prog w A.in1 i1 f1 n1 P1 S1)(h:Draws prog w A.in1 i2 f2 n2 P2 S2)(e:IsZip s.heap z ti to .none)(i:IsPair s.heap ti (.ref i1) (.ref i2))(j:IsPair s.heap to a b)
  (l:S1 k s.heap) (m:S2 k s.heap) (n:k<n1) (p:k<n2)
  (q:∀x y g d,P1 k x->P2 k y->IsZip g z ti to (rawInt s.heap.objs.size)->IsPair g to x y->S1 (k + 1) g->S2 (k + 1) g->IsPair g s.heap.objs.size x y->g.objs.size=s.heap.objs.size + 1->
   (∀c o,c≠z->c≠to->c≠i1->c≠i2->s.heap.get? c=some o->g.get? c=some o)->Q (some (.ref s.heap.objs.size)) {s with heap:=g,toks:=d}):
  wpAny (model prog w) A (pyNext (.ref z)) Q E s:=by
 have c:s.TypeIs (.ref z) "zip":=⟨_,e,rfl⟩
 unfold pyNext;exact J' (wpAny_attempt (aaH (name:=Str.ofString "__next__") c F.slot_zip_next (wpAny_call_entry F.slot_zip_next c F.entry_zip_next
  (CC Z f h e i j l m n p λx y g d c o r t u v B C D=>R' (q x y g d c o r t u v B C D)) (F.args_zip_next_1 _))))
theorem vB(Z:ZA z ti to i1 i2 f1 f2)(h:Draws prog w A.in1 i1 f1 n1 P1 S1)(i:Draws prog w A.in1 i2 f2 n2 P2 S2)(d:IsZip s.heap z ti to .none)(j:IsPair s.heap ti (.ref i1) (.ref i2))(m:IsPair s.heap to a b)
  (n:S1 k s.heap) (p:S2 k s.heap) (l:k=n1\/(k<n1/\k=n2))
  (q:∀g f,(∀c o,c≠z->c≠to->c≠i1->c≠i2->s.heap.get? c=some o->g.get? c=some o)->Q none {s with heap:=g,toks:=f}):wpAny (model prog w) A (pyNext (.ref z)) Q E s:=by
 have c:s.TypeIs (.ref z) "zip":=⟨_,d,rfl⟩
 unfold pyNext;refine J' (wpAny_attempt (aaH (name:=Str.ofString "__next__") c F.slot_zip_next (wpAny_call_entry F.slot_zip_next c F.entry_zip_next
  (FT Z h i d j m n p l λg e f c ⟨o,r,t⟩=>?_) (F.args_zip_next_1 _))))
 calc J' (wpAny_isInstance (T:="StopIteration") (b:=true) ⟨o,r,t⟩ isSubtype_stop (R' (q _ _ c)))
end
def Ji(b:Bool)(a:Addr):Obj:=if b=true then {cls:=.type "list_iterator",data:=.fields #[.ref a,.int 0 0]} else {cls:=.type "tuple_iterator",data:=.fields #[.ref a,.int 0 0]}
abbrev Xw(h:Heap)(b:Bool)(l:Addr):Heap:=h.push (Ji b l)
abbrev Xx(h:Heap)(b c:Bool)(l m:Addr):Heap:=(Xw h b l).push (Ji c m)
abbrev Xy(h:Heap)(b c:Bool)(l m:Addr):Heap:=(Xx h b c l m).push {cls:=.type "tuple",data:=.seq #[.ref h.objs.size,.ref (Xw h b l).objs.size]}
abbrev Xz(h:Heap)(b c:Bool)(l m:Addr):Heap:=(Xy h b c l m).push {cls:=.type "tuple",data:=.seq #[.none,.none]}
abbrev O6(h:Heap)(b c:Bool)(l m:Addr):Heap:=(Xz h b c l m).push {cls:=.type "zip",data:=.fields #[.none,.bool false,.bool false,.ref (Xx h b c l m).objs.size,.ref (Xy h b c l m).objs.size]}
theorem CF(b c:Bool)(l m:Addr)(xs i:Array Value):
  Meets (Builtin.«zip.__new__» ⟨[.type "zip",.ref l,.ref m],[]⟩) (λ_ R s=>sV b s.heap l xs/\sV c s.heap m i/\R (.ok (.ret (.ref (Xz s.heap b c l m).objs.size))) {s with heap:=O6 s.heap b c l m}):=
 .of_wp λn w A R s h=>by
  obtain⟨a,g,d,e,f⟩:=s;obtain⟨j,k,h⟩:=h;have n:=sub_zip
  cases b<;>cases c
  ·have b:Heap.IsTuple (Shared.heap ⟨a,g,d,e,f⟩) l xs:=j;have L2:Heap.IsTuple (Shared.heap ⟨a.push {cls:=.type "tuple_iterator",data:=.fields #[.ref l,.int 0 0]},g,d,e,f⟩) m i:=Heap.IsTuple.push k _;wp_walk using aaF b,aaF L2;exact⟨_,rfl,h⟩
  ·have b:Heap.IsTuple (Shared.heap ⟨a,g,d,e,f⟩) l xs:=j;have L2:Heap.IsList (Shared.heap ⟨a.push {cls:=.type "tuple_iterator",data:=.fields #[.ref l,.int 0 0]},g,d,e,f⟩) m i:=Heap.IsList.push k _;wp_walk using aaF b,wpAny_pyIter_list L2;exact⟨_,rfl,h⟩
  ·have b:Heap.IsList (Shared.heap ⟨a,g,d,e,f⟩) l xs:=j;have L2:Heap.IsTuple (Shared.heap ⟨a.push {cls:=.type "list_iterator",data:=.fields #[.ref l,.int 0 0]},g,d,e,f⟩) m i:=Heap.IsTuple.push k _;wp_walk using wpAny_pyIter_list b,aaF L2;exact⟨_,rfl,h⟩
  ·have b:Heap.IsList (Shared.heap ⟨a,g,d,e,f⟩) l xs:=j;have L2:Heap.IsList (Shared.heap ⟨a.push {cls:=.type "list_iterator",data:=.fields #[.ref l,.int 0 0]},g,d,e,f⟩) m i:=Heap.IsList.push k _;wp_walk using wpAny_pyIter_list b,wpAny_pyIter_list L2;exact⟨_,rfl,h⟩
theorem rD(b:Bool)(a:Addr):(Ji b a).isFreed=false:=by cases b<;>rfl
theorem zt{b:Bool}{h:Heap}{j a:Addr}(e:h.get? j=some (Ji b a)):oO b h j a 0:=by
 cases b
 ·exact⟨_,e,rfl,rfl⟩
 ·calc⟨_,e,rfl,rfl⟩
theorem FU{prog:Program}{w:World}{A:Around}{E:Value->Shared->Prop}{s:Shared}{b c:Bool}{l m:Addr}{xs f:Array Value}{Q:Value->Shared->Prop}(h:sV b s.heap l xs)(i:sV c s.heap m f)
  (q:∀g,IsZip g (s.heap.objs.size + 4) (s.heap.objs.size + 2) (s.heap.objs.size + 3) .none->IsPair g (s.heap.objs.size + 2) (.ref s.heap.objs.size) (.ref (s.heap.objs.size + 1))->
   IsPair g (s.heap.objs.size+3) .none .none->oO b g s.heap.objs.size l 0->oO c g (s.heap.objs.size+1) m 0->g.objs.size=s.heap.objs.size+5->
   (∀d o,s.heap.get? d=some o->g.get? d=some o)->Q (.ref (s.heap.objs.size + 4)) {s with heap:=g}):
  wpAny (model prog w) A (call (.type "zip") [.ref l,.ref m]) Q E s:=by
 calc callType_new F.called_zip (by decide) (F.typeCall_zip_2 _ _) (F.newCall_zip_2 _ _) (λa=>F.args_object_init_3 a _ _) F.entry_zip_new (CF b c l m xs f) ⟨h,i,?_⟩;have e:(Xw s.heap b l).objs.size=s.heap.objs.size+1:=Heap.size_push ..;have a:(Xx s.heap b c l m).objs.size=s.heap.objs.size+2:=by rw[Heap.size_push,e]
 have f:(Xy s.heap b c l m).objs.size=s.heap.objs.size+3:=by rw[Heap.size_push,a]
 have g:(Xz s.heap b c l m).objs.size=s.heap.objs.size+4:=by rw[Heap.size_push,f]
 have n:(O6 s.heap b c l m).objs.size=s.heap.objs.size+5:=by rw[Heap.size_push,g]
 have h:(O6 s.heap b c l m).get? (Xz s.heap b c l m).objs.size=some _:=W' _ rfl;have i:(O6 s.heap b c l m).get? (Xy s.heap b c l m).objs.size=some _:=K' _ (W' _ rfl);have j:(O6 s.heap b c l m).get? (Xx s.heap b c l m).objs.size=some _:=K' _ (K' _ (W' _ rfl));have k:(O6 s.heap b c l m).get? (Xw s.heap b l).objs.size=some (Ji c m):=K' _ (K' _ (K' _ (W' _ (rD ..))));have p:(O6 s.heap b c l m).get? s.heap.objs.size=some (Ji b l):=K' _ (K' _ (K' _ (K' _ (W' _ (rD ..)))));show _/\_;rw[a,f,g]at h;rw[e,a]at j;rw[f]at i;rw[e]at k;rw[g];calc⟨⟨_,h,rfl⟩,q _ h j i (zt p) (zt k) n λd o x=>K' _ (K' _ (K' _ (K' _ (K' _ x))))⟩
theorem rE(l:Addr)(e:Array Value):
  Meets (Builtin.«enumerate.__new__» ⟨[.type "enumerate",.ref l],[]⟩) (λ_ R s=>s.heap.IsTuple l e/\
   R (.ok (.ret (.ref (s.heap.push (Ji false l)).objs.size))) {s with heap:=(s.heap.push (Ji false l)).push {cls:=.type "enumerate",data:=.fields #[.none,.bool false,.ref s.heap.objs.size,rawInt 0,.none,.none]}}):=
 .of_wp λf w A R s h=>by
  obtain⟨i,g,d,k,m⟩:=s;obtain⟨j,h⟩:=h;have p:=sub_enumerate;have b:Heap.IsTuple (Shared.heap ⟨i,g,d,k,m⟩) l e:=j;obtain⟨n,a,q,r,o⟩:=id j
  replace a:i.get? l=some n:=a
  wp_walk using AutoSeq1.wpAny_loadPart' a;calc wpAny_stack_any λt=>R' ?_;split
  ·rename_i c _ _ _ _ _
   cases(c==Value.type "enumerate")
   ·wp_walk using AutoSeq1.wpAny_loadPart' a,aaF b;exact⟨_,rfl,h⟩
   ·wp_walk using AutoSeq1.wpAny_loadPart' a,aaF b;exact⟨_,rfl,h⟩
  ·wp_walk using AutoSeq1.wpAny_loadPart' a,aaF b;calc⟨_,rfl,h⟩
end PySem
namespace L2
open PySem PySem.Spec PyProof.Rows
section
variable {a:Addr}{xs:List V}
section
variable {X:Cx}{pins:List (Addr×Obj)}{σ:St}{H:Hp}{s:Shared}
theorem Inv.Bf{t':Nat}{ch:List Addr}{h':Heap}(I:Inv X pins σ H s)(d:∀b∈ch,oB X pins H b)(k:∀b o,b∉ch->s.heap.get? b=some o->h'.get? b=some o):Inv X pins σ H {s with heap:=h',toks:=t'}:=by
 have f:∀b u,H b=some u->b∉ch:=λb u e z=>by rw[(d b z).1]at e;cases e
 refine I.step (g':=s.gens) (d':=s.drawn) (ch:=ch) (λb g=>?_) (λb o _ _ a e _=>k b o a e) (λb o _ _ a e _=>⟨o.slots,k b o a e⟩) (λ_ _ _ _ n=>n) (λb o a e=>⟨o,k b o a e⟩) (λ_ _ e=>e) (λ_ _ _ e=>e) (λb h e=>⟨#[],by rw[e];simp⟩) (λm h=>?_) (λb u e=>?_) I.bare
 ·obtain⟨n,i,p,j,l,m⟩:=d b g;exact⟨j,i,l,m⟩
 ·obtain⟨o,g,i,j,r⟩:=h;exact⟨o,g,i,k _ o (λz=>(d _ z).2.1 rfl) j,r⟩
 ·calc(I.aW b u e).aK (λc v a q=>k c v ?_ q) (λ_ q=>q) λ_ _ q=>q;rcases a with z | z
  ·rw[z];exact f b u e
  ·calc f c _ z
theorem Inv.Bg{t':Nat}{ch:List Addr}{h':Heap}{T:Addr}{g:List Value}(I:Inv X pins σ H s)(h:∀b∈ch,oB X pins H b)(k:∀b o,b∉ch->s.heap.get? b=some o->h'.get? b=some o)
  (i:s.heap.objs.size<=T) (l:Vals xs g) (p:xs.length<=sizeLine) (q:IsTup h' T g.toArray):Inv X pins σ (upd H T (.tup xs)) {s with heap:=h',toks:=t'}:=by
 have j:∀b u,H b=some u->b∉ch:=λb u e z=>by rw[(h b z).1]at e;cases e
 have d:H T=none:=I.aW.fresh i;have m:∀b o,s.heap.get? b=some o->b≠T:=λb o e=>X' (S' (T' e) i);refine I.step (g':=s.gens) (d':=s.drawn) (ch:=ch) (λb f=>?_) (λb o _ _ a e _=>k b o a e) (λb o _ _ a e _=>⟨o.slots,k b o a e⟩) (λb o _ e n=>by rw[ay (m b o e)];calc n) (λb o a e=>⟨o,k b o a e⟩)
  (λb t e=>by rw[ay (au e d)];calc e) (λb o u e=>by rw[ay (au e d)];calc e) (λb i e=>⟨#[],by rw[ay (au e d),e];simp⟩) (λm i=>?_) (λb u e=>?_) I.bare
 ·obtain⟨w,m,x,n,r,v⟩:=h b f;exact⟨n,m,r,v⟩
 ·obtain⟨o,m,n,v,r⟩:=i;exact⟨o,m,n,k _ o (λz=>(h _ z).2.1 rfl) v,r⟩
 ·by_cases f:b=T
  ·subst f;rw[af] at e
   cases e;exact⟨p,g,l,q⟩
  ·rw[ay f] at e;refine(I.aW b u e).aK (λc v a q=>k c v ?_ q) (λc q=>by rw[ay (au q d)];calc q) λc t q=>by rw[ay (au q d)];exact q
   rcases a with z|z
   ·rw[z];exact j b u e
   ·calc j c _ z
def Sq(b:Bool)(K:W.Frag)(H:Hp)(a:Addr)(xs:List V):Prop:=if b=true then aR K H a xs else bM K H a xs
theorem Sq.l{K:W.Frag}(h:H a=some (.lst xs)):Sq true K H a xs:=aR.of h
theorem Sq.t{K:W.Frag}(h:H a=some (.tup xs)):Sq false K H a xs:=bM.of h
theorem Inv.sq(I:Inv X pins σ H s){b:Bool}{a:Addr}{xs:List V}(h:Sq b X.K H a xs):∃c:List Value,Vals xs c/\sV b s.heap a c.toArray/\xs.length<=sizeLine:=by
 cases b
 ·exact I.tuple h
 ·obtain⟨c,r,p,z⟩:=I.list h;calc⟨c,r,p.isList,z⟩
theorem Inv.zu(I:Inv X pins σ H s){b:Bool}{a:Addr}{xs c:List V}(h:Sq b X.K H a xs)(h':Sq b X.K H a c):xs=c:=by
 cases b
 ·exact I.tR h h'
 ·calc I.wA h h'
theorem Mj{u:HO}{b:Addr}(h:Rd H a u)(c:H b=none):a≠b:=λz=>by
 subst z;rcases h with h|⟨o,h⟩<;>(rw[c]at h;cases h)
theorem Inv.rF(I:Inv X pins σ H s){b:Bool}{a c:Addr}{xs:List V}(h:Sq b X.K H a xs)(f:oB X pins H c):a≠c:=by
 have d:∀o,X.K.lookup a=some o->a≠c:=λo e z=>by
  subst z;have i:=I.ok.mod.wx a o e;rcases f.2.2.2.1 with y|y
  ·exact I.ok.uV a o i y
  ·exact absurd (S' (S' (T' i) I.ok.yL) y) (aaG _)
 cases b
 ·rcases h with h | ⟨o,j,n,g,_⟩
  ·exact Mj h f.1
  ·exact d o g
 ·rcases h with h | ⟨o,j,n,g,_⟩
  ·exact Mj h f.1
  ·calc d o g
end
end
section
def Ml(b:Bool)(K:W.Frag)(a:Addr):It:=
 ⟨λi H=>∃xs x,Sq b K H a xs/\xs[i]?=some x,λi H y c=>∃T,H T=none/\y=.ref T/\∀xs,Sq b K H a xs->∃x,xs[i]?=some x/\c=upd H T (.tup [.int i,x]),λi H=>∃xs,Sq b K H a xs/\xs.length=i⟩
def XA(b c:Bool)(K:W.Frag)(a d:Addr):It:=
  ⟨λi H=>∃xs e x y,Sq b K H a xs/\Sq c K H d e/\xs[i]?=some x/\e[i]?=some y,λi H v f=>∃T,H T=none/\v=.ref T/\∀xs e,Sq b K H a xs->Sq c K H d e->∃x y,xs[i]?=some x/\e[i]?=some y/\f=upd H T (.tup [x,y]),
   λi H=>∃xs e,Sq b K H a xs/\Sq c K H d e/\(i=xs.length\/(i < xs.length/\i=e.length))⟩
theorem wY{a b:V}:([a,b]:List V).length<=sizeLine:=by show 2<=sizeLine;decide
theorem vC{a:List Value}{i:Nat}{u:Value}(h:a[i]?=some u):i<a.toArray.size:=by
 have:=(List.getElem?_eq_some_iff.mp h).1;simpa using this
theorem CG{P:Program}{w:World}{K:W.Frag}{k:List Expr}{u:Nat}{v:Pos}(b:Bool)(e j a:Addr)(G:e≠j):
  Turn P w K (.Tuple k u v) (Ml b K a) [e,j] e (λi h=>(∃d,IsEnum h e j i d)/\oO b h j a i) where
 mem:=by simp
 obj:=λi h l c t=>by
  obtain⟨⟨d,g⟩,m⟩:=l;simp only[List.mem_cons,List.not_mem_nil,or_false]at t;rcases t with rfl|rfl
  ·exact⟨_,g,λv z=>by
    have z':Data.fields _=Data.cell v:=z
    cases z'⟩
  ·exact m.obj
 keep:=λi h h' l k=>by
  obtain⟨⟨d,g⟩,m⟩:=l;exact⟨⟨d,k e (by simp) _ g⟩,m.at λo q=>k j (by simp) o q⟩
 item:=by
  intro X J L M t i B s σ H E I n l N;subst J L M;obtain⟨⟨d,g⟩,m⟩:=l;obtain⟨xs,x,r,O⟩:=N;obtain⟨C,R,p,hz⟩:=I.sq r;obtain⟨u,k,ru⟩:=R.get O;have v:a≠e:=I.rF r (n e (by simp));have S:a≠j:=I.rF r (n j (by simp));have D:=Draws.sq (prog:=X.prog) (w:=X.w) (A:=X.A.in1) (show X.A.in1.handled=none from I.ok.hd t) b j a S C.toArray;calc wpAny_pyNext_enum_itemD D g ⟨m,p⟩ (vC k) G (by simp[G,Ne.symm v]) λy P Y K ho s1 hT sz T=>?_;have ey:y=u:=by
   have:C.toArray[i]?=some u:=by simpa using k
   exact Option.some.inj (K.symm.trans this)
  subst ey;calc⟨_,rfl,wpAny_letOwnedTupleGo_enum ho λv k u=>?_⟩;have K:∀c o,c ∉ [e,j]->s.heap.get? c=some o->v.get? c=some o:=λc o F q=>(u.2 c λz=>F (by simp[z])).trans (T c o (λz=>F (by simp[z])) (λz=>F (by simp[z])) q);have Z:s.heap.objs.size≠e:=Nat.ne_of_gt (T' g);have e:IsTup v s.heap.objs.size ([.int i Y,y]:List Value).toArray:=⟨_,(u.2 _ Z).trans hT,rfl,_,rfl⟩
  have v:H s.heap.objs.size=none:=I.aW.fresh (L' _);refine⟨.ref s.heap.objs.size,upd H s.heap.objs.size (.tup [.int i,x]),I.Bg n K (L' _) (.cons ⟨Y,rfl⟩ (.cons ru .nil)) wY e,rfl,⟨_,v,rfl,λys P=>⟨x,by rw[I.zu P r];calc O,rfl⟩⟩,⟨⟨y,?_⟩,?_⟩,λc U=>?_⟩
  ·simpa using k
  ·exact s1.1.at λo q=>(u.2 j (Ne.symm G)).trans q
  ·have qg:c≠s.heap.objs.size:=by
    simp only[List.mem_cons,List.not_mem_nil,or_false]at U;rcases U with rfl|rfl
    ·exact Ne.symm Z
    ·obtain⟨o,e,_⟩:=m.obj;exact X' (T' e)
   rw[ay qg];exact(n c U).1
 done:=by
  intro X J L M t i B s σ H E I n l N;subst J L M;obtain⟨⟨d,g⟩,m⟩:=l;obtain⟨xs,r,O⟩:=N;obtain⟨C,R,p,hz⟩:=I.sq r;have S:a≠j:=I.rF r (n j (by simp));have D:=Draws.sq (prog:=X.prog) (w:=X.w) (A:=X.A.in1) (show X.A.in1.handled=none from I.ok.hd t) b j a S C.toArray;have e:C.toArray.size=i:=by have:=R.length;simp;lia
  refine wpAny_pyNext_enum_endD D g (by rw[e];calc⟨m,p⟩) λh' T=>⟨rfl,I.Bf (t':=s.toks) n λc o F q=>T c o (λz=>F (by simp[z])) q⟩
 self:=λ_ _ _ _ _ l h=>by
  obtain⟨⟨d,g⟩,m⟩:=l;calc wpAny_pyIter_enum g h
theorem CH{prog:Program}{w:World}{A:Around}{E:Value->Shared->Prop}{s:Shared}{b:Bool}{l:Addr}{d:Array Value}{Q:Value->Shared->Prop}(e:sV b s.heap l d)
  (q:∀g,IsEnum g (s.heap.objs.size+1) s.heap.objs.size 0 .none->oO b g s.heap.objs.size l 0->g.objs.size=s.heap.objs.size+2->(∀c o,s.heap.get? c=some o->g.get? c=some o)->Q (.ref (s.heap.objs.size+1)) {s with heap:=g}):
  wpAny (model prog w) A (call (.type "enumerate") [.ref l]) Q E s:=by
 cases b
 ·refine callType_new F.called_enumerate (by decide) (F.typeCall_enumerate_1 _) (F.newCall_enumerate_1 _) (λa=>F.args_object_init_2 a _) F.entry_enumerate_new (rE l d) ⟨e,?_⟩;have b:(s.heap.push (Ji false l)).objs.size=s.heap.objs.size+1:=Heap.size_push ..;show _/\_;rw[b];have a:=W' (s.heap.push (Ji false l)) (o:={cls:=.type "enumerate",data:=.fields #[.none,.bool false,.ref s.heap.objs.size,rawInt 0,.none,.none]}) rfl;rw[b]at a;refine⟨⟨_,a,rfl⟩,q _ a (zt (K' _ (W' _ (rD ..)))) (by rw[Heap.size_push,b]) λc o x=>K' _ (K' _ x)⟩
 ·calc call_enumerate_list e q
theorem FV{P:Program}{w:World}{K:W.Frag}{es:List Expr}{kt:Nat}{tp:Pos}(b c:Bool)(z m n j l a d:Addr)(N:[z,m,n,j,l].Nodup):
  Turn P w K (.Tuple es kt tp) (XA b c K a d) [z,m,n,j,l] z (λi h=>IsZip h z m n .none/\IsPair h m (.ref j) (.ref l)/\(∃u v,IsPair h n u v)/\oO b h j a i/\oO c h l d i) where
 mem:=by simp
 obj:=λi h r e g=>by
  obtain⟨F,t,⟨u,v,G⟩,J,L⟩:=r;simp only[List.mem_cons,List.not_mem_nil,or_false]at g;rcases g with rfl|rfl|rfl|rfl|rfl
  ·exact⟨_,F,λv z=>by
    have k:Data.fields _=Data.cell v:=z
    cases k⟩
  ·exact⟨_,t,λv z=>by
    have k:Data.seq _ _=Data.cell v:=z
    cases k⟩
  ·exact⟨_,G,λv z=>by
    have k:Data.seq _ _=Data.cell v:=z
    cases k⟩
  ·exact J.obj
  ·exact L.obj
 keep:=λi h h' r k=>by
  obtain⟨F,t,⟨u,v,G⟩,J,L⟩:=r;exact⟨k z (by simp) _ F,k m (by simp) _ t,⟨u,v,k n (by simp) _ G⟩,J.at λo q=>k j (by simp) o q,L.at λo q=>k l (by simp) o q⟩
 item:=by
  intro X hP hw hK hc i U s σ H E I M r hg;subst hP hw hK;obtain⟨F,t,⟨u0,v0,G⟩,J,L⟩:=r;obtain⟨xs,ys,x,y,R,hr,hx,hy⟩:=hg;obtain⟨aO,rv,p,hz⟩:=I.sq R;obtain⟨TH,rt,pt,hzt⟩:=I.sq hr;obtain⟨u,k,ru⟩:=rv.get hx;obtain⟨v,K,rv'⟩:=rt.get hy;have B:∀e ∈ [z,m,n,j,l],e≠a:=λe g=>Ne.symm (I.rF R (M e g));have C:∀e ∈ [z,m,n,j,l],e≠d:=λe g=>Ne.symm (I.rF hr (M e g));simp only[List.nodup_cons,List.mem_cons,List.not_mem_nil,or_false,not_or,List.nodup_nil,not_false_eq_true,and_true]at N;obtain⟨⟨Y,n2,S,T⟩,⟨n5,n6,n7⟩,⟨n8,n9⟩,O⟩:=N;have hh:X.A.in1.handled=none:=I.ok.hd hc;have D1:=Draws.sq (prog:=X.prog) (w:=X.w) (A:=X.A.in1) hh b j a (Ne.symm (B j (by simp))) aO.toArray;have D2:=Draws.sq (prog:=X.prog) (w:=X.w) (A:=X.A.in1) hh c l d (Ne.symm (C l (by simp))) TH.toArray;have Z:ZA z m n j l [j,a] [l,d]:=⟨Ne.symm Y,Ne.symm n2,Ne.symm S,Ne.symm T,n5,n6,n7,n8,n9,O,by simp[S,B],by simp[n8,B],by simp[Ne.symm O,B],by simp[T,C],by simp[n9,C],by simp[O,C]⟩
  calc sW Z D1 D2 F t G ⟨J,p⟩ ⟨L,pt⟩ (vC k) (vC K) λx' y' h1 tk P py DS ZK s1 s2 hT sz kk=>?_;have ex:x'=u:=by
   have:aO.toArray[i]?=some u:=by simpa using k
   exact Option.some.inj (P.symm.trans this)
  have ey:y'=v:=by
   have:TH.toArray[i]?=some v:=by simpa using K
   exact Option.some.inj (py.symm.trans this)
  subst ex ey;calc⟨_,rfl,wpAny_letOwnedTupleGo_zip DS λu v k=>?_⟩;have K:∀e o,e ∉ [z,m,n,j,l]->s.heap.get? e=some o->u.get? e=some o:=λe o g q=>
   (k.2 e λw=>g (by simp[w])).trans (kk e o (λw=>g (by simp[w])) (λw=>g (by simp[w])) (λw=>g (by simp[w])) (λw=>g (by simp[w])) q)
  have hTz:s.heap.objs.size≠z:=Nat.ne_of_gt (T' F);have P:IsTup u s.heap.objs.size ([x',y']:List Value).toArray:=⟨_,(k.2 _ hTz).trans hT,rfl,_,rfl⟩
  have u:H s.heap.objs.size=none:=I.aW.fresh (L' _);refine⟨.ref s.heap.objs.size,upd H s.heap.objs.size (.tup [x,y]),I.Bg M K (L' _) (.cons ru (.cons rv' .nil)) wY P,rfl,
   ⟨_,u,rfl,λK yD P S9=>⟨x,y,by rw[I.zu P R];calc hx,by rw[I.zu S9 hr];calc hy,rfl⟩⟩,⟨v,?_,⟨_,_,(k.2 n (Ne.symm n2)).trans ZK⟩,s1.1.at λo q=>(k.2 j (Ne.symm S)).trans q,s2.1.at λo q=>(k.2 l (Ne.symm T)).trans q⟩,λe g=>?_⟩
  ·exact(k.2 m (Ne.symm Y)).trans (kk m _ (Ne.symm Y) n5 n6 n7 t)
  ·have qg:e≠s.heap.objs.size:=by
    simp only[List.mem_cons,List.not_mem_nil,or_false]at g;rcases g with rfl|rfl|rfl|rfl|rfl
    ·exact Ne.symm hTz
    ·exact X' (T' t)
    ·exact X' (T' G)
    ·obtain⟨o,k,_⟩:=J.obj;exact X' (T' k)
    ·obtain⟨o,k,_⟩:=L.obj;exact X' (T' k)
   rw[ay qg];exact(M e g).1
 done:=by
  intro X hP hw hK hc i U s σ H E I M r hg;subst hP hw hK;obtain⟨F,t,⟨u0,v0,G⟩,J,L⟩:=r;obtain⟨xs,ys,R,hr,hx⟩:=hg;obtain⟨aO,rv,p,hz⟩:=I.sq R;obtain⟨TH,rt,pt,hzt⟩:=I.sq hr;have B:∀e ∈ [z,m,n,j,l],e≠a:=λe g=>Ne.symm (I.rF R (M e g));have C:∀e ∈ [z,m,n,j,l],e≠d:=λe g=>Ne.symm (I.rF hr (M e g));simp only[List.nodup_cons,List.mem_cons,List.not_mem_nil,or_false,not_or,List.nodup_nil,not_false_eq_true,and_true]at N;obtain⟨⟨Y,n2,S,T⟩,⟨n5,n6,n7⟩,⟨n8,n9⟩,O⟩:=N;have hh:X.A.in1.handled=none:=I.ok.hd hc;have D1:=Draws.sq (prog:=X.prog) (w:=X.w) (A:=X.A.in1) hh b j a (Ne.symm (B j (by simp))) aO.toArray;have D2:=Draws.sq (prog:=X.prog) (w:=X.w) (A:=X.A.in1) hh c l d (Ne.symm (C l (by simp))) TH.toArray;have Z:ZA z m n j l [j,a] [l,d]:=⟨Ne.symm Y,Ne.symm n2,Ne.symm S,Ne.symm T,n5,n6,n7,n8,n9,O,by simp[S,B],by simp[n8,B],by simp[Ne.symm O,B],by simp[T,C],by simp[n9,C],by simp[O,C]⟩
  have a:=rv.length;have a:=rt.length;exact vB Z D1 D2 F t G ⟨J,p⟩ ⟨L,pt⟩ (by simp only[List.size_toArray];lia) λh' tk kk=>⟨rfl,I.Bf M λe o g q=>kk e o (λw=>g (by simp[w])) (λw=>g (by simp[w])) (λw=>g (by simp[w])) (λw=>g (by simp[w])) q⟩
 self:=λ_ _ _ _ _ r h=>wpAny_pyIter_zip r.1 h
section
variable {X:Cx}
def FW(K:W.Frag)(a:TA):TI:=λσ H R=>a σ H λvs c=>match vs with
 | [.ref a]=>∃b xs,Sq b K c a xs/\R (Ml b K a) c
 |_=>False
def O9(K:W.Frag)(a:TA):TI:=λσ H R=>a σ H λvs e=>match vs with
 | [.ref a,.ref d]=>∃b c xs f,Sq b K e a xs/\Sq c K e d f/\R (XA b c K a d) e
 |_=>False
theorem ly{l:List Expr}{m:Nat}{n:Pos}{a:Expr}{h:TA}{p d:Pos}(o:Gl X "enumerate")(t:X.mg "enumerate"=none)(u:PA X [a] h)(v:starEach [a] X.env=[(false,eval a X.env)]:=by rfl):
  PI X (.Tuple l m n) (.Call (.Name "enumerate" p) [a] [] d) (FW X.K h):=by
 calc⟨?_⟩;intro c s σ H R I h;calc Call_ (oA I o t boot_enumerate (PyProof.Rows.callWith_type1 (cJ (u d c s σ H _ I h) λm e l=>?_) (by rw[v];rfl) rfl));nofun;obtain⟨h,i,f,g,d⟩:=l;ac_rfl
 match h,g,d with
 | [.ref a],g,d=>
  obtain⟨b,h,w,q⟩:=d
  cases g with
  |cons r x=>
   cases x
   cases r;obtain⟨d,g,p,h⟩:=f.sq w;calc CH p λg d h m l=>wpAny_pyIter_enum d ?_;have m:Inv X c σ i {e with heap:=g}:=f.kept (t':=e.toks) l;calc⟨_,[e.heap.objs.size+1,e.heap.objs.size],_,_,i,rfl,m,CG b _ _ a (Nat.succ_ne_self _),⟨⟨_,d⟩,h⟩,λc j=>?_,q⟩;have k:e.heap.objs.size<=c:=by
    simp only[List.mem_cons,List.not_mem_nil,or_false]at j;rcases j with rfl|rfl
    ·exact Nat.le_succ _
    ·exact L' _
   calc f.EF k (f.aW.fresh k)
theorem FX{s:List Expr}{t:Nat}{u:Pos}{a b:Expr}{h:TA}{p g:Pos}(v:Gl X "zip")(w:X.mg "zip"=none)(x:PA X [a,b] h)(y:starEach [a,b] X.env=[(false,eval a X.env),(false,eval b X.env)]:=by rfl)(l:starEach [b] X.env=[(false,eval b X.env)]:=by rfl):
  PI X (.Tuple s t u) (.Call (.Name "zip" p) [a,b] [] g) (O9 X.K h):=by
 calc⟨?_⟩;intro e s σ H R I h;calc Call_ (oA I v w boot_zip (PyProof.Rows.callWith_type1 (cJ (x g e s σ H _ I h) λt f p=>?_) (by rw[y,l]) (by rw[l];rfl)));nofun;obtain⟨h,m,i,j,g⟩:=p;ac_rfl
 match h,j,g with
 | [.ref a,.ref d],j,g=>
  obtain⟨b,c,h,l,z,A,q⟩:=g
  cases j with
  |cons r k=>
   cases k with
   |cons B k=>
    cases k
    cases r
    cases B;obtain⟨g,h,j,k⟩:=i.sq z;obtain⟨h,l,k,g⟩:=i.sq A;calc FU j k λg h l p r s u t=>wpAny_pyIter_zip h ?_;have j:Inv X e σ m {f with heap:=g}:=i.kept (t':=f.toks) t;refine⟨_,[f.heap.objs.size+4,f.heap.objs.size+2,f.heap.objs.size+3,f.heap.objs.size,f.heap.objs.size+1],_,_,m,rfl,j,FV b c _ _ _ _ _ a d ?_,⟨h,l,⟨_,_,p⟩,r,s⟩,λe n=>?_,q⟩
    ·simp
    ·have o:f.heap.objs.size<=e:=by
      simp only[List.mem_cons,List.not_mem_nil,or_false]at n;rcases n with rfl|rfl|rfl|rfl|rfl
      ·exact aa1 _ _
      ·exact aa1 _ _
      ·exact aa1 _ _
      ·exact L' _
      ·exact aa1 _ _
     calc i.EF o (i.aW.fresh o)
end
end
end L2
namespace HT
open PySem PyProof.Rows
section
variable {prog:Program}{w:World}{A:Around}{E:Value->Shared->Prop}{s:Shared}
theorem nC{t e:Addr}{a:Array Value}{f g:Value}{b d:Option Int}{Q:Value->Shared->Prop}(c:IsTup s.heap t a)(i:s.heap.IsSliceOf e f g .none)(pl:IsPart f b)(j:IsPart g d)
  (f:eE a.size 0 b=0/\eE a.size a.size d=a.size) (h:Q (.ref t) s):wpAny (model prog w) A (getItem (.ref t) (.ref e)) Q E s:=by
 obtain⟨g,k,l,n⟩:=id i;have n:s.TypeIs (.ref e) "slice":=⟨g,k,l⟩
 unfold getItem
 try with_reducible refine aaD ?_
 first|calc J' (R' ?_)|skip
 refine J' (wpAny_sequenceKey c.typeIs (by decide) (J' (aaH (name:=Str.ofString "__getitem__") c.typeIs aaX
  (wpAny_call_entry aaX c.typeIs entry_tuple_getitem ?_ (args_tuple_getitem _ _)))))
 calc J' (m:=Builtin.Tuple.tupleItemsOf (.ref t)) (tupleItemsOf_ c (J' (wpAny_typeOf n ?_)));rw[if_pos (by decide)];calc J' (jy i pl j ?_);have e:(((eE a.size 0 b:Nat):Int)==0&&(1:Int)==1&&(eE a.size a.size d-eE a.size 0 b)==a.size)=true:=by
  rw[f.1,f.2];simp
 show wpAny _ _ (if (((eE a.size 0 b:Nat):Int)==0&&(1:Int)==1&&(eE a.size a.size d-eE a.size 0 b)==a.size)=true then _ else _) _ _ s;rw[if_pos e];calc J' (m:=Builtin.Tuple.tupleIsExact (.ref t)) ?_;unfold Builtin.Tuple.tupleIsExact;calc J' (wpAny_typeOf c.typeIs (R' ?_));rw[if_pos (by decide)];calc J' (wpAny_rule (R' ⟨_,rfl,R' h⟩))
end
end HT
namespace L2
open PySem PySem.Spec PyProof.Rows
section
variable {p:Addr}{H:Hp}{Q:VK}{K:W.Frag}
section
variable {X:Cx}
def ZM:V->Option Int->Option Int->Hp->VK->Prop:=λx c d H Q=>match x with
 | .ref a=>(∃xs,H a=some (.lst xs)/\∀p,H p=none->Q (.ref p) (upd H p (.lst (eJ xs c d))))\/(∃xs,H a=some (.tup xs)/\∀p b,av H b->b p=some (.tup (eJ xs c d))->Q (.ref p) b)
 |_=>False
theorem Mm{a:Addr}{b c:Option Int}:ZM (.ref a) b c H Q=((∃xs,H a=some (.lst xs)/\∀p,H p=none->Q (.ref p) (upd H p (.lst (eJ xs b c))))\/(∃xs,H a=some (.tup xs)/\∀p d,av H d->d p=some (.tup (eJ xs b c))->Q (.ref p) d)):=rfl
theorem ZN:SR X ZM:=by
 intro c s σ H x v t u i j w Q I l m n o h
 cases x<;>first
  |calc(show False from h).elim
  |skip
 rename_i a;rcases h with⟨b,d,q⟩|⟨b,d,q⟩
 ·exact AW c s σ H _ v t u i j w Q I l m n o ⟨a,b,rfl,aR.of d,q⟩
 ·by_cases k:HT.eE b.length 0 i=0/\HT.eE b.length b.length j=b.length
  ·cases l;obtain⟨z,r,y,C⟩:=I.tuple (bM.of d);have g:z.toArray.size=b.length:=by rw[List.size_toArray];exact r.length.symm
   refine⟨"tuple",_,PyProof.Rows.slot_tuple_getitem.lookup,y.typeIs,HT.nC y m n o (by rw[g];exact k) ⟨.ref a,H,I,rfl,q a H (av.refl H) ?_⟩⟩;have e:eJ b i j=b:=by
    unfold eJ;rw[k.1,k.2];simp
   rw[e];exact d
  ·calc Oz c s σ H _ v t u i j w Q I l m n o ⟨a,b,rfl,bM.of d,k,λp B=>q p _ (av.new _ B) af⟩
theorem vD{e:Expr}{b:TE}{c d:Option Expr}{f g:TO}{a h:Pos}(i:PE X e b)(j:PO X c f)(k:PO X d g):PE X (.Subscript e (.Slice c d none h) a) (SS ZM b f g):=wG ZN i j k
def XC:R2:=λx y H Q=>match x,y with
 | .int i,.int j=>Q (.int (i+j)) H
 | .str i,.str j=>i.length+j.length<=sizeLine/\Q (.str (i++j)) H
 | .ref a,.ref b=>(∃xs c,H a=some (.lst xs)/\H b=some (.lst c)/\xs.length + c.length<=sizeLine/\∀p,H p=none->Q (.ref p) (upd H p (.lst (xs++c))))\/
   (∃xs c,H a=some (.tup xs)/\H b=some (.tup c)/\xs.length+c.length<=sizeLine/\∀p d,av H d->d p=some (.tup (xs++c))->Q (.ref p) d)
 |_,_=>False
theorem FY{i j:Int}:XC (.int i) (.int j) H Q=Q (.int (i+j)) H:=rfl
theorem FZ{i j:Str}:XC (.str i) (.str j) H Q=(i.length+j.length<=sizeLine/\Q (.str (i++j)) H):=rfl
theorem F3 {a b:Addr}:XC (.ref a) (.ref b) H Q=((∃xs c,H a=some (.lst xs)/\H b=some (.lst c)/\xs.length + c.length<=sizeLine/\∀p,H p=none->Q (.ref p) (upd H p (.lst (xs++c))))\/
      (∃xs c,H a=some (.tup xs)/\H b=some (.tup c)/\xs.length + c.length<=sizeLine/\∀p d,av H d->d p=some (.tup (xs++c))->Q (.ref p) d)):=rfl
theorem cR:gJ X (binaryOp .Add) XC:=by
 intro c s σ H x y v u Q I d e h
 cases x<;>cases y<;>first
  |calc(show False from h).elim
  |calc Oh c s σ H _ _ v u Q I d e ⟨_,_,rfl,rfl,h⟩
  |calc yT c s σ H _ _ v u Q I d e ⟨_,_,rfl,rfl,h.1,h.2⟩
  |skip
 rename_i a b;rcases h with⟨k,l,f,g,m,i⟩|⟨k,l,f,g,m,i⟩
 ·exact OI c s σ H _ _ v u Q I d e ⟨_,_,k,l,rfl,rfl,f,g,m,i⟩
 ·by_cases q:k=[]
  ·subst q
   cases d
   cases e;obtain⟨R,D,E,_⟩:=I.tuple (bM.of f);obtain⟨S,T,G,_⟩:=I.tuple (bM.of g)
   cases D;obtain⟨⟨J,K,r,L⟩,t,w,n,A⟩:=id E;obtain⟨⟨U,M,o,N⟩,B,C,O,j⟩:=id G;simp only at w A C j;subst w A C j;exact concat_meets ⟨_,t,rfl⟩ ⟨_,B,rfl⟩ noFill_tuple_add seq_tuple_add PySem.F.slot_tuple_add PySem.F.entry_tuple_add (PySem.F.args_tuple_add_2 _ _)
    (tuple_addW0 a b _ _ n O K M L N (by simp)) ⟨t,B,⟨.ref b,H,I,rfl,i b H (av.refl H) (by simpa using g)⟩⟩
  ·calc JV c s σ H _ _ v u Q I d e ⟨_,_,k,l,rfl,rfl,bM.of f,bM.of g,q,m,λz=>?_,λ_ p P=>i p _ (av.new _ P) af⟩;subst z;calc i a H (av.refl H) (by simpa using f)
def TJ(K:W.Frag):List V->Hp->VK->Prop:=λxs H Q=>match xs with
 | [.ref p]=>∃bs:List Bool,aR K H p (bs.map V.bl)/\Q (.bl (bs.all id)) H
 |_=>False
theorem F4:TJ K [.ref p] H Q=∃bs:List Bool,aR K H p (bs.map V.bl)/\Q (.bl (bs.all id)) H:=rfl
def ZO(K:W.Frag):List V->Hp->VK->Prop:=λxs H Q=>match xs with
 | [.ref p]=>∃bs:List Bool,aR K H p (bs.map V.bl)/\Q (.bl (bs.any id)) H
 |_=>False
theorem F5:ZO K [.ref p] H Q=∃bs:List Bool,aR K H p (bs.map V.bl)/\Q (.bl (bs.any id)) H:=rfl
theorem Bh:∀{bs:List Bool}{us:List Value},Vals (bs.map V.bl) us->us=bs.map Value.bool
 | [],_,.nil=>rfl
 |b::bs,_,.cons r t=>by
  cases r;rw[Bh t];rfl
theorem all_range:∀(bs:List Bool),((List.range bs.length).all λi=>bs.getD i false)=bs.all id:=by
 intro bs;induction bs with
 |nil=>rfl
 |cons b r a=>
  rw[List.length_cons,List.range_succ_eq_map,List.all_cons,List.all_map,List.all_cons];have:((λi=>(b::r).getD i false) ∘ Nat.succ)=λi=>r.getD i false:=by funext i;simp
  rw[this,a];rfl
theorem F6{prog:Program}{w:World}{A:Around}{bs:List Bool}:TruthOf prog w A (λi v=>(bs.map Value.bool).toArray[i]?=some v) (λi=>bs.getD i false):=by
 intro i v s Q E e c;have a:(bs.map Value.bool)[i]?=some v:=by simpa using e
 rw[List.getElem?_map]at a
 cases d:bs[i]? with
 |none=>rw[d]at a;cases a
 |some b=>
  rw[d]at a
  cases a;have:bs.getD i false=b:=by rw[List.getD_eq_getElem?_getD,d];rfl
  replace c:Q (bs.getD i false) s:=c
  rw[this]at c;calc aaI c
theorem jA(d:X.calm=true):eX X (.builtin "all") (TJ X.K):=by
 intro c s σ H f k Q I r h
 match f,r,h with
 | [.ref p],r,h=>
  obtain⟨a,g,q⟩:=h;obtain⟨u,rfl,i⟩:=Vals.one r
  cases i;obtain⟨c,j,b,f⟩:=I.list g;have e:=Bh j;subst e;refine call_all_walk (wpAny_pyIter_list b.isList ⟨s.heap.objs.size,_,_,_,_,_,λi=>a.getD i false,rfl,Walks.list (show X.A.in1.handled=none from I.ok.hd d) _ p ?_ (a.map Value.bool).toArray,⟨⟨_,W' _ rfl,rfl,rfl⟩,b.isList.push _⟩,F6,λf g c=>?_⟩)
  ·obtain⟨o,e,_⟩:=b.isList;exact X' (T' e)
  ·have:(a.map Value.bool).toArray.size=a.length:=by simp
   rw[this,all_range];calc⟨.bl _,H,I.kept λb o e=>c b o (by simp[Nat.ne_of_lt (Heap.lt_size e)]) (K' _ e),rfl,q⟩
def TK:List V->Hp->VK->Prop:=λxs H Q=>match xs with
 | [.ref p]=>(H p=some (.tup [])/\Q (.int 0) H)\/(∃i:Int,H p=some (.tup [.int i])/\-(2^63)<=i/\i<2^63/\Q (.int i) H)
 |_=>False
theorem Bi:TK [.ref p] H Q=((H p=some (.tup [])/\Q (.int 0) H)\/(∃i:Int,H p=some (.tup [.int i])/\-(2^63)<=i/\i<2^63/\Q (.int i) H)):=rfl
def wZ:List V->Option (List Value)
 | []=>some []
 | .ty n::r=>(wZ r).map (.type n::·)
 |_=>none
theorem xa:∀{xs:List V}{us a:List Value},Vals xs us->wZ xs=some a->us=a
  | [],_,_,.nil,h=>by cases h;rfl
  |x::xs,_,a,.cons r t,h=>by
    cases x<;>first
      |cases h
      | (rename_i n
         unfold wZ at h;obtain⟨b,c,d⟩:=Option.map_eq_some_iff.mp h
         cases r;rw[<-d,xa t c])
def Kg(K:W.Frag):List V->Hp->VK->Prop:=λxs H Q=>match xs with
 | [x,.ty n]=>∃t b,gb K H x t/\W.kitOne K t (.type n)=some b/\Q (.bl b) H
 | [x,.ref p]=>∃t b a c,gb K H x t/\H p=some (.tup a)/\wZ a=some c/\W.kitAny K t c=some b/\Q (.bl b) H
 |_=>False
theorem F7{x:V}{n:String}:Kg K [x,.ty n] H Q=∃t b,gb K H x t/\W.kitOne K t (.type n)=some b/\Q (.bl b) H:=rfl
theorem F8{x:V}:Kg K [x,.ref p] H Q=∃t b a c,gb K H x t/\H p=some (.tup a)/\wZ a=some c/\W.kitAny K t c=some b/\Q (.bl b) H:=rfl
theorem zw{x:V}{u t:Value}{pins:List (Addr×Obj)}{σ:St}{H:Hp}{s:Shared}{A:Around}{E:Value->Shared->Prop}{Q:Value->Shared->Prop}{b:Bool}{m:Addr}{r:List Value}(I:Inv X pins σ H s)(c:RelV x u)(C:gb X.K H x t)
  (D:IsTup s.heap m r.toArray) (e:W.kitAny X.K t r=some b) (h:∀x,Q (.bool b) {s with toks:=x}):wpAny (model X.prog X.w) A (call (.builtin "isinstance") [u,.ref m]) Q E s:=by
 obtain⟨⟨m,r,b,x⟩,d,v,n,hd⟩:=id D;simp only at v hd;subst v hd
 cases C with
 |bD=>cases(show u=Value.none from c);calc W.kia_tup W.kitx_none I.gG aaw d e (λz=>nomatch z) h
 |bl y=>cases(show u=Value.bool y from c);calc W.kia_tup W.kitx_bool I.gG aaw d e (λz=>nomatch z) h
 |int i=>obtain⟨t,q⟩:=(show ∃t,u=Value.int i t from c);cases q;calc W.kia_tup W.kitx_int I.gG aaw d e (λz=>nomatch z) h
 |str y=>obtain⟨t,q⟩:=(show ∃t,u=Value.str y t from c);cases q;calc W.kia_tup W.kitx_str I.gG aaw d e (λz=>nomatch z) h
 |LP y=>obtain⟨t,q⟩:=(show ∃t,u=Value.float y t from c);cases q;calc W.kia_tup W.kitx_float I.gG aaw d e (λz=>nomatch z) h
 | @lst a j f=>
  cases(show u=Value.ref a from c);obtain⟨_,_,n,_,g⟩:=(show cC X.prog X.w H s.heap a (.lst j) from I.aW a _ f)
  calc W.kia_tup W.kitx_list I.gG ⟨_,g,rfl⟩ d e (λz=>nomatch z) h
 | @yy a F j f=>
  cases(show u=Value.ref a from c);obtain⟨_,_,_,n,_,g⟩:=(show cC X.prog X.w H s.heap a (.yy F (.lst j)) from I.aW a _ f)
  calc W.kia_tup W.kitx_list I.gG ⟨_,g,rfl⟩ d e (λz=>nomatch z) h
 | @tup a j f=>
  cases(show u=Value.ref a from c);obtain⟨_,_,_,p⟩:=(show cC X.prog X.w H s.heap a (.tup j) from I.aW a _ f)
  obtain⟨o,g,k,_⟩:=p;calc W.kia_tup W.kitx_tuple I.gG ⟨o,g,k⟩ d e (λz=>nomatch z) h
 | @dK a l f=>
  cases(show u=Value.ref a from c);obtain⟨_,_,b,_,p⟩:=(show cC X.prog X.w H s.heap a (.dK l) from I.aW a _ f)
  obtain⟨o,G,J,g,k,_⟩:=p;calc W.kia_tup W.kitx_dict I.gG ⟨o,g,k.1⟩ d e (λz=>nomatch z) h
 | @dT a l f=>
  cases(show u=Value.ref a from c);obtain⟨_,_,j,_,o,G,J,g,k,_⟩:=(show cC X.prog X.w H s.heap a (.dT l) from I.aW a _ f)
  calc W.kia_tup W.kitx_dict I.gG ⟨o,g,k.1⟩ d e (λz=>nomatch z) h
 | @ins a C b g f B L M N P=>
  cases(show u=Value.ref a from c);obtain⟨b,O,_⟩:=nr I.aW f;obtain⟨a,J,_⟩:=O.look;calc W.kia_tup (W.kitx_own (B.get _) B.hd L M N P) I.gG J d e (λz=>nomatch z) h
theorem dC:eX X (.builtin "isinstance") (Kg X.K):=by
 intro f s σ H g n Q I r h
 match g,r,h with
 | [x,.ty n],r,h=>
  obtain⟨t,b,ty,e,q⟩:=h;obtain⟨u,i,rfl,a,c⟩:=vals2 r
  cases c;calc tW I a ty e λj=>⟨.bl b,H,I.tok _,rfl,q⟩
 | [x,.ref p],r,h=>
  obtain⟨t,b,f,g,ty,k,d,e,q⟩:=h;obtain⟨u,i,rfl,a,c⟩:=vals2 r
  cases c;obtain⟨f,l,m,g⟩:=I.tuple (bM.of k);have o:=xa l d;subst o;calc zw I a ty m e λj=>⟨.bl b,H,I.tok _,rfl,q⟩
end
end
section
variable {a:Addr}{H:Hp}{D:List (Str×V)}{Q:VK}
section
variable {X:Cx}
def TL:V->List V->Hp->VK->Prop:=λx vs H Q=>match x,vs with
 | .ref l,[y]=>∃xs,H l=some (.lst xs)/\xs.length<sizeLine/\Q .bD (upd H l (.lst (xs++[y])))
 |_,_=>False
theorem F9{l:Addr}{y:V}:TL (.ref l) [y] H Q=∃xs,H l=some (.lst xs)/\xs.length<sizeLine/\Q .bD (upd H l (.lst (xs++[y]))):=rfl
theorem ck:SW X "list.append" TL:=by
 intro a s σ H x c v d Q I e b h
 match x,c,b,h with
 | .ref l,[y],b,⟨c,f,g,h⟩=>calc ud a s σ H _ _ v d Q I e b ⟨l,c,y,rfl,rfl,f,g,h⟩
def TM:V->List V->Hp->VK->Prop:=λx vs H Q=>match x,vs with
 | .ref l,[.ref b]=>∃xs a,H l=some (.lst xs)/\H b=some (.lst a)/\xs.length+a.length<=sizeLine/\Q .bD (upd H l (.lst (xs++a)))
 |_,_=>False
theorem Gd{l b:Addr}:TM (.ref l) [.ref b] H Q=∃xs a,H l=some (.lst xs)/\H b=some (.lst a)/\xs.length+a.length<=sizeLine/\Q .bD (upd H l (.lst (xs++a))):=rfl
theorem Kh:SW X "list.extend" TM:=by
 intro a s σ H x b v d Q I e c h
 match x,b,c,h with
 | .ref l,[.ref b],c,⟨f,g,h,i,j,k⟩=>calc Cp a s σ H _ _ v d Q I e c ⟨l,b,f,g,rfl,rfl,h,i,j,k⟩
def ZP:V->List V->Hp->VK->Prop:=λx vs H Q=>match x,vs with
 | .ref l,[]=>∃xs,H l=some (.lst xs)/\Q .bD (upd H l (.lst []))
 |_,_=>False
theorem Ge{l:Addr}:ZP (.ref l) [] H Q=∃xs,H l=some (.lst xs)/\Q .bD (upd H l (.lst [])):=rfl
def ZQ:V->List V->Hp->VK->Prop:=λx vs H Q=>match x,vs with
 | .ref l,[.int 0,y]=>∃xs,H l=some (.lst xs)/\xs.length<sizeLine/\Q .bD (upd H l (.lst (y::xs)))
 |_,_=>False
theorem Gf{l:Addr}{y:V}:ZQ (.ref l) [.int 0,y] H Q=∃xs,H l=some (.lst xs)/\xs.length<sizeLine/\Q .bD (upd H l (.lst (y::xs))):=rfl
def TN:V->List V->Hp->VK->Prop:=λx vs H Q=>match x,vs with
 | .ref l,[.int 0]=>∃y xs,H l=some (.lst (y::xs))/\Q y (upd H l (.lst xs))
 |_,_=>False
theorem Bj{l:Addr}:TN (.ref l) [.int 0] H Q=∃y xs,H l=some (.lst (y::xs))/\Q y (upd H l (.lst xs)):=rfl
def Gg(a b:TE):TS:=λD σ H=>a σ H λx c=>b σ c λy a=>∃l i xs k,x=.ref l/\y=.int i/\a l=some (.lst xs)/\-(2^63)<=i/\i<2^63/\seqIndex? i xs.length=some k/\D.nx σ (upd a l (.lst (xs.eraseIdx k)))
theorem Ki{o i:Expr}{b c:TE}{d a:Pos}(e:PE X o b)(f:PE X i c):PS X (.Delete [.Subscript o i d] a) (Gg b c):=by
 walk_at "xd";refine wpAny_Delete (wpAny_deleteEach_cons (wpAny_delete_Subscript (cJ (e pins s σ H _ I h) λu a ⟨x,b,c,g,d⟩=>cJ (f pins a σ b _ c d) λe k j=>?_)));nofun;obtain⟨y,a,m,n,l,i,b,k,p,q,r,v,w,z,A⟩:=j;ac_rfl;subst p q;obtain rfl:u=Value.ref l:=g;obtain⟨t,rfl⟩:=n;exact E8 m r v w z λb a=>wpAny_deleteEach_nil ⟨σ,_,a,A⟩
structure CD(K:W.Frag)(a:Addr)(D:List (Str×V)):Prop where
 ex:∃o es ep,K.lookup a=some o/\o.ExactDict/\o.data=.dict es ep/\KTD.Rows RelV es.toList D
 ne:(a==sysModules)=false
theorem Pa{prog:Program}{w:World}{A:Around}{E:Value->Shared->Prop}{s:Shared}{o:Obj}{b:Array DictEntry}{f:Nat}{k:Str}{h:Tok}{Q:Option Value->Shared->Prop}(j:s.heap.get? a=some o)(m:o.data=.dict b f)(g:KTD.Rows RelV b.toList D)
  (i:∀d v,KTD.datumAt k D=some d->RelV d v->Q (some v) {s with toks:=s.toks+1}) (n:KTD.datumAt k D=none->Q none {s with toks:=s.toks+1}):wpAny (model prog w) A (dictGet a (.str k h)) Q E s:=by
 unfold dictGet
 try with_reducible refine aaD ?_
 calc J' (wpAny_pyHash_str (J' (KTD.kt_dictFind_strs (s:={s with toks:=s.toks+1}) j m (by obtain⟨l⟩:=b;simpa using g.exact) ?_)));have c:Q (findBy (λk v=>v.isStr k) b k) {s with toks:=s.toks+1}:=by
  have f:findBy (λk v=>v.isStr k) b k=(b.toList.find? λe=>e.key.isStr k).map (·.val):=by
   obtain⟨l⟩:=b;simp[findBy]
  rw[f]
  cases f:KTD.datumAt k D with
  |some d=>
   obtain⟨v,l,h⟩:=g.find_some f;rw[l];calc i d v f h
  |none=>rw[g.find_none f];exact n f
 rw[findBy_of_findIdx?]at c
 cases d:b.findIdx? λe=>e.key.isStr k with
 |none=>rw[d]at c;calc R' c
 |some i=>rw[d]at c;calc J' (wpAny_dictEntries (s:={s with toks:=s.toks+1}) j m (R' c))
theorem zx{prog:Program}{w:World}{o:Obj}{c:Array DictEntry}{d:Nat}{k:Str}{b:Tok}(e:o.data=.dict c d)(f:KTD.Rows RelV c.toList D)(g:(a==sysModules)=false):
  MeetsIn prog w (Builtin.«dict.get» ⟨[.ref a,.str k b],[]⟩) (λ_ R s=>s.heap.get? a=some o/\(∀d v,KTD.datumAt k D=some d->RelV d v->R (.ok (.ret v)) {s with toks:=s.toks+1})/\(KTD.datumAt k D=none->R (.ok (.ret .none)) {s with toks:=s.toks+1})):=
 .of_wp λA R s ⟨T,c,h⟩=>by
  show wpAny _ _ (dictGet a (.str k b) >>= _) _ _ s;calc J' (Pa T e f (λd v i j=>R' ⟨v,rfl,c d v i j⟩) λe=>?_);show wpAny _ _ (Builtin.Dict.missed a (.str k b) >>= _) _ _ _;calc J' (wpAny_missed_other g (R' ⟨.none,rfl,h e⟩))
theorem XE{k:Str}{a:Hp}:(match ([V.str k]:List V) with | [.str k]=>Q ((KTD.datumAt k D).getD .bD) a|_=>False)=Q ((KTD.datumAt k D).getD .bD) a:=rfl
def Gh(D:List (Str×V))(t:TA):TE:=λσ H Q=>t σ H λxs a=>match xs with
 | [.str k]=>Q ((KTD.datumAt k D).getD .bD) a
 |_=>False
theorem Kj{n:Str}{e:Expr}{t:TA}{p b d:Pos}(C:CD X.K a D)(r:Gl X n)(v:X.mg n=some (.ref a))(w:PA X [e] t)
  (x:(n==("__debug__":Str))=false:=by decide) (y:attributeBase (.Name n p) "get" X.env (eval (.Name n p) X.env)=eval (.Name n p) X.env:=by rfl)
  (z:(b.endLine==d.line)=true:=by rfl) (l:starEach [e] X.env=[(false,eval e X.env)]:=by rfl):PE X (.Call (.Attribute (.Name n p) "get" b) [e] [] d) (Gh D t):=by
 walk_at "xc";obtain⟨o,b,n,m,f,A,B⟩:=C.ex;refine wpAny_Call_method_late y (by rw[l];rfl) z rfl (jL I r v ?_ x);have q:s.heap.get? a=some o:=I.gG a o m;refine⟨"dict","dict.get",PySem.F.plainAttrs_dict,Sl,PySem.F.type_dict_get,⟨o,q,f.1⟩,λb e=>?_,?_⟩
 ·cases e;exact⟨o,q,f.2.1⟩
 have b:=w d pins s σ H _ I h;rw[l]at b ⊢;calc Calls.callWith_builtin rfl (Calls.evalArgs_plain (cJ b λn E e=>?_));nofun;obtain⟨b,g,i,j,c⟩:=e;ac_rfl
 match b,j,c with
 | [.str k],j,c=>
  obtain⟨u,rfl,G⟩:=Vals.one j;obtain⟨J,rfl⟩:=G;have e:E.heap.get? a=some o:=i.gG a o m
  replace c:Q ((KTD.datumAt k D).getD .bD) g:=c
  refine call_meetsIn Sl ⟨o,e,f.1⟩ PySem.F.entry_dict_get (PySem.F.args_dict_get_2 _ _) (zx A B C.ne) ⟨e,λd v b j=>?_,λe=>?_⟩
  ·exact⟨d,g,i.tok _,j,by have:=c;rw[b]at this;calc this⟩
  ·calc⟨.bD,g,i.tok _,rfl,by have:=c;rw[e]at this;calc this⟩
end
end
section
variable {x:Str}
section
variable {X:Cx}
theorem fM{n:Int}{a:Pos}(b:∃t,X.mg x=some (.int n t))(c:Gl X x)(d:(x==("__debug__":Str))=false:=by decide):PE X (.Name x a) (tC (.int n)):=by
 obtain⟨t,b⟩:=b;calc qF c b ⟨t,rfl⟩ d
end
structure d7(P:Program)(w:World)(K:W.Frag)(mg:Str->Option Value)(base:Heap)(C:Addr)(m:Str)(k:Nat)(ps:List Str)(sp:Sp):Prop where
 ex:∃f fd,Meth K C m f/\iU P w K mg base uq k f fd ps sp/\Binds K fd ps []
structure gL(K:W.Frag)(C:Addr)(m qual:Str)(st:Stmt)(ps:List Str):Prop where
 ex:∃f fd,Meth K C m f/\DQ K m qual st f fd/\Binds K fd ps []
structure xc(P:Program)(w:World)(K:W.Frag)(mg:Str->Option Value)(base:Heap)(x:Str)(C:Addr)(k:Nat)(ps:List Str)(sp:Sp):Prop where
 ex:∃f fd,Mk K C f/\iU P w K mg base uq k f fd ps sp/\Binds K fd ps []
 mg:mg x=some (.ref C)
structure CI(K:W.Frag)(mg:Str->Option Value)(x:Str)(C:Addr)(qual:Str)(st:Stmt)(ps:List Str):Prop where
 ex:∃f fd,Mk K C f/\DQ K "__init__" qual st f fd/\Binds K fd ps []
 mg:mg x=some (.ref C)
section
variable {P:Program}{w:World}{K:W.Frag}{mg:Str->Option Value}{base:Heap}
theorem gL.ok{C:Addr}{m a:Str}{b:Stmt}{N c:List Str}{k:Nat}{sp:Sp}(T:gL K C m a b c)(S:aE N c (az b))(d:∀vs H Q E,sp vs H Q E->vs.length=c.length)
  (g:∀(f:Addr) (e:Value) (A:Around) (outer:List Env) (s:Shared) (H:Hp) (vs:List V) (Q:VK) (E:XK),dA k (A.deeper (envOfC a (az b) s.heap.objs.size f e))->sp vs H Q E->
   ∃t,qE (jx uq P w K mg base N a (az b) f e A outer s H E).uZ (cA b) t/\t {nx:=λ_ a=>Q .bD a,rt:=Q} (start N vs) H):d7 P w K mg base C m (k + 1) c sp:=by
 obtain⟨f,a,M,F,b⟩:=T.ex;calc⟨f,a,M,F.ok S d (g f),b⟩
theorem CI.ok{C:Addr}{a:Str}{b:Stmt}{N c:List Str}{k:Nat}{sp:Sp}(T:CI K mg x C a b c)(S:aE N c (az b))(d:∀vs H Q E,sp vs H Q E->vs.length=c.length)
  (g:∀(f:Addr) (e:Value) (A:Around) (outer:List Env) (s:Shared) (H:Hp) (vs:List V) (Q:VK) (E:XK),dA k (A.deeper (envOfC a (az b) s.heap.objs.size f e))->sp vs H Q E->
   ∃t,qE (jx uq P w K mg base N a (az b) f e A outer s H E).uZ (cA b) t/\t {nx:=λ_ a=>Q .bD a,rt:=Q} (start N vs) H):xc P w K mg base x C (k + 1) c sp:=by
 obtain⟨f,a,M,F,b⟩:=T.ex;calc⟨⟨f,a,M,F.ok S d (g f),b⟩,T.mg⟩
end
section
variable {X:Cx}{o e:Expr}{es:List Expr}{to:TE}{t:TA}{apos p pos:Pos}{C:Addr}{m x:Str}{k j:Nat}{ps:List Str}{sp:Sp}
theorem jB{pl:Sem Bool}(D:d7 X.prog X.w X.K X.mg X.base C m k ps sp)(c:sL X.K C)(b:dA j X.A)(d:PE X o to)(g:PA X (e::es) t)(h:k<=j:=by decide)(i:dw e=true:=by rfl)(l:es.all dw=true:=by rfl)
  (n:eval (.Call (.Attribute o m apos) (e::es) [] pos) X.env=(do
   let a <-eval o X.env
   standAt apos.atName
   let (f,first) <-holding [a] (getMethod a m pl)
   callWith pos f first (backTo pos (starEach (e::es) X.env)) (backToKw pos (keywordEach [] X.env))):=by rfl):
  PE X (.Call (.Attribute o m apos) (e::es) [] pos) (pZ C m sp [] E0 to t):=by
 obtain⟨f,p,M,F,a⟩:=D.ex;calc AO d c M F (b.mono h) a .nil wQ g (dF i) (eZ l) n
theorem ik{pl:Sem Bool}(D:d7 X.prog X.w X.K X.mg X.base C m k ps sp)(c:sL X.K C)(b:dA j X.A)(d:PE X o to)(e:k<=j:=by decide)
  (g:eval (.Call (.Attribute o m apos) [] [] pos) X.env=(do
   let a <-eval o X.env
   standAt apos.atName
   let (f,first) <-holding [a] (getMethod a m pl)
   callWith pos f first (backTo pos (starEach [] X.env)) (backToKw pos (keywordEach [] X.env))):=by rfl):
  PE X (.Call (.Attribute o m apos) [] [] pos) (pZ C m sp [] E0 to Ck):=by
 obtain⟨f,h,M,F,a⟩:=D.ex;calc EV d c M F (b.mono e) a .nil wQ g
theorem Gi(D:xc X.prog X.w X.K X.mg X.base x C k ps sp)(a:dA j X.A)(b:PA X (e::es) t)(c:Gl X x:=by rfl)(d:k+1<=j:=by decide)(g:(x==("__debug__":Str))=false:=by decide)
  (h:dw e=true:=by rfl) (i:es.all dw=true:=by rfl):PE X (.Call (.Name x p) (e::es) [] pos) (AN C sp [] E0 t):=by
 obtain⟨f,m,M,F,l⟩:=D.ex;calc JS M F (a.mono d) c D.mg l .nil wQ b g (dF h) (eZ i)
end
theorem nE{K:W.Frag}{b:Bool}{a:Addr}{xs:List V}{g:TG}{l:TS}{D:Ends}{σ:St}{H:Hp}(c:Nat->St->Hp->Prop)(o:c 0 σ H)(j:∀i σ H,c i σ H->Sq b K H a xs)
  (q:∀i x σ H T,xs[i]?=some x->c i σ H->H T=none->g (.ref T) σ (upd H T (.tup [.int i,x])) λd k=>l {D with nx:=c (i+1),ct:=c (i+1),bk:=D.nx} d k) (r:∀σ H,c xs.length σ H->D.nx σ H):
  ∃W:Nat->Nat->St->Hp->Prop,(∃m,W 0 m σ H)/\∀i m σ H,W i m σ H->
   ((Ml b K a).stop i H/\D.nx σ H)\/((Ml b K a).go i H/\∃N:St->Hp->Prop,(∀f h,N f h->∃n,n<m/\W (i+1) n f h)/\∀x h,(Ml b K a).LZ i H x h->g x σ h λd k=>l {D with nx:=N,ct:=N,bk:=D.nx} d k):=by
 calc⟨λi m σ H=>m=xs.length-i/\i<=xs.length/\c i σ H,⟨xs.length,by simp,aav _,o⟩,?_⟩;rintro i m σ H ⟨rfl,b,p⟩;by_cases a:i<xs.length
 ·calc .inr ⟨⟨xs,xs[i],j i σ H p,cE a⟩,c (i+1),λf h b=>⟨xs.length-(i+1),by lia,rfl,a,b⟩,λx h y=>?_⟩;obtain⟨T,s,rfl,y⟩:=y;obtain⟨x,t,rfl⟩:=y xs (j i σ H p);exact q i x σ H T t p s
 ·have e:i=xs.length:=by lia
  subst e;calc .inl ⟨⟨xs,j _ σ H p,rfl⟩,r σ H p⟩
theorem iV{X:Cx}{i j:Nat}{y:Str}{c d a:Pos}{k:Nat}(e:X.calm=true)(b:X.N.Nodup)(f:X.N[i]?=some x)(g:X.N[j]?=some y)(h:Loc X.env.scope x)(l:Loc X.env.scope y)
  (m:X.fn x=true\/X.env.scope.names.lookup x=some .local:=by grind) (n:X.fn y=true\/X.env.scope.names.lookup y=some .local:=by grind):
  PG X (.Tuple [.Name x c,.Name y d] k a) (JH X.K 2 (pY (gX i) (pY (gX j) JG))):=EB e (kg (bb b f h m) (kg (bb b g l n) AE))
end
end L2
set_option maxHeartbeats 400000
namespace L2
open PySem PySem.Spec PyProof.Rows
structure Kk(K:W.Frag)(mg:Str->Option Value)(x:Str)(C B:Addr)(qual:Str)(st:Stmt)(ps:List Str):Prop where
 cl:fY K C B
 ex:∃f fd,W.findIn K (.ref C) "__init__"=some (some (.ref f))/\W.isFn K (.ref f)=true/\DQ K "__init__" qual st f fd/\Binds K fd ps []
 mg:mg x=some (.ref C)
structure Gj(P:Program)(w:World)(K:W.Frag)(mg:Str->Option Value)(base:Heap)(x:Str)(C B:Addr)(k:Nat)(ps:List Str)(sp:Sp):Prop where
 cl:fY K C B
 ex:∃f fd,W.findIn K (.ref C) "__init__"=some (some (.ref f))/\W.isFn K (.ref f)=true/\iU P w K mg base uq k f fd ps sp/\Binds K fd ps []
 mg:mg x=some (.ref C)
section
variable {P:Program}{w:World}{K:W.Frag}{mg:Str->Option Value}{base:Heap}
theorem Kk.ok{x:Str}{C B:Addr}{a:Str}{b:Stmt}{N c:List Str}{k:Nat}{sp:Sp}(T:Kk K mg x C B a b c)(S:aE N c (az b))(d:∀vs H Q E,sp vs H Q E->vs.length=c.length)
  (g:∀(f:Addr) (e:Value) (A:Around) (outer:List Env) (s:Shared) (H:Hp) (vs:List V) (Q:VK) (E:XK),dA k (A.deeper (envOfC a (az b) s.heap.objs.size f e))->sp vs H Q E->
   ∃t,qE (jx uq P w K mg base N a (az b) f e A outer s H E).uZ (cA b) t/\t {nx:=λ_ a=>Q .bD a,rt:=Q} (start N vs) H):Gj P w K mg base x C B (k + 1) c sp:=by
 obtain⟨f,a,M1,M2,F,b⟩:=T.ex;calc⟨T.cl,⟨f,a,M1,M2,F.ok S d (g f),b⟩,T.mg⟩
end
def tXI(C:Addr)(sp:Sp)(E:XK)(t:TA):TE:=λσ H Q=>t σ H λvs b=>vs.length<=10/\∀a,b a=none->sp (.ref a::vs) (upd b a (XO a C none true)) (λv c=>v=.bD/\Q (.ref a) c) E
section
variable {X:Cx}{pins:List (Addr×Obj)}{σ:St}{H:Hp}{s:Shared}{C B:Addr}{x:Str}{p pos:Pos}{e:Expr}{es:List Expr}{t:TA}{k j:Nat}{ps:List Str}{sp:Sp}{E:XK}
theorem Pc{Q:VK}{us:List Value}{vs:List V}{f:Addr}{a:FuncData}(b:fY X.K C B)(m:W.findIn X.K (.ref C) "__init__"=some (some (.ref f)))(n:W.isFn X.K (.ref f)=true)
    (F:iU X.prog X.w X.K X.mg X.base uq k f a ps sp) (p:dA (k+1) X.A) (u:Binds X.K a ps []) (x:Passes uq X E) (I:Inv X pins σ H s) (r:Vals vs us) (d:vs.length<=10)
    (h:∀a,H a=none->sp (.ref a::vs) (upd H a (XO a C none true)) (λv d=>v=.bD/\Q (.ref a) d) E):
    wpAny (model X.prog X.w) X.A (call (.ref C) us) (EP X pins σ Q) X.xe s:=by
  obtain⟨g,q,N,l,o,d,P,f,Q,R,S,T,U,Y,y⟩:=b.ob;obtain⟨c,g,d,t,o⟩:=s;have b:H (c.objs.size+1)=none:=I.aW.fresh (Nat.le_succ _);have l:=h _ b;have f:us.length<=sizeLine:=by rw[<-r.length,sizeLine_eq];lia
  have q:((c.push {cls:=.type "tuple",data:=.seq us.toArray}).push
      {cls:=.ref C,data:=.fields #[.ref c.objs.size,.none,.none,.none,.bool false,.none]}).get? (c.objs.size + 1)=some
      {cls:=.ref C,data:=.fields #[.ref c.objs.size,.none,.none,.none,.bool false,.none]}:=by heap_get
  have j:Inv X pins σ (upd H (c.objs.size+1) (XO (c.objs.size+1) C none true)) ⟨(c.push {cls:=.type "tuple",data:=.seq us.toArray}).push {cls:=.ref C,data:=.fields #[.ref c.objs.size,.none,.none,.none,.bool false,.none]},g,d,t,o⟩:=
    I.laid (a:=c.objs.size+1) (λb o e=>K' _ (K' _ e)) (Nat.le_succ _) (FJ q λ_=>rfl)
  have a:Vals (V.ref (c.objs.size+1)::vs) (Value.ref (c.objs.size+1)::us):=.cons rfl r;have b:((Value.ref (c.objs.size+1)::us)++[]).length=ps.length:=by
    rw[List.append_nil,<-a.length];exact F.len _ _ _ _ l
  have d:Vals (V.ref (c.objs.size+1)::vs) ((Value.ref (c.objs.size+1)::us)++[]):=by rw[List.append_nil];exact a
  calc zm (h:=c) I.gG (I.gG _ _ y) m (beq_iff_eq.mp n) ?_ f;refine wpAny_call (codeAny_mono (F.run _ X.stack _ _ ⟨Value.ref (c.objs.size+1)::us,[]⟩ ((Value.ref (c.objs.size+1)::us)++[]) _ _ E (p.make C us []) (j.EU.make C us []) (u _ (Value.ref (c.objs.size+1)::us) j.gG b) d l) λr z i=>?_)
  cases r with
  |error e=>calc x pins σ _ _ e z j i
  |ok D=>
    cases D with
    |ret u=>
      obtain⟨v,G,J,L,M,O⟩:=j.after i;subst M;calc⟨L,⟨V.ref (c.objs.size+1),G,J,rfl,O⟩⟩
    |next=>calc aam i
    |brk=>calc aam i
    |cont=>calc aam i
theorem Mn(D:Gj X.prog X.w X.K X.mg X.base x C B k ps sp)(b:dA j X.A)(c:PA X (e::es) t)(a:Gl X x:=by rfl)(d:k+1<=j:=by decide)(g:(x==("__debug__":Str))=false:=by decide)
  (i:dw e=true:=by rfl) (l:es.all dw=true:=by rfl):PE X (.Call (.Name x p) (e::es) [] pos) (tXI C sp E0 t):=by
 obtain⟨f,n,M1,M2,F,m⟩:=D.ex;walk_at "xc";refine wpAny_Call_Name_kw (jL I a D.mg ?_ g);refine W.callWith_K (h₀:=X.base) I.ok.mod.wx D.cl.kp (cJ (c pos pins s σ H _ I h) λg n ⟨o,u,a,r,f,q⟩=>⟨a.gG,?_⟩) (dF i) (eZ l);exact Pc D.cl M1 M2 F (b.mono d) m wQ a r f q
end
def tXF(K:W.Frag)(a:TE)(f:Str):TE:=λσ H Q=>a σ H λx b=>∃a C B c d v e,x=.ref a/\b a=some (XO a C (some c) e)/\b c=some (XD c d)/\fY K C B/\bJ K C f/\d.lookup f=some v/\Q v b
def ZR(K:W.Frag)(a b:TE)(f:Str):TS:=λD σ H=>b σ H λy d=>a σ d λx c=>∃a C B d,x=.ref a/\c a=some (XO a C none d)/\fY K C B/\bJ K C f/\
 ∀b,c b=none->D.nx σ (upd (upd c a (XO a C (some b) d)) b (XD b [(f,y)]))
section
variable {X:Cx}{o e value:Expr}{f:Str}{pos pos' JP:Pos}{ta tv:TE}
theorem TV(b:PE X e ta)(d:attributeBase e f X.env (eval e X.env)=eval e X.env:=by rfl):PE X (.Attribute e f pos) (tXF X.K ta f):=by
 walk_at "xc";refine AM d (cJ (b pins s σ H _ I h) λu r g=>?_);nofun;obtain⟨x,i,j,k,a,C,B,b,d,v,r,m,o,p,c,n,l,q⟩:=g;ac_rfl;subst m;obtain rfl:u=Value.ref a:=k;exact wX j o p c n l λd g a b=>⟨v,i,a,b,q⟩
theorem Pd(b:PE X o ta)(d:PE X value tv)(e:swapsWith value (some (.Attribute o f pos')) pos.line X.env=pure false:=by rfl):PS X (.Assign [.Attribute o f pos'] value pos) (ZR X.K ta tv f):=by
 walk_at "xd";refine plainObj_wpAny_Assign_Attribute (cJ (d pins s σ H _ I h) λu g ⟨y,i,j,k,q⟩=>cJ (b pins g σ i _ j q) λl d m=>?_) e;nofun;obtain⟨x,b,p,r,a,C,B,d,t,v,c,n,w⟩:=m;ac_rfl;subst t;obtain rfl:l=Value.ref a:=r;exact vA p v c n k λa e b d=>⟨σ,_,d,w a b⟩
end
def vc:V->Value
 | .ref a=>.ref a
 | .ty n=>.type n
 |_=>.none
def TY(K:W.Frag):List V->Hp->VK->Prop:=λxs H Q=>∃a C B d c b f,xs=[.ref a,c]/\H a=some (XO a C d f)/\(∀e,d=some e->∃g,H e=some (XD e g))/\fY K C B/\(c=.ref (match c with | .ref z=>z|_=>0)\/∃n,c=.ty n)/\W.kitOne K (.ref C) (vc c)=some b/\Q (.bl b) H
theorem Gk{X:Cx}:eX X (.builtin "isinstance") (TY X.K):=by
 intro i s σ H w j Q I r h;obtain⟨a,C,B,d,c,b,x,rfl,l,m,o,e,k,q⟩:=h;obtain⟨u,g,rfl,n,p⟩:∃u g,j=u::g/\RelV (.ref a) u/\Vals [c] g:=by cases r with|cons a b=>exact⟨_,_,rfl,a,b⟩
 obtain⟨t,rfl,f⟩:=p.one
 cases(show u=Value.ref a from n);have v:t=vc c:=by
  rcases e with e|⟨n,e⟩
  ·rw[e]at f ⊢;exact f
  ·rw[e]at f ⊢;exact f
 subst v;calc zr I l m o k λa=>⟨.bl b,H,I.tok _,rfl,q⟩
end L2
set_option maxHeartbeats 4000000
namespace L2
open PySem PySem.Spec PyProof.Rows
variable {a:Addr}{g:Bool->Bool}{H:Hp}{ix:List (Option Nat)}{yB:List (TE×TE)}{σ:St}{te:TE}{wi:TI}{tt:TT}{Q:VK}{K:W.Frag}
section
variable {X:Cx}{K:W.Frag}
theorem uv(a:X.K=K):eX X (.builtin "isinstance") (Kg K):=a▸dC
theorem rG(a:X.K=K):eX X (.builtin "len") (O0 K):=a▸aP
theorem nH(a:X.K=K):eX X (.type "tuple") (vo K):=a▸cH
theorem Kl(a:X.K=K)(b:X.A.units+64<cLine):gJ X (compareOp .Eq) (OX K):=a▸Fq b
theorem eU{a b:Expr}{d e:TE}{c:Pos}(f:X.K=K)(g:X.A.units+64<cLine)(i:PE X a d)(j:PE X b e)(h:vz b=true:=by rfl):PE X (.Subscript a b c) (JI (Rb K) d e):=f▸ak g i j h
theorem Km{e:Expr}{b:TE}{f:Str}{a:Pos}(c:X.K=K)(d:PE X e b)(g:attributeBase e f X.env (eval e X.env)=eval e X.env):PE X (.Attribute e f a) (JO K b f):=c▸bP d g
theorem lA{i j:Nat}{x y:Str}{b c a:Pos}{k:Nat}(d:X.K=K)(e:X.calm=true)(f:X.N.Nodup)(g:X.N[i]?=some x)(h:X.N[j]?=some y)(l:Loc X.env.scope x)(m:Loc X.env.scope y)
  (n:X.fn x=true\/X.env.scope.names.lookup x=some .local:=by grind) (o:X.fn y=true\/X.env.scope.names.lookup y=some .local:=by grind):
  PG X (.Tuple [.Name x b,.Name y c] k a) (JH K 2 (pY (gX i) (pY (gX j) JG))):=d▸iV e f g h l m n o
end
inductive TZ{α:Sort _}(x:α):Type
 |mk
def ZT(ix:List (Option Nat))(wi:TI)(g:TG)(tt:TT)(te:TE)(_:TZ (ix,wi,g,tt,te)):TE:=Tj ix wi g tt te
theorem Bk{g:TG}:Tj ix wi g tt te=ZT ix wi g tt te .mk:=rfl
def T1(wi:TI)(g:TG)(a:TS)(_:TZ (wi,g,a)):TS:=Of wi g a
theorem xf{g:TG}{a:TS}:Of wi g a=T1 wi g a .mk:=rfl
def Kn(a:TT)(b:TS)(_:TZ (a,b)):TS:=u6 a b
theorem rH{a:TT}{b:TS}:u6 a b=Kn a b .mk:=rfl
theorem bT{g:TG}(h:wi σ H λJ a=>∀D,a D=none->lW ix J g tt te σ a Q D):Tj ix wi g tt te σ H Q:=h
def Ko(ix:List (Option Nat))(J:It)(g:TG)(tt:TT)(te:TE)(σ:St)(H:Hp)(Q:VK)(D:Addr)(_:TZ (ix,J,g,tt,te,σ,H,Q,D)):Prop:=lW ix J g tt te σ H Q D
theorem rJ{J:It}{g:TG}{D:Addr}:lW ix J g tt te σ H Q D=Ko ix J g tt te σ H Q D .mk:=rfl
theorem zy:Ts g (.ref a) .bD H Q=Q (.bl (g false)) H:=by
 show Q (.bl (g (decide (V.ref a=.bD)))) H=_;simp
theorem zz:Ts g .bD .bD H Q=Q (.bl (g true)) H:=by
 show Q (.bl (g (decide (V.bD=.bD)))) H=_;simp
theorem av.Rc{b:Hp}(s:av H b){a:Addr}{xs:List V}(h:bM K H a xs):bM K b a xs:=by
 rcases h with(h|⟨o,h⟩)|h
 ·exact .inl (.inl (s _ _ h))
 ·exact .inl (.inr ⟨o,s _ _ h⟩)
 ·calc .inr h
theorem jC{α:Type}(x:α)(n:Nat):List.replicate n x++[x]=List.replicate (n+1) x:=by
 rw[List.replicate_succ',]
theorem oP(n:Nat):List.replicate n (V.bl true)=(List.replicate n true).map V.bl:=by simp
theorem dR{xs:List V}{i:Int}{v:V}{P:V->Prop}(h:H a=some (.tup xs))(e:hJ xs i=some v)(k:P v):∃xs v,(aR K H a xs\/bM K H a xs)/\hJ xs i=some v/\P v:=⟨xs,v,.inr (bM.of h),e,k⟩
theorem bC{xs:List V}{i:Int}{v:V}{P:V->Prop}(h:H a=some (.lst xs))(e:hJ xs i=some v)(k:P v):∃xs v,(aR K H a xs\/bM K H a xs)/\hJ xs i=some v/\P v:=⟨xs,v,.inl (aR.of h),e,k⟩
def Pe(yB:List (TE×TE))(_:TZ yB):TE:=AZ yB
theorem uw:AZ yB=Pe yB .mk:=rfl
theorem Kp(h:∀p,H p=none->oK yB σ (upd H p (.dK [])) λd b=>b p=some (.dK [])/\∃a:List (Key×V),d=a.map (λc=>(kV c.1,c.2))/\a.length<=15/\Q (.ref p) (upd b p (.dK (lU [] a)))):AZ yB σ H Q:=h
end L2
set_option maxHeartbeats 400000
namespace L2
open PySem PySem.Spec PyProof.Rows
section
section
variable {X:Cx}{K:W.Frag}
theorem Gm{e:Expr}{b:TE}{f:Str}{a:Pos}(c:X.K=K)(d:PE X e b)(g:attributeBase e f X.env (eval e X.env)=eval e X.env:=by rfl):PE X (.Attribute e f a) (tXF K b f):=c▸TV d g
theorem ux(a:X.K=K):eX X (.builtin "isinstance") (TY K):=a▸Gk
end
end
section
variable {L:Addr}{outer:List Env}
def qj(h:Heap)(e:Addr)(T:Option Addr)(d:Value):Prop:=
 ∃a vs,h.get? e=some a/\a.data=.fields vs/\((T=none/\vs[1]?=some .none)\/∃t b c,T=some t/\t≠e/\vs[1]?=some (.ref t)/\h.get? t=some b/\b.data=.fields c/\c[3]?=some d)
structure ZU(S:List Addr)(e:Addr)(T:Option Addr)(h h':Heap):Prop where
 keep:∀b o,b≠e->T≠some b->b∉S->h.get? b=some o->h'.get? b=some o
 slot:∀b o,b≠e->T≠some b->h.get? b=some o->∃sl,h'.get? b=some {o with slots:=sl}
 T3:∀o vs,h.get? e=some o->o.data=.fields vs->∃T4,h'.get? e=some {o with data:=.fields T4}
 ZV:∀t o,T=some t->h.get? t=some o->∃o',h'.get? t=some o'
 size:h.objs.size<=h'.objs.size
theorem rK{o:Obj}{vs:Array Value}{f:Array Value->Array Value}(a:o.data=.fields vs):o.mapFields f={o with data:=.fields (f vs)}:=by
 obtain⟨c,d,b,e⟩:=o
 cases a;rfl
section
variable {M:Model}{A:Around}{E:Value->Shared->Prop}{s:Shared}
theorem entry_at{base:Heap}{env:Env}{e:Addr}{i:Obj}{vs:Array Value}{d:Value}{x:Bool}{Q:Unit->Shared->Prop}
  (y:A.frames=some (env::outer)) (r:s.heap.FunFrames base (env::outer)) (z:env.frame=some L)
  (q:s.heap.get? e=some i) (n:i.data=.fields vs) (hsz:1<vs.size)
  (h:∀h' t,s.heap.objs.size<=t->ZU (wg (env::outer)) e none s.heap h'->qj h' e (some t) (rawInt L)->Q () {s with heap:=h'}):
  wpAny M A (do let a <-frameOf env;let pl <-entryPlaceOf L x;let b <-EntryCells.newEntry d a .none (rawInt L) .none pl;setField (.ref e) 1 b) Q E s:=by
 have B:e∉(env::outer).filterMap (·.frame):=λC=>by
  obtain⟨_,o,g,F⟩:=r.mem C;rw[q]at g;injection g with g;subst g;exact F vs n
 calc J' (wpAny_frameOf_fun y r z λc p=>?_);calc J' (wpAny_entryPlaceOf λpl u=>?_);unfold EntryCells.newEntry newFields;calc J' (aaJ ?_ (u.sizeOk5 _ _ _ _ _));have g:c.get? e=some i:=(p.2.1 e B).trans q;have i:=K' (h:=c) {cls:=.type "traceback",dict:=none,data:=.fields ([d,.ref L,.none,rawInt L,.none]++(if pl.isEmpty then List.replicate 6 Value.none else pl)).toArray} g;have v:c.objs.size≠e:=Nat.ne_of_gt (T' g);have j:=Obj.data_mapFields n (·.setIfInBounds 1 (Value.ref c.objs.size));have k:=aaW (Obj.mapFields (·.setIfInBounds 1 (Value.ref c.objs.size))) i (Obj.isFreed_of_fields j);have l:=(Heap.get?_update_other (c.push {cls:=.type "traceback",dict:=none,data:=.fields ([d,.ref L,.none,rawInt L,.none]++(if pl.isEmpty then List.replicate 6 Value.none else pl)).toArray})
  (Obj.mapFields (·.setIfInBounds 1 (Value.ref c.objs.size))) (Ne.symm v)).trans (W' c rfl)
 have g:∀b o,b≠e->c.get? b=some o->
   ((c.push {cls:=.type "traceback",dict:=none,data:=.fields ([d,.ref L,.none,rawInt L,.none]++(if pl.isEmpty then List.replicate 6 Value.none else pl)).toArray}).update e (Obj.mapFields (·.setIfInBounds 1 (Value.ref c.objs.size)))).get? b=some o:=
  λb o e d=>by
   rw[Heap.get?_update_other _ _ (Ne.symm e)];exact K' _ d
 refine wpAny_setField i n hsz (h _ c.objs.size (by rw[p.1];calc L' _) ⟨λb o d _ e m=>g b o d ((p.2.1 b e).trans m),λb o d _ m=>?_,λo e m w=>?_,λt o z _=>(nomatch z),?_⟩ ?_)
 ·obtain⟨e,i⟩:=p.2.2 b o m;exact⟨e,g b _ d i⟩
 ·rw[q] at m
  cases m;rw[n]at w
  cases w;exact⟨_,by rw[k,rK n]⟩
 ·rw[Heap.size_update,Heap.size_push,p.1];exact Nat.le_succ _
 ·calc⟨_,_,k,j,.inr ⟨c.objs.size,_,_,rfl,v,by simp[hsz],l,rfl,by first|(simp;done)|(rcases u with rfl|⟨_,_,_,_,_,_,_,rfl⟩<;>simp)⟩⟩
theorem Kr{base:Heap}{env:Env}{e:Addr}{T:Option Addr}{Q:Unit->Shared->Prop}
  (u:A.frames=some (env::outer)) (v:s.heap.FunFrames base (env::outer)) (m:env.frame=some L) (n:qj s.heap e T .none)
  (h:∀h' t,s.heap.objs.size<=t->ZU (wg (env::outer)) e T s.heap h'->qj h' e (some t) (rawInt L)->Q () {s with heap:=h'}):wpAny M A (noteFrame (.ref e) env) Q E s:=by
 obtain⟨w,vs,j,g,n⟩:=n;unfold noteFrame;simp only[m];rcases n with⟨rfl,i⟩|⟨t,C,x,rfl,p,i,k,l,w⟩
 ·calc J' (aax j g i ?_);rw[if_neg (by decide)];exact entry_at u v m j g (Array.getElem?_eq_some_iff.mp i).1 h
 ·calc J' (aax j g i ?_);rw[if_pos (show(Value.ref t !=Value.none)=true from by simp)];calc J' (aax k l w ?_);rw[if_neg (show ¬((Value.none==rawInt L)=true) from by simp[rawInt])];calc J' (wpAny_setField k l (Array.getElem?_eq_some_iff.mp w).1 ?_);have a:∀b,b≠t->(s.heap.update t (Obj.mapFields (·.setIfInBounds 3 Value.none))).get? b=s.heap.get? b:=λb d=>Heap.get?_update_other _ _ (Ne.symm d);have y:∀b o,s.heap.get? b=some o->(∀vs,o.data≠.fields vs)->b≠t:=λb o d r q=>by
   rw[q,k]at d;injection d with d;subst d;exact r x l
  have B:=aaW (Obj.mapFields (·.setIfInBounds 3 Value.none)) k (Obj.isFreed_of_fields (Obj.data_mapFields l _));refine entry_at u (v.of_keeps λb o d r=>⟨o,(a b (y b o d r)).trans d,rfl⟩) m ((a e (Ne.symm p)).trans j) g (Array.getElem?_eq_some_iff.mp i).1 λh' k l c n=>h h' k ?_ ?_ n
  ·have:=l;rw[Heap.size_update]at this;exact this
  ·refine⟨λb o d j k i=>c.keep b o d (λz=>nomatch z) k ((a b (λz=>j (by rw[z]))).trans i),λb o d j i=>c.slot b o d (λz=>nomatch z) ((a b (λz=>j (by rw[z]))).trans i),λo vs i g=>c.T3 o vs ((a e (Ne.symm p)).trans i) g,λb o z i=>?_,?_⟩
   ·cases z;obtain⟨a,q⟩:=c.slot t _ p (λz=>nomatch z) B;exact⟨_,q⟩
   ·have:=c.size;rw[Heap.size_update]at this;calc this
theorem CJ{e t:Addr}{d:Value}{Q:Unit->Shared->Prop}(a:qj s.heap e (some t) d)
  (h:∀h',(∀b o,b≠t->s.heap.get? b=some o->h'.get? b=some o)->h'.objs.size=s.heap.objs.size->qj h' e (some t) .none->Q () {s with heap:=h'}):wpAny M A (setFlight (.ref e) none) Q E s:=by
 obtain⟨n,vs,g,i,a⟩:=a;rcases a with⟨z,_⟩|⟨d,m,p,z,j,k,l,c,q⟩
 ·cases z
 cases z;have m:3<p.size:=(Array.getElem?_eq_some_iff.mp q).1;unfold setFlight;calc J' (aax g i k ?_);rw[if_pos (show(Value.ref t !=Value.none)=true from by simp)];have a:∀b,b≠t->(s.heap.update t (Obj.mapFields (·.setIfInBounds 3 ((none:Option Addr).elim Value.none λf=>rawInt f)))).get? b=s.heap.get? b:=
  λb d=>Heap.get?_update_other _ _ (Ne.symm d)
 calc wpAny_setField l c m (h _ (λb o d p=>(a b d).trans p) (Heap.size_update ..) ?_);calc⟨n,vs,(a e (Ne.symm j)).trans g,i,.inr ⟨t,_,_,rfl,j,k,aaW _ l (Obj.isFreed_of_fields (Obj.data_mapFields c _)),Obj.data_mapFields c _,by simp[m]⟩⟩
end
section
variable {X:Cx}{pins:List (Addr×Obj)}{σ:St}{H:Hp}{s:Shared}{e C:Addr}{d:Option Addr}{fl:Bool}{T:Option Addr}{h':Heap}
def xg(X:Cx)(pins:List (Addr×Obj))(H:Hp)(t:Addr):Prop:=H t=none/\X.s₀.heap.objs.size<=t/\t≠X.env.locals/\(∀x c,X.env.cells.lookup x=some c->c≠t)/\∀p∈X.pn++pins,p.1≠t
theorem Inv.T9(I:Inv X pins σ H s){t:Addr}(h:s.heap.objs.size<=t):xg X pins H t:=by
 refine⟨I.aW.fresh h,aap I.sz h,Nat.ne_of_gt (S' I.lt h),λx c a=>?_,λp b=>?_⟩
 ·obtain⟨v,o,d⟩:=I.cell x c a;exact X' (S' (T' d.1) h)
 ·calc X' (S' (T' (I.pin p b).1) h)
theorem Inv.chg(I:Inv X pins σ H s)(a:H e=some (XO e C d fl))(c:ZU (wg X.stack) e T s.heap h')(r:∀t,T=some t->xg X pins H t):Inv X pins σ (upd H e (XO e C d false)) {s with heap:=h'}:=by
 obtain⟨y,n,k,_⟩:=rB I a;obtain⟨y,v⟩:=c.T3 _ _ k rfl;have w:∀b u,H b=some u->T≠some b:=λb u q z=>by rw[(r b z).1]at q;cases q
 have x:∀b o,s.heap.get? b=some o->∃k,h'.get? b=some k:=λb o g=>by
  by_cases z:b=e
  ·subst z;exact⟨_,v⟩
  ·by_cases k:T=some b
   ·exact c.ZV b o k g
   ·obtain⟨n,q⟩:=c.slot b o z k g;exact⟨_,q⟩
 have j:∀b,H b=none->b≠e:=λb q z=>by rw[z,a]at q;cases q
 refine I.call (g':=s.gens) (t':=s.toks) (d':=s.drawn) (ch:=T.toList) ⟨λb o g n y k=>c.keep b o (j b n) (λz=>k (by simp[z])) y g,λb o g n _ k=>c.slot b o (j b n) (λz=>k (by simp[z])) g,λb o _ n _=>by rw[ay (j b n)];calc n,λb o g _=>x b o g,λb A q=>?_,λb o u q=>?_,λb j q=>?_⟩ (λb u q=>?_) I.bare (λb l=>?_)
 ·rw[ay (λz=>by rw[z,a]at q;cases q)];exact q
 ·rw[ay (λz=>by rw[z,a]at q;cases q)];exact q
 ·rw[ay (λz=>by rw[z,a]at q;cases q)];exact⟨#[],by simp[q]⟩
 ·by_cases z:b=e
  ·subst z;rw[af] at q
   cases q;exact FJ v (λz=>nomatch z)
  ·rw[ay z] at q;refine(I.aW b u q).aK (λi B f g=>?_) (λi h=>?_) (λi A h=>?_)
   ·have m:i≠e/\T≠some i/\i∉wg X.stack:=by
     rcases f with rfl|f
     ·exact⟨z,w _ _ q,λp=>by rw[I.qD _ p]at q;cases q⟩
     ·exact⟨(λz=>by rw[z,a]at f;cases f),w _ _ f,(λp=>by rw[I.qD _ p]at f;cases f)⟩
    exact c.keep i B m.1 m.2.1 m.2.2 g
   ·rw[ay (λz=>by rw[z,a]at h;cases h)];exact h
   ·rw[ay (λz=>by rw[z,a]at h;cases h)];exact h
 ·have e:T=some b:=by
   cases T with
   |none=>simp at l
   |some t=>simp at l;rw[l]
  obtain⟨h,a,c,f,g⟩:=r b e;calc⟨.inr a,c,f,g⟩
theorem Inv.ZX(I:Inv X pins σ H s){t:Addr}(o:xg X pins H t)(k:∀b o,b≠t->s.heap.get? b=some o->h'.get? b=some o):Inv X pins σ H {s with heap:=h'}:=
 I.turned (t':=s.toks) k o.1 o.2.2.1 (.inr o.2.1) o.2.2.2.1 o.2.2.2.2
end
def wm(P:Program)(w:World):ET:=λouter H s E e s'=>∃a C d b t,e=.ref a/\s'.os=s.os/\AllBare s'.gens/\Un (wg outer) [] H b s.heap s'.heap/\lN P w b s'.heap/\b a=some (XO a C d false)/\
 qj s'.heap a (some t) .none/\b t=none/\s.heap.objs.size<=t/\E e none b
section
variable {X:Cx}{pins:List (Addr×Obj)}{σ:St}{H:Hp}{s:Shared}{a C:Addr}{d:Option Addr}{fl:Bool}{T:Option Addr}{h':Heap}{E:XK}{E1:Value->Shared->Prop}
theorem xh{Q:Unit->Shared->Prop}(b:X.stack=X.env::outer)(i:X.env.frame=some L)(I:Inv X pins σ H s)(f:H a=some (XO a C d fl))(j:qj s.heap a T .none)(k:∀t,T=some t->xg X pins H t)
  (h:∀h' t,Inv X pins σ (upd H a (XO a C d false)) {s with heap:=h'}->qj h' a (some t) (rawInt L)->xg X pins (upd H a (XO a C d false)) t->s.heap.objs.size<=t->Q () {s with heap:=h'}):wpAny (model X.prog X.w) X.A (noteFrame (.ref a) X.env) Q E1 s:=by
 have e:X.A.frames=some (X.env::outer):=by rw[<-b];exact I.ok.frames
 have l:s.heap.FunFrames X.base (X.env::outer):=by rw[<-b];exact I.stack
 calc Kr e l i j λh' t g c m=>?_;rw[<-b]at c;have e:=I.chg f c k;have o:=I.T9 g;calc h h' t e m ⟨?_,o.2⟩ g;rw[ay (λz=>by have:=o.1;rw[z,f]at this;cases this)];calc o.1
theorem rL{t:Addr}{b:Value}{Q:Unit->Shared->Prop}{A:Around}(I:Inv X pins σ H s)(c:qj s.heap a (some t) b)(o:xg X pins H t)
  (h:∀h',Inv X pins σ H {s with heap:=h'}->qj h' a (some t) .none->Q () {s with heap:=h'}):wpAny (model X.prog X.w) A (setFlight (.ref a) none) Q E1 s:=
 CJ c λh' k _ b=>h h' (I.ZX o k) b
theorem xi(b:X.stack=X.env::outer)(g:X.outer=outer)(e:X.ex=[])(c:X.env.frame=some L)(I:Inv X pins σ H s)(f:H a=some (XO a C d fl))(h:qj s.heap a T .none)(i:∀t,T=some t->xg X pins H t)
  (j:E (.ref a) none (upd H a (XO a C d false))):wpAny (model X.prog X.w) X.A (leaving X.env (.ref a)) (λ_ k=>wm X.prog X.w outer X.H₀ X.s₀ E (.ref a) k) E1 s:=by
 unfold leaving;calc J' (xh b c I f h i λk t l m o n=>?_);calc rL (s:={s with heap:=k}) l m o λb c f=>?_;have b:=c.base;rw[e,Cx.fs,g]at b;calc⟨a,C,d,_,t,rfl,c.os,c.bare,b,c.aW,af,f,o.1,aap I.sz n,j⟩
end
def Throws(X:Cx)(E:XK):Prop:=∀(pins:List (Addr×Obj)) (σ:St) (H:Hp) (s:Shared) (a C:Addr) (d:Option Addr),Inv X pins σ H s->H a=some (XO a C d true)->E (.ref a) none (upd H a (XO a C d false))->X.xe (.ref a) s
theorem Gq{H:Hp}{a:Addr}{o:HO}(h:H a=some o):upd H a o=H:=by
 funext b;by_cases z:b=a
 ·subst z;rw[af];exact h.symm
 ·calc ay z
section
variable {P:Program}{w:World}{K:W.Frag}{mg:Str->Option Value}{base:Heap}{N:List Str}{qual:Str}{scope:Scope}{f:Addr}{cd:Value}{A:Around}{outer:List Env}{s:Shared}{H:Hp}{E:XK}
theorem Bl:Throws (jx (wm P w) P w K mg base N qual scope f cd A outer s H E) E:=by
 intro b σ j k a C d I c e;obtain⟨g,l,h,i⟩:=rB I c;calc xi (X:=jx (wm P w) P w K mg base N qual scope f cd A outer s H E) (T:=none) rfl rfl rfl rfl I c ⟨_,g,h,rfl,.inl ⟨rfl,i rfl⟩⟩ (λt z=>nomatch z) e
theorem Inv.thrown{X:Cx}{pins:List (Addr×Obj)}{σ:St}{H:Hp}{s s':Shared}{e:Value}(I:Inv X pins σ H s)(h:wm X.prog X.w X.stack H s E e s'):
  ∃a C d c t,e=.ref a/\Inv X pins σ c s'/\c a=some (XO a C d false)/\qj s'.heap a (some t) .none/\xg X pins c t/\E e none c:=by
 obtain⟨a,C,d,c,t,rfl,f,e,g,i,j,k,l,m,q⟩:=h;have n:Inv X pins σ c s':=I.LW (ch:=[]) f g i e λb z=>absurd z (by simp);calc⟨a,C,d,c,t,rfl,n,j,k,⟨l,(I.T9 m).2⟩,q⟩
theorem qJ:Passes (wm P w) (jx (wm P w) P w K mg base N qual scope f cd A outer s H E) E:=by
 intro b σ j k e l I h;obtain⟨a,C,d,m,t,rfl,g,c,i,o,q⟩:=I.thrown h;calc xi (X:=jx (wm P w) P w K mg base N qual scope f cd A outer s H E) (T:=some t) rfl rfl rfl rfl g c i (λa z=>by cases z;calc o) (by rw[Gq c];calc q)
end
end
section
section
variable {M:Model}{A:Around}{E:Value->Shared->Prop}{env:Env}{K:W.Frag}
theorem CK{s:Shared}{x:Sem Value}{Q:Flow->Shared->Prop}(f:A.handled=none)
  (h:wpAny M A x (λv a=>∃e C B d vs c,v=.ref e/\K.In a.heap/\fY K C B/\a.heap.get? e=some (⟨.ref C,d,.fields vs,c⟩:Obj)/\vs[1]?=some .none/\E (.ref e) a) E s):
  wpAny M A (raiseStmt env (some x) none) Q E s:=by
 unfold raiseStmt;calc J' (aat h (λv a b=>?_) λ_ _ x=>x);obtain⟨e,C,B,d,vs,c,rfl,g,h,i,j,k⟩:=b;obtain⟨l,q,N,m,n,c,o,d,p,r,s,t,u,v,e⟩:=h.ob;have b:=g _ _ e;have c:(Value.ref C::.ref B::qI).contains (.type "BaseException")=true:=rfl;obtain⟨d,g,e,h,l⟩:=a
 repeat (first|with_reducible calc aaA i ?_|with_reducible calc aaA b ?_|(with_reducible calc aaY b ?_;rw[c])|wp_step)
 rw[j];calc R' ?_;rw[if_neg (by decide)];calc R' ?_;calc wpAny_raiseNew_none f k
end
def Gr(K:W.Frag)(E:XK)(a:TE):TS:=λ_ σ H=>a σ H λx b=>∃a C B d,x=.ref a/\b a=some (XO a C d true)/\fY K C B/\E (.ref a) none (upd b a (XO a C d false))
section
variable {X:Cx}{E:XK}{e:Expr}{te:TE}{pos:Pos}
theorem xj(f:X.calm=true)(g:Throws X E)(i:PE X e te):PS X (.Raise (some e) none pos) (Gr X.K E te):=by
 walk_at "xd";rw[arm_exec_Raise];refine J' (wpAny_standAt ?_);show wpAny _ _ (raiseStmt X.env (some (do let v <-eval e X.env;standAt pos;pure v)) none) _ _ _;refine CK (K:=X.K) (I.ok.hd f) (J' (cJ (i pins s σ H _ I h) λv j ⟨x,k,b,l,a,C,B,d,m,c,n,q⟩=>J' (wpAny_standAt (R' ?_))));subst m;obtain rfl:v=Value.ref a:=l;obtain⟨f,i,m,o⟩:=rB b c;exact⟨a,C,B,d,f,i,rfl,b.gG,n,m,o rfl,g pins σ k j a C d b c q⟩
end
section
variable {P:Program}{w:World}{K:W.Frag}{mg:Str->Option Value}{base:Heap}
theorem DQ.Pf{x a:Str}{b:Stmt}{f:Addr}{g:FuncData}{N d:List Str}{k:Nat}{sp:Sp}(F:DQ K x a b f g)(S:aE N d (az b))(e:∀vs H Q E,sp vs H Q E->vs.length=d.length)
  (h:∀(c:Value) (A:Around) (outer:List Env) (s:Shared) (H:Hp) (vs:List V) (Q:VK) (E:XK),dA k (A.deeper (envOfC a (az b) s.heap.objs.size f c))->sp vs H Q E->
   ∃t,qE (jx (wm P w) P w K mg base N a (az b) f c A outer s H E) (cA b) t/\t {nx:=λ_ a=>Q .bD a,rt:=Q} (start N vs) H):iU P w K mg base (wm P w) (k + 1) f g d sp:=by
 obtain⟨j,l,kV,i,m,n,c,o,p,rfl,a,b⟩:=F.ex;calc L5 a b S e λA outer s H vs Q E d f=>h c A outer s H vs Q E d f
structure ft(P:Program)(w:World)(K:W.Frag)(mg:Str->Option Value)(base:Heap)(C:Addr)(m:Str)(k:Nat)(ps:List Str)(sp:Sp):Prop where
 ex:∃f fd,Meth K C m f/\iU P w K mg base (wm P w) k f fd ps sp/\Binds K fd ps []
end
section
variable {X:Cx}{o e:Expr}{es:List Expr}{to:TE}{t:TA}{apos p pos:Pos}{C:Addr}{m x:Str}{k j:Nat}{ps:List Str}{sp:Sp}{E:XK}
end
structure PEX(X:Cx)(e:Expr)(t:XK->TE):Prop where
 out:∀(pins:List (Addr×Obj)) (s:Shared) (σ:St) (H:Hp) (Q:VK) (E:XK) (xe:Value->Shared->Prop),(∀H1 s1 x s',Inv X pins σ H1 s1->wm X.prog X.w X.stack H1 s1 E x s'->xe x s')->Inv X pins σ H s->t E σ H Q->
  wpAny (model X.prog X.w) X.A (eval e X.env) (EP X pins σ Q) xe s
section
variable {X:Cx}{k j:Nat}{f C:Addr}{fd:FuncData}{ps:List Str}{sp:Sp}{E:XK}{x m:Str}{p pos apos:Pos}{e o:Expr}{es:List Expr}{ta:TE}{t:TA}
theorem PA.any{xe:Value->Shared->Prop}(a:PA X.uZ es t){pins:List (Addr×Obj)}{s:Shared}{σ:St}{H:Hp}{Q:List V->Hp->Prop}(I:Inv X pins σ H s)(h:t σ H Q)(pos:Pos):
  wpAny (model X.prog X.w) X.A (spliced (backTo pos (starEach es X.env))) (AP X pins σ Q) xe s:=
 aat (a.out pos pins s σ H Q (I.lT _) h) (λ_ _ ⟨b,c,d,r,q⟩=>⟨b,c,d.fF,r,q⟩) λ_ _ z=>aam z
theorem Kt{pins:List (Addr×Obj)}{σ:St}{H:Hp}{s:Shared}{Q:VK}{us:List Value}{vs:List V}{xe:Value->Shared->Prop}(F:iU X.prog X.w X.K X.mg X.base (wm X.prog X.w) k f fd ps sp)(d:dA k X.A)(g:Binds X.K fd ps [])
  (i:∀b c x s',Inv X pins σ b c->wm X.prog X.w X.stack b c E x s'->xe x s') (I:Inv X pins σ H s) (r:Vals vs us) (h:sp vs H Q E):wpAny (model X.prog X.w) X.A (call (.ref f) us) (EP X pins σ Q) xe s:=by
 have b:(us++[]).length=ps.length:=by rw[List.append_nil,<-r.length];exact F.len _ _ _ _ h
 have c:Vals vs (us++[]):=by rw[List.append_nil];exact r
 refine wpAny_call (codeAny_mono (F.run X.A X.stack s H ⟨us,[]⟩ (us++[]) vs Q E d I.EU (g s us I.gG b) c h) λr s' a=>?_)
 cases r with
 |error e=>calc i H s e s' I a
 |ok j=>
  cases j with
  |ret u=>calc I.after a
  |next=>calc aam a
  |brk=>calc aam a
  |cont=>calc aam a
end
structure XG(X:Cx)(st:Stmt)(t:XK->TS):Prop where
 out:∀(pins:List (Addr×Obj)) (s:Shared) (σ:St) (H:Hp) (D:Ends) (E:XK) (xe:Value->Shared->Prop),(∀H1 s1 x s',Inv X pins σ H1 s1->wm X.prog X.w X.stack H1 s1 E x s'->xe x s')->Inv X pins σ H s->t E D σ H->
  wpAny (model X.prog X.w) X.A (exec st X.env) (SP X pins D) xe s
section
variable {X:Cx}{e:Expr}{t:XK->TE}{pos pos':Pos}{x:Str}{i:Nat}
theorem rM(b:PEX X e t)(c:swapsWith e none pos.line X.env=pure false:=by rfl):XG X (.Expr e pos) (λE=>wB (t E)):=
 ⟨λa s σ H D E d f I h=>wpAny_Expr_any (cJ (b.out a s σ H _ E d f I h) λv k ⟨x,g,i,l,j⟩=>⟨σ,g,i,j⟩) I.quiet c⟩
end
end
section
structure XBase(K:W.Frag)(B:Addr):Prop where
 ob:∃nm q N bs sn sub ab col dd k0 k1 k2 k3 k5,K.lookup B=some (excClassObj nm q B N bs qI true sn sub ab col dd k0 k1 k2 k3 k5 "ValueError.__new__")
section
variable {M:Model}{A:Around}{E:Value->Shared->Prop}{K:W.Frag}
theorem ZY{s:Shared}{e C B:Addr}{d:Option Addr}{vs:Array Value}{b:Array (Option Value)}{Q:Bool->Shared->Prop}(a:K.In s.heap)(c:fY K C B)(f:XBase K B)(i:s.heap.get? e=some (⟨.ref C,d,.fields vs,b⟩:Obj))
  (d:Q true s):wpAny M A (excMatches (.ref e) (.ref B)) Q E s:=by
 obtain⟨h,q,N,j,k,b,l,e,m,n,o,p,r,t,g⟩:=c.ob;have b:=a _ _ g;obtain⟨c,t,u,e,h,j,k,l,v,m,n,o,p,q,r⟩:=f.ob;have c:=a _ _ r;obtain⟨h,g,e,t,f⟩:=s;have a:(Value.ref B::qI).contains (.type "BaseException")=true:=rfl;have e:(Value.ref C::.ref B::qI).contains (.ref B)=true:=by simp
 have f:=tc_notTuple;unfold excMatches
 repeat (first|with_reducible calc aaA i ?_|with_reducible calc aaA b ?_|with_reducible calc aaA c ?_|(with_reducible calc aaY b ?_;rw[e])|(with_reducible calc aaY c ?_;rw[a])|wp_step)
 calc d
end
abbrev Cx.lX(X:Cx)(a:Addr):Cx:={X with A:=X.A.mark (some (.ref a)),calm:=false,xe:=λ_ _=>False}
section
variable {X:Cx}{pins:List (Addr×Obj)}{σ:St}{H:Hp}{s:Shared}{a:Addr}
theorem Cx.Ok.lX(b:X.Ok)(a:Addr):(X.lX a).Ok:=
 ⟨b.mod,b.kind,b.glob,b.blt,b.above,b.inj,b.has,b.LQ,(λz=>nomatch z),b.frames,b.NS,b.Q5,b.bs,b.yL,b.uV,b.wz,b.lH,b.Er⟩
theorem Inv.lX(I:Inv X pins σ H s)(a:Addr):Inv (X.lX a) pins σ H s:=⟨I.ok.lX a,I.os,I.bare,I.base,I.loc,I.cell,I.free,I.ie,I.pin,I.aW,I.len⟩
theorem Inv.vE(b:X.Ok)(I:Inv (X.lX a) pins σ H s):Inv X pins σ H s:=⟨b,I.os,I.bare,I.base,I.loc,I.cell,I.free,I.ie,I.pin,I.aW,I.len⟩
theorem qK{M:Model}{A:Around}{E:Value->Shared->Prop}{i:Nat}{n:Str}{m:Pos}{Q:Unit->Shared->Prop}(I:Inv X pins σ H s)(C:X.N.Nodup)(r:X.N[i]?=some n)(l:X.env.scope.names.lookup n=some .local)
  (h:∀s',Inv X pins (σ.set i none) H s'->Q () s'):wpAny M A (do bindName X.env n .none;unbindBehindTheSuite X.env n m) Q E s:=by
 calc J' (wpAny_bindName (ju I C r (.inl l) (v:=.bD) (u:=.none) rfl (λm a=>?_) (.inr l)));have F:i<σ.length:=by rw[I.len];exact(List.getElem?_eq_some_iff.mp r).1
 obtain⟨m,o,G⟩:=id a.loc;have J:X.env.kindOf n=some .local:=l;have B:(X.env.scope.kind == .class||(X.env.scope.kind == .module&&X.env.locals !=X.env.globals))=false:=by rw[I.ok.kind];rfl
 have z:∃u,m n=some u:=by
  obtain⟨u,_,q⟩:=G i n .bD r (List.getElem?_set_self F) (.inl l);rcases q with⟨_,e⟩|⟨k,_⟩
  ·exact⟨u,e⟩
  ·rcases k with k|k<;>(rw[J]at k;cases k)
 obtain⟨l,z⟩:=z;have K:=a.Es;obtain⟨m,_,_,l,_⟩:=id o;unfold unbindBehindTheSuite;calc wpAny_onRaise ?_;unfold unbindName;calc J' (wpAny_point (J' ?_));unfold deleteName;simp only[J,B];rw[if_neg (by decide)];calc J' (wpAny_nsDel_keeps o λl v u g=>?_);rw[z];simp only[if_true,Option.isSome_some,Bool.not_true,Bool.false_eq_true,if_false];refine R' (wpAny_point (h _ ⟨a.ok,a.os,a.bare,⟨λb o e n m l=>?_,λb o e n m l=>?_,a.base.free,λb o e l=>?_,a.base.aS,a.base.oz,a.base.qa⟩,⟨_,u,λj y L d t O=>?_⟩,λy c e=>?_,a.free,a.ie,λp B=>?_,λb P e=>?_,by simpa using I.len⟩))
 ·exact(g.2 b (X' (S' (T' e) I.ok.above))).trans (a.base.keep b o e n m l)
 ·obtain⟨u,d⟩:=a.base.slot b o e n m l;exact⟨u,(g.2 b (X' (S' (T' e) I.ok.above))).trans d⟩
 ·obtain⟨m,d⟩:=a.base.there b o e l;exact⟨m,(g.2 b (X' (S' (T' e) I.ok.above))).trans d⟩
 ·by_cases w:j=i
  ·subst w;rw[List.getElem?_set_self F] at t
   cases t
  ·rw[List.getElem?_set_ne (Ne.symm w)] at t;obtain⟨R,S,q⟩:=G j y L d (by rw[List.getElem?_set_ne (Ne.symm w)];calc t) O;calc⟨R,S,?_⟩;rcases q with⟨k,e⟩ | ⟨k,c,e,z⟩
   ·calc .inl ⟨k,?_⟩;have:y≠n:=λe=>w (qX C d (e▸r));simp[this,e]
   ·exact .inr ⟨k,c,e,z.sameBut g (K y c e)⟩
 ·obtain⟨i,z⟩:=a.cell y c e;exact⟨i,z.sameBut g (K y c e)⟩
 ·obtain⟨e,n,j,k,d⟩:=a.pin p B;exact⟨(g.2 p.1 j).trans e,n,j,k,d⟩
 ·calc(a.aW b P e).aK (λc i x q=>(g.2 c ?_).trans q) (λ_ q=>q) λ_ _ q=>q;rintro rfl;rcases x with rfl | x
  ·rw[a.free]at e;cases e
  ·rw[a.free]at x;cases x
end
end
section
variable {A:Around}{qual:Str}{mg:Str->Option Value}
structure jD(k:Nat)(A:Around):Prop where
 dp:A.depth+3*k+5<recursionLimit
 un:A.units+16*k+200<cLine
theorem jD.mono{j k:Nat}(r:jD k A)(h:j<=k):jD j A:=⟨by have:=r.dp;lia,by have:=r.un;lia⟩
theorem jD.deeper{k:Nat}(r:jD (k+1) A)(env:Env):jD k (A.deeper env):=
 ⟨by have:=r.dp;show A.depth+1+3*k+5<_;lia,by have:=r.un;show A.units+3+16*k+200<_;lia⟩
theorem jD.units{k:Nat}(r:jD k A):A.units+64<cLine:=by have:=r.un;lia
theorem dA.lX{k:Nat}(r:dA k A)(a:Addr):jD k (A.mark (some (.ref a))):=⟨r.dp,r.un⟩
structure Mp(P:Program)(w:World)(K:W.Frag)(mg:Str->Option Value)(base:Heap)(k:Nat)(f:Addr)(fd:FuncData)(ps:List Str)(sp:Sp):Prop where
 len:∀vs H Q E,sp vs H Q E->vs.length=ps.length
 run:∀(A:Around) (outer:List Env) (s:Shared) (H:Hp) (args:Args) (us:List Value) (vs:List V) (Q:VK) (E:XK),jD k A->u9 P w K mg base A outer s H->BindsTo s fd args (ps.zip us)->Vals vs us->sp vs H Q E->
  codeAny (model P w) A (.call (.ref f) args) (CR uq outer P w H s Q E) s
abbrev xk(P:Program)(w:World)(K:W.Frag)(mg:Str->Option Value)(base:Heap)(N:List Str)(qual:Str)(scope:Scope)(f:Addr)(a:Value)(A:Around)(outer:List Env)(s:Shared)(H:Hp):Cx:=
 {jx uq P w K mg base N qual scope f a A outer s H E0 with calm:=false,xe:=λ_ _=>False}
theorem zA{P:Program}{w:World}{K:W.Frag}{base:Heap}{N b:List Str}{scope:Scope}{f:Addr}{c:Value}{outer:List Env}{s d:Shared}{H:Hp}{us:List Value}{vs:List V}
  (S:aE N b scope) (a:u9 P w K mg base A outer s H) (e:vs.length=b.length) (r:Vals vs us)
  (x:InCallC s s.heap.objs.size (bindL (envOfC qual scope s.heap.objs.size f c).kindOf (b.zip us) λ_=>none) (cellsFrom (s.heap.objs.size+1) scope.names []) (bindC (envOfC qual scope s.heap.objs.size f c).kindOf (b.zip us) λ_=>none) d):
  Inv (xk P w K mg base N qual scope f c A outer s H) [] (start N vs) H d:=by
 have I:Inv (jx uq P w K mg base N qual scope f c {A with handled:=none} outer s H E0) [] (start N vs) H d:=ub S rfl ⟨a.frames,a.mod,a.bs,a.yL,a.lH,a.Er,a.aW,a.bare⟩ e r x;have ok:=I.ok;calc⟨⟨ok.mod,ok.kind,ok.glob,ok.blt,ok.above,ok.inj,ok.has,ok.LQ,(λz=>nomatch z),Around.frames_deeper a.frames,ok.NS,ok.Q5,ok.bs,ok.yL,ok.uV,ok.wz,ok.lH,ok.Er⟩,I.os,I.bare,I.base,I.loc,I.cell,I.free,I.ie,I.pin,I.aW,I.len⟩
theorem Pg{P:Program}{w:World}{K:W.Frag}{base:Heap}{k:Nat}{f:Addr}{name:Str}{a:Arguments}{b:List Stmt}{scope:Scope}{o kV i y g ct j:Value}{C od:Option Addr}
  {I:Array (Option Value)} {N p:List Str} {sp:Sp} (M:K.lookup f=some ⟨j,od,.func (W.fnOf name qual a b scope o kV i y C g ct),I⟩) (O:W.codeIn K g qual=true) (S:aE N p scope)
  (j:∀vs H Q E,sp vs H Q E->vs.length=p.length)
  (R:∀(A:Around) (outer:List Env) (s:Shared) (H:Hp) (vs:List V) (Q:VK) (E:XK),jD k (A.deeper (envOfC qual scope s.heap.objs.size f g))->sp vs H Q E->
   ∃t,qE (xk P w K mg base N qual scope f g A outer s H) b t/\t {nx:=λ_ d=>Q .bD d,rt:=Q} (start N vs) H):
  Mp P w K mg base (k+1) f (W.fnOf name qual a b scope o kV i y C g ct) p sp:=by
 calc⟨j,λA outer s H a i vs Q E D l T r F=>?_⟩;have U:=j _ _ _ _ F;have G:K.In s.heap:=l.mod.wx.keeps λb o e=>(l.bs b o e).1;have z:s.heap.NoLimit:=l.mod.nolimit.keeps λb o e=>(l.bs b o e).1;have X:∀y∈p.zip i,scope.names.lookup y.1=some .local\/(scope.names.lookup y.1=some .cell/\((cellsFrom (s.heap.objs.size+1) scope.names []).lookup y.1).isSome=true):=λ⟨n,v⟩ Y=>by
  rcases S.par n (List.of_mem_zip Y).1 with q|q
  ·exact .inl q
  ·exact .inr ⟨q,W.cellsFrom_some _ _ _ (.inl q)⟩
 calc codeAny_call_function (by have:=D.dp;lia) (G _ _ M) rfl S.co S.gen rfl (W.codeRec_of G O) (T _ _ _ _ ?_);calc wpAny_newFunctionEnv_cells S.kind X λa Z L x=>?_;subst Z;calc⟨z.keeps x.toInCall.keep,codeAny_func ?_⟩;obtain⟨t,b,i⟩:=R A outer s H vs Q E (D.deeper _) F;have I:Inv (xk P w K mg base N qual scope f g A outer s H) [] (start N vs) H L:=zA S l U r x;calc aat (b [] L (start N vs) H _ I i) (λfl a h=>?_) λe a h=>aam h;have m:∀{c:St} {d:Hp} {v:V} {u:Value},Inv (xk P w K mg base N qual scope f g A outer s H) [] c d a->RelV v u->Q v d->CE outer P w H s Q u a:=
  λ{c d v u} J B q=>⟨v,d,J.os,J.bare,J.base,J.aW,B,q⟩
 cases fl with
 |ret u=>
  obtain⟨v,c,d,J,B,q⟩:=h;calc m J B q
 |next=>
  obtain⟨c,d,J,q⟩:=h;calc m (v:=V.bD) (u:=Value.none) J rfl q
 |brk=>
  obtain⟨_,_,_,q⟩:=h;calc aam q
 |cont=>
  obtain⟨_,_,_,q⟩:=h;calc aam q
section
variable {P:Program}{w:World}{K:W.Frag}{mg:Str->Option Value}{base:Heap}
structure Ku(P:Program)(w:World)(K:W.Frag)(mg:Str->Option Value)(base:Heap)(x:Str)(k:Nat)(ps:List Str)(sp:Sp):Prop where
 ex:∃f fd,Mp P w K mg base k f fd ps sp/\mg x=some (.ref f)/\W.keepIn K (.ref f)=true/\Binds K fd ps []
theorem cZ.okN{x:Str}{a:Stmt}{N b:List Str}{k:Nat}{sp:Sp}(T:cZ K mg x qual a b)(S:aE N b (az a))(d:∀vs H Q E,sp vs H Q E->vs.length=b.length)
  (e:∀(f:Addr) (c:Value) (A:Around) (outer:List Env) (s:Shared) (H:Hp) (vs:List V) (Q:VK) (E:XK),jD k (A.deeper (envOfC qual (az a) s.heap.objs.size f c))->sp vs H Q E->
   ∃t,qE (xk P w K mg base N qual (az a) f c A outer s H) (cA a) t/\t {nx:=λ_ a=>Q .bD a,rt:=Q} (start N vs) H):Ku P w K mg base x (k + 1) b sp:=by
 obtain⟨f,a,F,g,h⟩:=T.ex;have i:=F.kp;obtain⟨l,m,kV,j,n,o,c,p,q,rfl,a,b⟩:=F.ex;calc⟨f,_,Pg a b S d λA outer s H vs Q E j k=>e f c A outer s H vs Q E j k,g,i,h⟩
end
section
variable {X:Cx}{e:Expr}{es:List Expr}{t:TA}{p pos:Pos}{x:Str}{k j:Nat}{ps:List Str}{sp:Sp}
theorem Ph(D:Ku X.prog X.w X.K X.mg X.base x k ps sp)(g:jD j X.A)(i:PA X (e::es) t)(a:Gl X x:=by rfl)(l:k<=j:=by decide)
  (d:(x==("__debug__":Str))=false:=by decide) (m:dw e=true:=by rfl) (n:es.all dw=true:=by rfl):PE X (.Call (.Name x p) (e::es) [] pos) (tX sp [] E0 t):=by
 obtain⟨f,q,F,o,u,v⟩:=D.ex;walk_at "xc";refine wpAny_Call_Name_kw (jL I a o ?_ d);refine W.callWith_K (h₀:=X.base) I.ok.mod.wx u (cJ (i pos pins s σ H _ I h) λa d ⟨f,o,c,r,q⟩=>⟨c.gG,?_⟩) (dF m) (eZ n);simp only[List.append_nil]at q;have i:(a++[]).length=ps.length:=by rw[List.append_nil,<-r.length];exact F.len _ _ _ _ q
 have m:Vals f (a++[]):=by rw[List.append_nil];exact r
 refine wpAny_call (codeAny_mono (F.run X.A X.stack d o ⟨a,[]⟩ (a++[]) f Q E0 (g.mono l) c.EU (v d a c.gG i) m q) λr n b=>?_)
 cases r with
 |error e=>calc aam b
 |ok y=>
  cases y with
  |ret u=>calc c.after b
  |next=>calc aam b
  |brk=>calc aam b
  |cont=>calc aam b
end
end
end L2
set_option maxHeartbeats 4000000
namespace DD
open PySem L2
variable {H:Hp}{x:V}
inductive Kd(H:Hp):V->Value->Prop
 |bD:Kd H .bD (.type "NoneType")
 |bl (b:Bool):Kd H (.bl b) (.type "bool")
 |int (i:Int):Kd H (.int i) (.type "int")
 |str (x:Str):Kd H (.str x) (.type "str")
 |lst {a xs}:H a=some (.lst xs)->Kd H (.ref a) (.type "list")
 |tup {a xs}:H a=some (.tup xs)->Kd H (.ref a) (.type "tuple")
 |dK {a aQ}:H a=some (.dK aQ)->Kd H (.ref a) (.type "dict")
theorem Kd.ty{K:W.Frag}{H:Hp}{x:V}{t:Value}(h:Kd H x t):gb K H x t:=by
 cases h with
 |bD=>calc .bD
 |bl b=>calc .bl b
 |int i=>calc .int i
 |str x=>calc .str x
 |lst e=>calc .lst e
 |tup e=>calc .tup e
 |dK e=>calc .dK e
def Z0:V->Bool
 | .int _=>true
 |_=>false
theorem Pj{K:W.Frag}{H:Hp}{x:V}{t:Value}(h:Kd H x t):∃b c,W.kitOne K t (.type "int")=some b/\W.kitOne K t (.type "bool")=some c/\Z0 x=(b && !c):=by
 cases h with
 |bD=>calc⟨false,false,rfl,rfl,rfl⟩
 |bl b=>calc⟨true,true,rfl,rfl,rfl⟩
 |int i=>calc⟨true,false,rfl,rfl,rfl⟩
 |str x=>calc⟨false,false,rfl,rfl,rfl⟩
 |lst e=>calc⟨false,false,rfl,rfl,rfl⟩
 |tup e=>calc⟨false,false,rfl,rfl,rfl⟩
 |dK e=>calc⟨false,false,rfl,rfl,rfl⟩
def inR(a b:Int):V->Bool
 | .int i=>decide (a<=i)&&decide (i<b)
 |_=>false
theorem Ua{H:Hp}{n:Nat}{x:V}{d:DV}(h:HD H n x d):∃t,Kd H x t:=by
 cases h with
 |bD=>calc⟨_,.bD⟩
 |bl b=>calc⟨_,.bl b⟩
 |int i=>calc⟨_,.int i⟩
 |str x=>calc⟨_,.str x⟩
 |tup e=>calc⟨_,.tup e⟩
 |lst e=>calc⟨_,.lst e⟩
 |dict e=>calc⟨_,.dK e⟩
def Pk:DV->Bool
 | .int _=>true
 |_=>false
def Ub(a b:Int):DV->Bool
 | .int i=>decide (a<=i)&&decide (i<b)
 |_=>false
theorem Pl{n:Nat}{d:DV}(h:HD H n x d):Z0 x=Pk d:=by cases h<;>rfl
theorem Pm{n:Nat}{d:DV}(h:HD H n x d)(a b:Int):inR a b x=Ub a b d:=by cases h<;>rfl
def rN:List V:=[.str "letter",.str "way",.str "first"]
def Kv(w:Str)(m:Int):List DV->Bool
 | [z]=>if w="is" then Pk z else(decide (w="number")&&Ub 0 m z)
 |_=>false
def CL(m:Int):DV->Bool
 | .tup (.str w::r)=>if AX (.str w) rN=true then decide (r.length=0) else Kv w m r
 |_=>false
inductive Val where
 |is (c:Int)|number (i:Int)|lY|way|first
def Val.dv:Val->DV
 | .is c=>.tup [.str "is",.int c]
 | .number i=>.tup [.str "number",.int i]
 | .lY=>.tup [.str "letter"]
 | .way=>.tup [.str "way"]
 | .first=>.tup [.str "first"]
def Val.ok(m:Int):Val->Prop
 | .number i=>0<=i/\i<m
 |_=>True
theorem Pn{m:Int}{v:Val}(h:v.ok m):CL m v.dv=true:=by
 cases v with
 |is c=>calc rfl
 |number i=>
  obtain⟨a,b⟩:=h;show(if AX (.str "number") rN=true then decide (([DV.int i]:List DV).length=0) else if ("number":Str)="is" then Pk (.int i) else(decide (("number":Str)="number")&&(decide (0<=i)&&decide (i<m))))=true;rw[if_neg (by decide +kernel),if_neg (by decide +kernel)];simp[a,b]
 |lY=>calc rfl
 |way=>calc rfl
 |first=>calc rfl
def rO(b a:List Int)(way said:Int):Val->Int
 | .is c=>c
 | .number i=>b.getD i.toNat 0
 | .lY=>said
 | .way=>way
 | .first=>a.headD 0
abbrev yE(b a:List Int):DV:=.tup [.tup (b.map .int),.tup (a.map .int)]
theorem ln1{l:List V}(h:l.length=1):∃a,l=[a]:=List.length_eq_one_iff.mp h
theorem ln2{l:List V}(h:l.length=2):∃a b,l=[a,b]:=by
 cases l with
 |nil=>cases h
 |cons a r=>
  obtain⟨b,rfl⟩:=ln1 (Nat.succ.inj h);calc⟨a,b,rfl⟩
theorem ln3{l:List V}(h:l.length=3):∃a b c,l=[a,b,c]:=by
 cases l with
 |nil=>cases h
 |cons a r=>
  obtain⟨b,c,rfl⟩:=ln2 (Nat.succ.inj h);calc⟨a,b,c,rfl⟩
theorem ln4{l:List V}(h:l.length=4):∃a b c d,l=[a,b,c,d]:=by
 cases l with
 |nil=>cases h
 |cons a r=>
  obtain⟨b,c,d,rfl⟩:=ln3 (Nat.succ.inj h);calc⟨a,b,c,d,rfl⟩
theorem gf{H:Hp}{n:Nat}{x:V}{d:DV}(h:HT H n x (.tup [d])):∃a u k,x=.ref a/\H a=some (.tup [u])/\HT H k u d:=by
 cases h with
 | @tup k a b _ e l i=>
  obtain⟨u,rfl⟩:=ln1 l;calc⟨a,u,k,rfl,e,i 0 u d rfl rfl⟩
theorem cy{H:Hp}{n:Nat}{x:V}{d d':DV}(h:HT H n x (.tup [d,d'])):∃a u v k,x=.ref a/\H a=some (.tup [u,v])/\HT H k u d/\HT H k v d':=by
 cases h with
 | @tup k a b _ e l i=>
  obtain⟨u,v,rfl⟩:=ln2 l;calc⟨a,u,v,k,rfl,e,i 0 u d rfl rfl,i 1 v d' rfl rfl⟩
theorem Bn{H:Hp}{n:Nat}{x:V}{b:List Int}(h:HT H n x (.tup (b.map .int))):∃a,x=.ref a/\H a=some (.tup (b.map V.int)):=by
 cases h with
 | @tup k a c _ e l i=>
  calc⟨a,rfl,?_⟩;have:c=b.map V.int:=by
   apply List.ext_getElem?;intro j;rw[List.getElem?_map]
   cases d:b[j]? with
   |none=>
    have a:b.length<=j:=List.getElem?_eq_none_iff.mp d;rw[List.getElem?_eq_none_iff.mpr (by rw[l,List.length_map];calc a)];rfl
   |some z=>
    have a:j<b.length:=(List.getElem?_eq_some_iff.mp d).1;have f:j<c.length:=by rw[l,List.length_map];exact a
    have g:=i j c[j] (.int z) (cE f) (by rw[List.getElem?_map,d];rfl);rw[cE f];generalize c[j]=y at g
    cases g;rfl
  rw[<-this];calc e
theorem nI{H:Hp}{n:Nat}{a:Addr}{c:List Int}(e:H a=some (.tup (c.map V.int))):HT H (n+1) (.ref a) (.tup (c.map .int)):=by
 calc .tup e (by simp) λi u d b f=>?_;rw[List.getElem?_map]at b f
 cases g:c[i]? with
 |none=>rw[g]at b;cases b
 |some z=>rw[g]at b f;cases b;cases f;calc .int z
theorem rP{H:Hp}{n:Nat}{a:Addr}{u:V}{d:DV}(e:H a=some (.tup [u]))(h:HT H n u d):HT H (n+1) (.ref a) (.tup [d]):=by
 refine .tup e rfl λi x y b c=>?_
 cases i with
 |zero=>simp at b c;subst b c;calc h
 |succ i=>simp at b
theorem c9{H:Hp}{n:Nat}{a:Addr}{u v:V}{d d':DV}(e:H a=some (.tup [u,v]))(h:HT H n u d)(h':HT H n v d'):HT H (n+1) (.ref a) (.tup [d,d']):=by
 refine .tup e rfl λi x y b c=>?_
 match i,b,c with
 |0,b,c=>simp at b c;subst b c;calc h
 |1,b,c=>simp at b c;subst b c;calc h'
theorem _root_.L2.HT.mono{H:Hp}{n:Nat}{x:V}{d:DV}(h:HT H n x d):∀{m:Nat},n<=m->HT H m x d:=by
 induction h with
 |bD=>intro m _;calc .bD
 |bl b=>intro m _;calc .bl b
 |int i=>intro m _;calc .int i
 |str x=>intro m _;calc .str x
 |tup a b c f=>
  intro m e;obtain⟨k,rfl⟩:∃k,m=k+1:=⟨m-1,by lia⟩
  calc .tup a b λi u e p q=>f i u e p q (by lia)
theorem Kw{K:W.Frag}{H:Hp}{n:Nat}{x:V}{d:DV}(h:HT H n x d):∀{m:Nat}{y:V}{k:Nat},HT H m y d->n<k->kn K H k x y:=by
 induction h with
 |bD=>intro m y k h c;cases h;obtain⟨j,rfl⟩:∃j,k=j+1:=⟨k-1,by lia⟩;calc .inl ⟨rfl,rfl⟩
 |bl b=>intro m y k h c;cases h;obtain⟨j,rfl⟩:∃j,k=j+1:=⟨k-1,by lia⟩;calc .inl ⟨rfl,rfl⟩
 |int i=>intro m y k h c;cases h;obtain⟨j,rfl⟩:∃j,k=j+1:=⟨k-1,by lia⟩;calc .inl ⟨rfl,rfl⟩
 |str i=>intro m y k h c;cases h;obtain⟨j,rfl⟩:∃j,k=j+1:=⟨k-1,by lia⟩;calc .inl ⟨rfl,rfl⟩
 | @tup n a o g e l i q=>
  intro m y k h c;obtain⟨j,rfl⟩:∃j,k=j+1:=⟨k-1,by lia⟩
  cases h with
  | @tup m b d _ i j k=>
   calc .inr ⟨a,b,o,d,rfl,rfl,.inl ⟨bM.of e,bM.of i⟩,l.trans j.symm,λp u v c m=>?_⟩;have a:p<g.length:=by rw[<-l];exact(List.getElem?_eq_some_iff.mp c).1
   calc q p u g[p] c (cE a) (k p v g[p] m (cE a)) (by lia)
inductive bF where
 |set (i:Int) (v:Val)|add (i:Int) (v:Val)|times (i:Int) (v:Val)|put (v:Val)|drop|send (j:Int) (v:Val)|say (v:Val)|skip (v w:Val) (k:Int)
def bF.dv:bF->DV
 | .set i v=>.tup [.str "set",.int i,v.dv]
 | .add i v=>.tup [.str "add",.int i,v.dv]
 | .times i v=>.tup [.str "times",.int i,v.dv]
 | .put v=>.tup [.str "put",v.dv]
 | .drop=>.tup [.str "drop"]
 | .send j v=>.tup [.str "send",.int j,v.dv]
 | .say v=>.tup [.str "say",v.dv]
 | .skip v w k=>.tup [.str "skip",v.dv,w.dv,.int k]
def bF.ok(m:Int):bF->Prop
 | .set i v=>0<=i/\i<m/\v.ok m
 | .add i v=>0<=i/\i<m/\v.ok m
 | .times i v=>0<=i/\i<m/\v.ok m
 | .put v=>v.ok m
 | .drop=>True
 | .send j v=>0<=j/\v.ok m
 | .say v=>v.ok m
 | .skip v w k=>v.ok m/\w.ok m/\1<=k/\k<25
def bF.vals:bF->List Val
 | .set _ v=>[v]
 | .add _ v=>[v]
 | .times _ v=>[v]
 | .put v=>[v]
 | .drop=>[]
 | .send _ v=>[v]
 | .say v=>[v]
 | .skip v w _=>[v,w]
def bF.word:bF->Str
 | .set _ _=>"set"
 | .add _ _=>"add"
 | .times _ _=>"times"
 | .put _=>"put"
 | .drop=>"drop"
 | .send _ _=>"send"
 | .say _=>"say"
 | .skip _ _ _=>"skip"
def bF.sX:bF->List Str
 | .set _ _=>["number","value"]
 | .add _ _=>["number","value"]
 | .times _ _=>["number","value"]
 | .put _=>["value"]
 | .drop=>[]
 | .send _ _=>["way","value"]
 | .say _=>["value"]
 | .skip _ _ _=>["value","value","many"]
structure WS where
 ns:List Int
 row:List Int
 cb:List (Int×Int)
 words:List Int
def fN(M way said:Int)(b a:List Int)(v:Val):Int:=rO b a way said v%M
def cS(M:Int)(a:List Int)(x:Int):bF->List Int
 | .set i _=>a.set i.toNat x
 | .add i _=>a.set i.toNat ((a.getD i.toNat 0+x)%M)
 | .times i _=>a.set i.toNat ((a.getD i.toNat 0*x)%M)
 |_=>a
def fO(a:List Int)(x:Int):bF->List Int
 | .put _=>if a.length<12 then a++[x] else a
 | .drop=>a.tail
 |_=>a
def bA(x:Int):bF->List (Int×Int)
 | .send j _=>[(j,x)]
 |_=>[]
def aX(x:Int):bF->List Int
 | .say _=>[x]
 |_=>[]
def fP(x y:Int):bF->Int
 | .skip _ _ k=>if x<y then k else 0
 |_=>0
def fQ(M way said:Int)(d:bF)(s:WS):WS:=
 let a:=d.vals.map (fN M way said s.ns s.row)
 ⟨cS M s.ns (a.getD 0 0) d,fO s.row (a.getD 0 0) d,s.cb++bA (a.getD 0 0) d,s.words++aX (a.getD 0 0) d⟩
def lS(M way said:Int)(d:bF)(s:WS):Int:=
 let a:=d.vals.map (fN M way said s.ns s.row)
 fP (a.getD 0 0) (a.getD 1 0) d
def xl(M way said:Int):Nat->List bF->WS->WS
 |0,_,s=>s
 |_,[],s=>s
 |f+1,d::r,s=>xl M way said f (r.drop (lS M way said d s).toNat) (fQ M way said d s)
theorem Bo{M way said:Int}{f:Nat}{s:WS}:xl M way said f [] s=s:=by cases f<;>rfl
def nJ(M way said:Int)(b:List bF)(c a:List Int):WS:=xl M way said b.length b ⟨c,a,[],[]⟩
theorem bW{M x:Int}{a:List Int}{d:bF}:(cS M a x d).length=a.length:=by cases d<;>simp[cS]
def xm(K:W.Frag)(H:Hp)(f:V)(e d:List Int):Prop:=∃a b c,f=.ref a/\H a=some (.tup [.ref b,.ref c])/\(aR K H b (e.map V.int)\/bM K H b (e.map V.int))/\(aR K H c (d.map V.int)\/bM K H c (d.map V.int))
theorem xm.of{K:W.Frag}{n:Nat}{f:V}{g d:List Int}(h:HT H n f (yE g d)):xm K H f g d:=by
 obtain⟨a,u,v,k,rfl,e,i,j⟩:=cy h;obtain⟨b,rfl,l⟩:=Bn i;obtain⟨c,rfl,d⟩:=Bn j;calc⟨a,b,c,rfl,e,.inr (bM.of l),.inr (bM.of d)⟩
def cf:Stmt->List Stmt
 | .ClassDef _ _ _ a _ _ _ _ _ _ _=>a
 |_=>[]
theorem bX{H:Hp}{n:Nat}{x:V}{d d' b:DV}(h:HT H n x (.tup [d,d',b])):∃a u v w k,x=.ref a/\H a=some (.tup [u,v,w])/\HT H k u d/\HT H k v d'/\HT H k w b:=by
 cases h with
 | @tup k a c _ e l i=>
  obtain⟨u,v,w,rfl⟩:=ln3 l;calc⟨a,u,v,w,k,rfl,e,i 0 u d rfl rfl,i 1 v d' rfl rfl,i 2 w b rfl rfl⟩
theorem jQ{H:Hp}{n:Nat}{x:V}{d d' b c:DV}(h:HT H n x (.tup [d,d',b,c])):∃a u v w z k,x=.ref a/\H a=some (.tup [u,v,w,z])/\HT H k u d/\HT H k v d'/\HT H k w b/\HT H k z c:=by
 cases h with
 | @tup k a f _ e l i=>
  obtain⟨u,v,w,z,rfl⟩:=ln4 l;calc⟨a,u,v,w,z,k,rfl,e,i 0 u d rfl rfl,i 1 v d' rfl rfl,i 2 w b rfl rfl,i 3 z c rfl rfl⟩
theorem lZ{H:Hp}{n:Nat}{a:Addr}{u v w:V}{d d' f:DV}(e:H a=some (.tup [u,v,w]))(h:HT H n u d)(h':HT H n v d')(g:HT H n w f):HT H (n+1) (.ref a) (.tup [d,d',f]):=by
 refine .tup e rfl λi x y b c=>?_
 match i,b,c with
 |0,b,c=>simp at b c;subst b c;calc h
 |1,b,c=>simp at b c;subst b c;calc h'
 |2,b,c=>simp at b c;subst b c;calc g
theorem Bp{n:Nat}{v:Val}(h:HT H n x v.dv):∃a xs,x=.ref a/\H a=some (.tup xs):=by
 cases v<;>(cases h;rename_i a xs e l i;calc⟨_,_,rfl,by assumption⟩)
end DD
set_option maxHeartbeats 400000
namespace L2
open PySem PySem.Spec PyProof.Rows
def Uc:R2:=λx y H Q=>match x,y with
 | .ref a,.int n=>∃v,H a=some (.lst [v])/\-1000<=n/\n<=1000/\∀p,H p=none->Q (.ref p) (upd H p (.lst (List.replicate n.toNat v)))
 |_,_=>False
theorem Gs{α:Type}(n:Nat)(v:α):(List.replicate n [v]).flatten=List.replicate n v:=by
 induction n with
 |zero=>rfl
 |succ n a=>rw[List.replicate_succ,List.flatten_cons,a];rfl
theorem xn{v:V}{u:Value}(r:RelV v u):∀n:Nat,Vals (List.replicate n v) (List.replicate n u)
 |0=>.nil
 |n+1=>.cons r (xn r n)
section
variable {X:Cx}
theorem Gu:gJ X (binaryOp .Mult) Uc:=by
 intro g s σ H x y v u Q I i j h
 cases x<;>cases y<;>first
  |calc(show False from h).elim
  |skip
 rename_i a n;obtain⟨w,l,A,B,q⟩:=h;obtain rfl:v=Value.ref a:=i;obtain⟨c,rfl⟩:∃c,u=Value.int n c:=j;obtain⟨_,C,k,m,d⟩:=I.aW a _ l;obtain⟨f,rfl,p⟩:=m.one;have r:([f]:List Value).toArray.size*n.toNat<=1000:=by simp;lia
 refine wpAny_binaryOp_repeat_ref (T:="list") (U:="int") (by decide) ⟨_,d,rfl⟩ (λt=>typeIs_int t n c) noFill_list_mul F.fills_int_mul F.slot_int_rmul repeat_list F.slot_int_index.lookup
  (call_meets F.slot_int_rmul (typeIs_int s n c) F.entry_int_rmul (F.args_int_rmul_2 _ _) (lm_int_rmul_list_any n c a ([f]:List Value).toArray k none #[])
   ⟨d,rfl,⟨_,d,rfl⟩,call_meets F.slot_list_mul ⟨_,d,rfl⟩ F.entry_list_mul (F.args_list_mul_2 _ _)
    (lm_list_mul_any a ([f]:List Value).toArray k none #[] n c (by simp[Builtin.List.listFitsIndex];lia) (by lia) (by simp[Builtin.List.listTooLong,sizeLine];lia))
    ⟨d,?_⟩⟩)
 rw[listMul_foldl_if,Gs];have z:H s.heap.objs.size=none:=I.aW.fresh (L' _);calc⟨V.ref s.heap.objs.size,_,I.laid (o:=.lst (List.replicate n.toNat w)) (a:=s.heap.objs.size) (λb o e=>K' _ e) (L' _) (show _/\_ from⟨?_,_,0,xn p _,W' _ rfl⟩),rfl,q _ z⟩;rw[List.length_replicate,sizeLine_eq];lia
end
end L2
namespace L2
open PySem
structure DX(K:W.Frag)(mg:Str->Option Value)(B:Addr)(c:Nat->Addr):Prop where
 Kx:mg "BadMachine"=some (.ref (c 0))
 Rf:mg "BadDeed"=some (.ref (c 1))
 Ud:mg "NoText"=some (.ref (c 2))
 Ue:mg "BadNet"=some (.ref (c 3))
 l7:mg "NoLetter"=some (.ref (c 4))
 l8:mg "NotFirst"=some (.ref (c 5))
 Rg:mg "NoCount"=some (.ref (c 6))
 Rh:mg "NoEvent"=some (.ref (c 7))
 Po:mg "Orphaned"=some (.ref (c 8))
 Ri:mg "TooMany"=some (.ref (c 9))
 Ug:mg "NoLine"=some (.ref (c 10))
 Mq:mg "NoMachine"=some (.ref (c 11))
 Uh:mg "NotRow"=some (.ref (c 12))
 Z2:mg "Busy"=some (.ref (c 13))
 Ky:mg "NotReached"=some (.ref (c 14))
 Ui:mg "NoMark"=some (.ref (c 15))
 XH:mg "NoRow"=some (.ref (c 16))
 Uj:mg "NoName"=some (.ref (c 17))
 Uk:mg "NoDeed"=some (.ref (c 18))
 l9:mg "NetError"=some (.ref B)
 Kz:qh K mg "BadMachine" (c 0) B
 Ul:qh K mg "NoText" (c 2) B
 Um:qh K mg "BadNet" (c 3) B
 Rj:qh K mg "NoCount" (c 6) B
 Rk:qh K mg "NoEvent" (c 7) B
 Rl:qh K mg "TooMany" (c 9) B
 Mr:qh K mg "NoMachine" (c 11) B
 Z3:qh K mg "Busy" (c 13) B
 Uo:qh K mg "NoMark" (c 15) B
 XI:qh K mg "NoRow" (c 16) B
 Up:qh K mg "NoName" (c 17) B
 Uq:qh K mg "NoDeed" (c 18) B
 cl:∀i,i<19->fY K (c i) B
 inj:∀i j,i<19->j<19->c i=c j->i=j
 nB:∀i,i<19->c i≠B
 isB:(W.clsIn K B).isSome=true
 tyB:W.typeIn K (.ref B)=some (.type "type")
 xb:XBase K B
 KA:bJ K (c 1) "at"
 cG:bJ K (c 4) "at"
 Jk:bJ K (c 5) "at"
 Bq:bJ K (c 8) "letter"
 Gv:bJ K (c 10) "falls"
 DY:bJ K (c 10) "letter"
 KC:bJ K (c 12) "way"
 xo:bJ K (c 14) "machine"
section
variable {K:W.Frag}{mg:Str->Option Value}{B:Addr}{c:Nat->Addr}
theorem zB(T:DX K mg B c){i j:Nat}(a:i<19)(b:j<19):W.kitOne K (.ref (c i)) (.ref (c j))=some (decide (i=j)):=by
 unfold W.kitOne;by_cases e:i=j
 ·subst e;rw[if_pos (by simp)];simp
 ·have d:c i≠c j:=λz=>e (T.inj i j a b z);have g:c j≠B:=T.nB j b;rw[if_neg (by simpa using d)];obtain⟨cd,k,l,_⟩:=(T.cl i a).cd;obtain⟨n,q,N,o,p,l,r,m,t,u,v,w,x,y,k⟩:=(T.cl j b).ob;have l:W.typeIn K (.ref (c j))=some (.type "type"):=by show Option.map (·.cls) (K.lookup (c j))=_;rw[k];rfl
  have b:(W.clsIn K (c j)).isSome=true:=by unfold W.clsIn;rw[k];rfl
  have k:=(T.cl i a).mro (.ref (c j));show(if ((W.clsIn K (c j)).isSome&&W.typeIn K (.ref (c j))==some (.type "type"))=true then W.subIn K (.ref (c i)) (.ref (c j)) else none)=_;rw[l,b];simp only[beq_self_eq_true,Bool.and_self,if_true];show W.mroIn K (c i) (.ref (c j))=_;rw[k];have z:((Value.ref (c i)::.ref B::qI).contains (.ref (c j)))=false:=by
   simp[qI,List.contains_cons,d,g,Ne.symm d]
  rw[z];simp[e]
end
end L2
namespace L2
open PySem PySem.Spec PyProof.Rows Builtin.Str
end L2
namespace L2
open PySem PySem.Spec PyProof.Rows Builtin.Str
end L2
set_option maxHeartbeats 4000000
namespace L2
open PySem
section
variable {X:Cx}
def Z4(K:W.Frag):List V->Hp->VK->Prop:=λxs H Q=>∃(x:V) (C:Addr) (t:Value) (b:Bool),xs=[x,.ref C]/\gb K H x t/\W.kitOne K t (.ref C)=some b/\Q (.bl b) H
theorem Gw{K:W.Frag}(c:X.K=K):eX X (.builtin "isinstance") (Z4 K):=by
 subst c;intro a s σ H i j Q I r h;obtain⟨x,C,t,b,rfl,d,e,q⟩:=h;obtain⟨u,k,rfl,f,g⟩:=vals2 r
 cases g;calc tW I f d e λa=>⟨.bl b,H,I.tok _,rfl,q⟩
end
end L2
namespace L2
open PySem PySem.Spec PyProof.Rows
variable {e:Nat->Bool}
def DZ(K:W.Frag)(H:Hp):Nat->V->V->Bool->Prop
 |0,_,_,_=>False
 | n + 1,x,y,b=>(∃a,x=.ref a/\y=.ref a/\b=true)\/(fZ x=true/\fZ y=true/\b=DP x y)
  \/(∃a xs,fZ x=true/\y=.ref a/\(bM K H a xs\/aR K H a xs)/\b=false)\/(∃a xs,fZ y=true/\x=.ref a/\(bM K H a xs\/aR K H a xs)/\b=false)
  \/(∃a c xs d,x=.ref a/\y=.ref c/\((bM K H a xs/\aR K H c d)\/(aR K H a xs/\bM K H c d))/\b=false)
  \/∃a c xs d,∃e:Nat->Bool,x=.ref a/\y=.ref c/\a≠c/\((bM K H a xs/\bM K H c d)\/(aR K H a xs/\aR K H c d))
   /\(∀(i:Nat) u v,xs[i]?=some u->d[i]?=some v->DZ K H n u v (e i))/\b=((List.range (min xs.length d.length)).all e&&(xs.length==d.length))
def XJ(K:W.Frag)(H:Hp)(n:Nat)(a c:Addr)(b:Bool):Prop:=∃xs d,∃e:Nat->Bool,((bM K H a xs/\bM K H c d)\/(aR K H a xs/\aR K H c d))
      /\(∀(i:Nat) u v,xs[i]?=some u->d[i]?=some v->DZ K H n u v (e i))/\b=((List.range (min xs.length d.length)).all e&&(xs.length==d.length))
section
variable {X:Cx}
theorem Gx{pins:List (Addr×Obj)}{σ:St}{H:Hp}{s:Shared}(I:Inv X pins σ H s){n:Nat}(L:∀(A:Around) {x y:V}{u v:Value}{b:Bool},DZ X.K H n x y b->A.units+n<cLine->RelV x u->RelV y v->SeqAt.EqAt A s u v b)
  {A:Around} {a c:Addr} {b:Bool} (h:XJ X.K H n a c b) (f:A.units+n+1<cLine):SeqAt.RcAt A s (.ref a) (.ref c) b/\SeqAt.RcNeAt A s (.ref a) (.ref c) (!b):=by
 obtain⟨g,k,e,d,M,rfl⟩:=h;rcases d with⟨m,n⟩|⟨m,n⟩
 ·obtain⟨d,o,h,p⟩:=I.tuple m;obtain⟨f,q,l,w⟩:=I.tuple n;have N:=o.length;have O:=q.length;have b:∀j (m:j<d.toArray.size) (n:j<f.toArray.size),SeqAt.EqAt A.in1 s d.toArray[j] f.toArray[j] (e j):=λj y z=>by
   have B:j<d.length:=by simpa using y
   have C:j<f.length:=by simpa using z
   obtain⟨D,r,E⟩:=o.get (i:=j) (x:=g[j]'(by lia)) (by simp);obtain⟨F,t,G⟩:=q.get (i:=j) (x:=k[j]'(by lia)) (by simp);have H:d.toArray[j]=D:=by
    have:=cE B;rw[this]at r;simpa using Option.some.inj r
   have J:f.toArray[j]=F:=by
    have:=cE C;rw[this]at t;simpa using Option.some.inj t
   rw[H,J];exact L A.in1 (M j _ _ (by simp) (by simp)) (by rw[in1_units];lia) E G
  have u:=SeqAt.RcAt.tuples (A:=A) (show s.heap.IsTuple a d.toArray from h) (show s.heap.IsTuple c f.toArray from l) (by lia) b;have v:=SeqAt.RcNeAt.tuples (A:=A) (show s.heap.IsTuple a d.toArray from h) (show s.heap.IsTuple c f.toArray from l) (by lia) b;have p:d.toArray.size=g.length:=by simp;lia
  have w:f.toArray.size=k.length:=by simp;lia
  rw[p,w]at u v;exact⟨u,v⟩
 ·obtain⟨d,o,h,p⟩:=I.list m;obtain⟨f,q,l,w⟩:=I.list n;have N:=o.length;have O:=q.length;by_cases a:g.length=k.length
  ·have c:d.toArray.size=f.toArray.size:=by simp;lia
   have b:∀j (m:j<d.toArray.size) (n:j<f.toArray.size),SeqAt.EqAt A.in1 s d.toArray[j] f.toArray[j] (e j):=λj y z=>by
    have B:j<d.length:=by simpa using y
    have C:j<f.length:=by simpa using z
    obtain⟨D,r,E⟩:=o.get (i:=j) (x:=g[j]'(by lia)) (by simp);obtain⟨F,t,G⟩:=q.get (i:=j) (x:=k[j]'(by lia)) (by simp);have H:d.toArray[j]=D:=by
     have:=cE B;rw[this]at r;simpa using Option.some.inj r
    have J:f.toArray[j]=F:=by
     have:=cE C;rw[this]at t;simpa using Option.some.inj t
    rw[H,J];exact L A.in1 (M j _ _ (by simp) (by simp)) (by rw[in1_units];lia) E G
   have u:=SeqAt.RcAt.lists (A:=A) h.isList l.isList c (by lia) b;have v:=SeqAt.RcNeAt.lists (A:=A) h.isList l.isList c (by lia) b;have p:d.toArray.size=g.length:=by simp;lia
   have b:((List.range (min g.length k.length)).all e&&(g.length==k.length))=(List.range g.length).all e:=by rw[a];simp
   rw[p]at u v;rw[b];exact⟨u,v⟩
  ·have c:(d.toArray.size != f.toArray.size)=true:=by simp;lia
   have b:((List.range (min g.length k.length)).all e&&(g.length==k.length))=false:=by simp[a]
   rw[b];calc⟨SeqAt.RcAt.lists_lengths h.isList l.isList c (by lia),SeqAt.RcNeAt.lists_lengths h.isList l.isList c (by lia)⟩
theorem Gy{pins:List (Addr×Obj)}{σ:St}{H:Hp}{s:Shared}(I:Inv X pins σ H s):∀(n:Nat) (A:Around) {x y:V}{u v:Value}{b:Bool},DZ X.K H n x y b->A.units+n<cLine->RelV x u->RelV y v->SeqAt.EqAt A s u v b
 |0,_,_,_,_,_,_,h,_,_,_=>h.elim
 |n+1,A,x,y,u,v,b,h,r,k,l=>by
  rcases h with⟨a,rfl,rfl,rfl⟩|⟨f,g,rfl⟩|⟨a,p,f,rfl,i,rfl⟩|⟨a,p,f,rfl,i,rfl⟩|⟨a,c,p,q,rfl,rfl,i,rfl⟩|⟨a,c,p,q,e,rfl,rfl,w,i,z,B⟩
  ·cases k;cases l;exact SeqAt.EqAt.same _
  ·exact zc k l f g
  ·cases l;rcases i with i | i
   ·obtain⟨j,m,d,o⟩:=I.tuple i
    cases x<;>first|calc absurd (show false=true from f) V'|skip
    ·cases k;exact SeqAt.EqAt.none_tuple (show s.heap.IsTuple a j.toArray from d) (by lia)
    ·cases k;exact SeqAt.EqAt.bool_tuple _ (show s.heap.IsTuple a j.toArray from d) (by lia)
    ·obtain⟨t,rfl⟩:=k;exact SeqAt.EqAt.int_tuple _ _ (show s.heap.IsTuple a j.toArray from d) (by lia)
    ·obtain⟨t,rfl⟩:=k;exact SeqAt.EqAt.str_tuple _ _ (show s.heap.IsTuple a j.toArray from d) (by lia)
   ·obtain⟨j,m,d,o⟩:=I.list i
    cases x<;>first|calc absurd (show false=true from f) V'|skip
    ·cases k;exact SeqAt.EqAt.none_list d.isList (by lia)
    ·cases k;exact SeqAt.EqAt.bool_list _ d.isList (by lia)
    ·obtain⟨t,rfl⟩:=k;exact SeqAt.EqAt.int_list _ _ d.isList (by lia)
    ·obtain⟨t,rfl⟩:=k;exact SeqAt.EqAt.str_list _ _ d.isList (by lia)
  ·cases k;rcases i with i | i
   ·obtain⟨j,m,d,o⟩:=I.tuple i
    cases y<;>first|calc absurd (show false=true from f) V'|skip
    ·cases l;exact SeqAt.EqAt.tuple_none (show s.heap.IsTuple a j.toArray from d) (by lia)
    ·cases l;exact SeqAt.EqAt.tuple_bool _ (show s.heap.IsTuple a j.toArray from d) (by lia)
    ·obtain⟨t,rfl⟩:=l;exact SeqAt.EqAt.tuple_int _ _ (show s.heap.IsTuple a j.toArray from d) (by lia)
    ·obtain⟨t,rfl⟩:=l;exact SeqAt.EqAt.tuple_str _ _ (show s.heap.IsTuple a j.toArray from d) (by lia)
   ·obtain⟨j,m,d,o⟩:=I.list i
    cases y<;>first|calc absurd (show false=true from f) V'|skip
    ·cases l;exact SeqAt.EqAt.list_none d.isList (by lia)
    ·cases l;exact SeqAt.EqAt.list_bool _ d.isList (by lia)
    ·obtain⟨t,rfl⟩:=l;exact SeqAt.EqAt.list_int _ _ d.isList (by lia)
    ·obtain⟨t,rfl⟩:=l;exact SeqAt.EqAt.list_str _ _ d.isList (by lia)
  ·cases k
   cases l;rcases i with⟨f,g⟩|⟨f,g⟩
   ·obtain⟨j,m,d,o⟩:=I.tuple f;obtain⟨r,t,h,C⟩:=I.list g;exact SeqAt.EqAt.tuple_list (show s.heap.IsTuple a j.toArray from d) h.isList (by lia)
   ·obtain⟨j,m,d,o⟩:=I.list f;obtain⟨r,t,h,C⟩:=I.tuple g;exact SeqAt.EqAt.list_tuple d.isList (show s.heap.IsTuple c r.toArray from h) (by lia)
  ·cases k
   cases l;calc SeqAt.EqAt.of_refs w (Gx I (λA {x y u v b}=>Gy I n A) ⟨p,q,e,i,z,B⟩ (by lia)).1
def Pp(K:W.Frag):R2:=λx y H Q=>∃a c b,x=.ref a/\y=.ref c/\XJ K H 19 a c b/\Q (.bl b) H
def Ur(K:W.Frag):R2:=λx y H Q=>∃a c b,x=.ref a/\y=.ref c/\XJ K H 19 a c b/\Q (.bl (!b)) H
theorem KD(i:X.A.units+64<cLine):gJ X (compareOp .Eq) (Pp X.K):=by
 intro d s σ H x y v u Q I e f h;obtain⟨a,c,b,rfl,rfl,g,q⟩:=h
 cases e
 cases f;calc(Gx I (λA {x y u v b}=>Gy I 19 A) (A:=X.A) g (by lia)).1 X.prog X.w X.xe _ ⟨.bl b,H,I,rfl,q⟩
end
inductive sM:DV->Prop
 |bD:sM .bD
 |int (i:Int):sM (.int i)
 |str (x:Str):sM (.str x)
 |tup {ds:List DV}:(∀e∈ds,sM e)->sM (.tup ds)
 |lst {ds:List DV}:(∀e∈ds,sM e)->sM (.lst ds)
theorem DZ.mono{K:W.Frag}{H:Hp}:∀{n:Nat}{x y:V}{b:Bool},DZ K H n x y b->∀{m:Nat},n<=m->DZ K H m x y b
 |0,_,_,_,h,_,_=>h.elim
 |n+1,x,y,b,h,m,a=>by
  obtain⟨k,rfl⟩:∃k,m=k+1:=⟨m-1,by lia⟩
  rcases h with h|h|h|h|h|⟨a,c,b,d,e,f,g,j,k,l,m⟩
  ·exact .inl h
  ·exact .inr (.inl h)
  ·exact .inr (.inr (.inl h))
  ·exact .inr (.inr (.inr (.inl h)))
  ·exact .inr (.inr (.inr (.inr (.inl h))))
  ·calc .inr (.inr (.inr (.inr (.inr ⟨a,c,b,d,e,f,g,j,k,λi u v p q=>(l i u v p q).mono (by lia),m⟩))))
theorem KG{H:Hp}{n:Nat}{x:V}{d:DV}(h:HD H n x d):∀{m:Nat}{d':DV},HD H m x d'->d=d':=by
 induction h with
 |bD=>intro m d' h;cases h;rfl
 |bl b=>intro m d' h;cases h;rfl
 |int i=>intro m d' h;cases h;rfl
 |str x=>intro m d' h;cases h;rfl
 | @tup n a f g e l i k=>
  intro m d' h
  cases h with
  | @tup m _ q o c r p=>
   rw[e]at c
   cases c;congr 1;apply aa2 (by lia);intro j s t;have u:j<f.length:=by lia
   calc k j f[j] g[j] (by simp) (by simp) (p j f[j] o[j] (by simp) (by simp))
  |lst c=>rw[e]at c;cases c
  |dict c=>rw[e]at c;cases c
 | @lst n a f g e l i k=>
  intro m d' h
  cases h with
  | @lst m _ q o c r p=>
   rw[e]at c
   cases c;congr 1;apply aa2 (by lia);intro j s t;have u:j<f.length:=by lia
   calc k j f[j] g[j] (by simp) (by simp) (p j f[j] o[j] (by simp) (by simp))
  |tup c=>rw[e]at c;cases c
  |dict c=>rw[e]at c;cases c
 |dict e=>
  intro m d' h
  cases h with
  |tup c=>rw[e]at c;cases c
  |lst c=>rw[e]at c;cases c
  |dict _=>rfl
theorem all_eq{a b:List DV}(f:∀(i:Nat) u v,a[i]?=some u->b[i]?=some v->e i=true->u=v)(h:((List.range (min a.length b.length)).all e&&(a.length==b.length))=true):a=b:=by
 rw[Bool.and_eq_true]at h;obtain⟨d,c⟩:=h;have c:a.length=b.length:=by simpa using c
 apply aa2 c;intro j a b;calc f j _ _ (by simp) (by simp) ?_;rw[List.all_eq_true]at d;calc d j (by simp;lia)
theorem CP{a:List DV}(b:∀i,i<a.length->e i=true):((List.range (min a.length a.length)).all e&&(a.length==a.length))=true:=by
 simp;calc b
theorem lB{K:W.Frag}{H:Hp}{n m:Nat}{x y:V}{d d':DV}(h:HD H 0 x d)(h':HD H m y d')(a:sM d)(c:sM d')(f:fZ x=true):∃b,DZ K H (n+1) x y b/\(b=true↔d=d'):=by
 cases h<;>cases h'<;>first
  |(calc⟨_,.inr (.inl ⟨rfl,rfl,rfl⟩),?_⟩;simp[DP];done)
  |(rename_i e _ _;calc⟨false,.inr (.inr (.inl ⟨_,_,rfl,rfl,.inl (bM.of e),rfl⟩)),by simp⟩)
  |(rename_i e _ _;calc⟨false,.inr (.inr (.inl ⟨_,_,rfl,rfl,.inr (aR.of e),rfl⟩)),by simp⟩)
  |(exfalso;cases a;done)
  |(exfalso;cases c;done)
theorem vF{K:W.Frag}{H:Hp}:∀(n:Nat) {x y:V}{d d':DV}{m:Nat},HD H n x d->HD H m y d'->sM d->sM d'->∃b,DZ K H (n+1) x y b/\(b=true↔d=d'):=by
 have A:∀{k m:Nat} {g s:List V} {t w:List DV},(∀{x y:V} {d d':DV} {m:Nat},HD H k x d->HD H m y d'->sM d->sM d'->∃b,DZ K H (k + 1) x y b/\(b=true↔d=d'))->g.length=t.length->s.length=w.length->
   (∀(i:Nat) u e,g[i]?=some u->t[i]?=some e->HD H k u e)->(∀(i:Nat) u e,s[i]?=some u->w[i]?=some e->HD H m u e)->(∀e∈t,sM e)->(∀e∈w,sM e)->
   ∃e:Nat->Bool,(∀(i:Nat) u v,g[i]?=some u->s[i]?=some v->DZ K H (k+1) u v (e i))/\(((List.range (min g.length s.length)).all e&&(g.length==s.length))=true↔t=w):=by
  intro k m g s t w G l C i D o r;have F:∀j:Nat,∃b:Bool,(∀u v,g[j]?=some u->s[j]?=some v->DZ K H (k+1) u v b)/\(∀u v,t[j]?=some u->w[j]?=some v->(b=true↔u=v)):=by
   intro j;by_cases I:j<g.length/\j<s.length
   ·obtain⟨Q,R⟩:=I;have O:j < t.length:=by lia
    have P:j<w.length:=by lia
    obtain⟨b,S,T⟩:=G (i j g[j] t[j] (by simp) (by simp)) (D j s[j] w[j] (by simp) (by simp)) (o _ (aai O)) (r _ (aai P));refine⟨b,λu v p q=>?_,λu v p q=>?_⟩
    ·rw[cE Q]at p;rw[cE R]at q;cases p;cases q;exact S
    ·rw[cE O]at p;rw[cE P]at q;cases p;cases q;exact T
   ·refine⟨true,λu v p q=>?_,λu v p q=>?_⟩
    ·exact absurd ⟨(List.getElem?_eq_some_iff.mp p).1,(List.getElem?_eq_some_iff.mp q).1⟩ I
    ·exact absurd ⟨by rw[l];calc(List.getElem?_eq_some_iff.mp p).1,by rw[C];calc(List.getElem?_eq_some_iff.mp q).1⟩ I
  obtain⟨e,J⟩:=Classical.axiomOfChoice F;refine⟨e,λi u v p q=>(J i).1 u v p q,λh=>?_,λh=>?_⟩
  ·rw[l,C]at h;exact all_eq (λi u v p q=>((J i).2 u v p q).mp) h
  ·subst h;rw[l,C];calc CP λi b=>?_;exact((J i).2 t[i] t[i] (by simp) (by simp)).mpr rfl
 intro n;induction n with
 |zero=>
  intro x y d d' m h B o r
  cases h with
  |bD=>calc lB .bD B o r rfl
  |int j=>calc lB (.int j) B o r rfl
  |str j=>calc lB (.str j) B o r rfl
  |bl _=>cases o
  |dict _=>cases o
 |succ n G=>
  intro x y d d' m h B o r;by_cases L:∃a,x=.ref a/\y=.ref a
  ·obtain⟨a,rfl,rfl⟩:=L;exact⟨true,.inl ⟨a,rfl,rfl,rfl⟩,by simp[KG h B]⟩
  cases h with
  | @tup _ a g t e l i=>
   cases o with
   |tup o=>
   cases B with
   | @tup m c s w E C D=>
    cases r with
    |tup r=>
    obtain⟨f,M,N⟩:=A G l C i D o r;calc⟨_,.inr (.inr (.inr (.inr (.inr ⟨a,c,g,s,f,rfl,rfl,λz=>L ⟨a,rfl,by rw[z]⟩,.inl ⟨bM.of e,bM.of E⟩,M,rfl⟩)))),N.trans (by simp)⟩
   | @lst m c s w E C D=>calc⟨false,.inr (.inr (.inr (.inr (.inl ⟨a,c,g,s,rfl,rfl,.inl ⟨bM.of e,aR.of E⟩,rfl⟩)))),by simp⟩
   |dict _=>cases r
   |bl _=>cases r
   |bD=>calc⟨false,.inr (.inr (.inr (.inl ⟨a,g,rfl,rfl,.inl (bM.of e),rfl⟩))),by simp⟩
   |int j=>calc⟨false,.inr (.inr (.inr (.inl ⟨a,g,rfl,rfl,.inl (bM.of e),rfl⟩))),by simp⟩
   |str j=>calc⟨false,.inr (.inr (.inr (.inl ⟨a,g,rfl,rfl,.inl (bM.of e),rfl⟩))),by simp⟩
  | @lst _ a g t e l i=>
   cases o with
   |lst o=>
   cases B with
   | @lst m c s w E C D=>
    cases r with
    |lst r=>
    obtain⟨f,M,N⟩:=A G l C i D o r;calc⟨_,.inr (.inr (.inr (.inr (.inr ⟨a,c,g,s,f,rfl,rfl,λz=>L ⟨a,rfl,by rw[z]⟩,.inr ⟨aR.of e,aR.of E⟩,M,rfl⟩)))),N.trans (by simp)⟩
   | @tup m c s w E C D=>calc⟨false,.inr (.inr (.inr (.inr (.inl ⟨a,c,g,s,rfl,rfl,.inr ⟨aR.of e,bM.of E⟩,rfl⟩)))),by simp⟩
   |dict _=>cases r
   |bl _=>cases r
   |bD=>calc⟨false,.inr (.inr (.inr (.inl ⟨a,g,rfl,rfl,.inr (aR.of e),rfl⟩))),by simp⟩
   |int j=>calc⟨false,.inr (.inr (.inr (.inl ⟨a,g,rfl,rfl,.inr (aR.of e),rfl⟩))),by simp⟩
   |str j=>calc⟨false,.inr (.inr (.inr (.inl ⟨a,g,rfl,rfl,.inr (aR.of e),rfl⟩))),by simp⟩
  |dict _=>cases o
  |bl _=>cases o
  |bD=>calc(lB (n:=n+1) .bD B o r rfl)
  |int j=>calc(lB (n:=n+1) (.int j) B o r rfl)
  |str j=>calc(lB (n:=n+1) (.str j) B o r rfl)
end L2
namespace L2
open PySem
variable {H:Hp}{σ:St}
theorem cY{t u:TS}{D:Ends}(h:∀N:St->Hp->Prop,N=u D->t {D with nx:=N} σ H):Cd t u D σ H:=h _ rfl
theorem qL{c:TT}{t u:TS}{D:Ends}(h:∀T U:St->Hp->Prop,T=t D->U=u D->c σ H λb a=>if b=true then T σ a else U σ a):yM c t u D σ H:=h _ _ rfl rfl
theorem Pq{i:Nat}{v:V}{Q:St->Hp->Prop}(h:Q (σ.set i (some v)) H):gX i v σ H Q:=h
theorem da{N M:St->Hp->Prop}(e:N=M)(h:M σ H):N σ H:=e▸h
end L2
namespace DD
open PySem L2
variable {x:Addr}{Z:Addr->Prop}{o:HO}{H H' H1:Hp}{vs:List V}
structure MD where
 M:Int
 ns:List Int
 row:List Int
 ds:List bF
structure Good(M:Int)(ns row:List Int)(ds:List bF):Prop where
 m2:2<=M
 Z6:M<=1000000000000
 l1:1<=ns.length
 l4:ns.length<=4
 r12:row.length<=12
 bn:∀z∈ns,0<=z/\z<M
 br:∀z∈row,0<=z/\z<M
 XM:ds.length<=24
 ok:∀d∈ds,d.ok ns.length
abbrev MD.good(d:MD):Prop:=Good d.M d.ns d.row d.ds
instance:Inhabited MD:=⟨⟨0,[],[],[]⟩⟩
noncomputable def jE (Z:Addr->Prop) (H:Hp):Hp:=λx=> @ite _ (Z x) (Classical.propDecidable _) (some (.own 0)) (H x)
theorem gM(h:¬Z x):jE Z H x=H x:=by unfold jE;rw[if_neg h]
theorem zC(h:Z x):jE Z H x=some (.own 0):=by unfold jE;rw[if_pos h]
theorem dG(h:jE Z H x=some o)(b:∀k,o≠.own k):¬Z x/\H x=some o:=by
 by_cases a:Z x
 ·rw[zC a]at h;cases h;exact absurd rfl (b 0)
 ·rw[gM a]at h;calc⟨a,h⟩
theorem KH(h:Z x):jE Z (upd H x o)=jE Z H:=by
 funext b;by_cases a:Z b
 ·rw[zC a,zC a]
 ·rw[gM a,gM a,ay (λe:b=x=>a (e▸h))]
def Cv(H H':Hp):Prop:=∀b o,H b=some o->(∀k,o≠.own k)->H' b=some o
theorem Cv.refl(H:Hp):Cv H H:=λ_ _ e _=>e
theorem Cv.trans{c:Hp}(a:Cv H H1)(b:Cv H1 c):Cv H c:=λc o e n=>b c o (a c o e n) n
theorem _root_.L2.av.cv(s:av H H'):Cv H H':=λb o e _=>s b o e
def soft:HO->Prop
 | .lst _=>True
 | .dK _=>True
 |_=>False
def Fr(Z:Addr->Prop)(H H':Hp):Prop:=∀b o,H b=some o->(Z b->¬soft o)->H' b=some o
theorem Fr.refl:Fr Z H H:=λ_ _ e _=>e
theorem Fr.trans{c:Hp}(a:Fr Z H H1)(b:Fr Z H1 c):Fr Z H c:=λc o e n=>b c o (a c o e n) n
theorem _root_.L2.av.fr(s:av H H'):Fr Z H H':=λb o e _=>s b o e
theorem Fr.at(a:Fr Z H H'){b:Addr}{o:HO}(e:H b=some o)(h:¬Z b):H' b=some o:=a b o e λz=>absurd z h
theorem Fr.lJ(a:Fr Z H H'){b:Addr}{o:HO}(e:H b=some o)(h:¬soft o):H' b=some o:=a b o e λ_=>h
theorem Fr.upd(a:Fr Z H H1){x:Addr}{o u:HO}(h:Z x)(d:H1 x=some u)(f:soft u):Fr Z H (upd H1 x o):=λc v e n=>by
 by_cases z:c=x
 ·subst z;have b:=a c v e n;rw[d] at b
  cases b;exact absurd f (n h)
 ·rw[ay z];calc a c v e n
theorem Fr.new(a:Fr Z H H1){x:Addr}{o:HO}(h:H1 x=none):Fr Z H (L2.upd H1 x o):=a.trans (av.new o h).fr
theorem Fr.mono{c:Addr->Prop}(a:Fr Z H H1)(h:∀b,Z b->c b):Fr c H H1:=λc o e n=>a c o e λz=>n (h c z)
theorem Fr.aS(h:Fr Z H H'):bS H H':=λb a e=>h b _ e λ_=>id
theorem Fr.jE(h:Fr Z H H'):Cv (jE Z H) (jE Z H'):=λb o e n=>by
 obtain⟨a,b⟩:=dG e n;rw[gM a];calc h.at b a
theorem Fr.free{Z:Addr->Prop}{H H':Hp}(h:Fr Z H H')(a:∀b,Z b->H' b≠none){b:Addr}(e:H' b=none):H b=none:=by
 cases c:H b with
 |none=>rfl
 |some o=>
  by_cases z:Z b
  ·exact absurd e (a b z)
  ·rw[h.at c z]at e;cases e
theorem eA:Cv (jE Z H) H:=λb o e n=>(dG e n).2
theorem Cv.aS(h:Cv H H'):bS H H':=λb a e=>h b _ e (λk z=>by cases z)
theorem _root_.L2.HD.cv{H H':Hp}(s:Cv H H'){n:Nat}{x:V}{d:DV}(h:HD H n x d):HD H' n x d:=by
 induction h with
 |bD=>calc .bD
 |bl b=>calc .bl b
 |int i=>calc .int i
 |str x=>calc .str x
 |tup e l i a=>calc .tup (s _ _ e (λk z=>by cases z)) l a
 |lst e l i a=>calc .lst (s _ _ e (λk z=>by cases z)) l a
 |dict e=>calc .dict (s _ _ e (λk z=>by cases z))
def dP(H:Hp)(n:Nat)(vs:List V)(a:List DV):Prop:=vs.length=a.length/\∀(i:Nat) v d,vs[i]?=some v->a[i]?=some d->HD H n v d
theorem dP.cv(s:Cv H H'){n:Nat}{vs:List V}{a:List DV}(h:dP H n vs a):dP H' n vs a:=⟨h.1,λi v d a b=>(h.2 i v d a b).cv s⟩
theorem dP.nil{n:Nat}:dP H n [] []:=⟨rfl,λi v d a=>by simp at a⟩
theorem dP.mono{n m:Nat}{a:List DV}(h:dP H n vs a)(c:n<=m):dP H m vs a:=⟨h.1,λi v d a b=>(h.2 i v d a b).mono c⟩
theorem dP.app{n:Nat}{us:List V}{a b:List DV}(h:dP H n vs a)(g:dP H n us b):dP H n (vs++us) (a++b):=by
 calc⟨by simp[h.1,g.1],λi v d a b=>?_⟩;by_cases c:i<vs.length
 ·rw[List.getElem?_append_left c]at a;rw[List.getElem?_append_left (by rw[<-h.1];calc c)]at b;exact h.2 i _ _ a b
 ·rw[List.getElem?_append_right (by lia)]at a;rw[List.getElem?_append_right (by rw[<-h.1];lia),<-h.1]at b;calc g.2 _ _ _ a b
theorem dP.one{H:Hp}{n:Nat}{v:V}{d:DV}(h:HD H n v d):dP H n [v] [d]:=by
 refine⟨rfl,λi u e a b=>?_⟩
 cases i with
 |zero=>simp at a b;subst a b;calc h
 |succ i=>simp at a
theorem dP.set{n:Nat}{c:List DV}{v:V}{d:DV}(h:dP H n vs c)(g:HD H n v d)(k:Nat):dP H n (vs.set k v) (c.set k d):=by
 calc⟨by simp[h.1],λi u e a b=>?_⟩;rw[List.getElem?_set]at a b;by_cases f:k=i
 ·rw[if_pos f] at a b;split at a
  ·rw[if_pos (by rw[<-h.1];assumption)]at b;cases a;cases b;exact g
  ·cases a
 ·rw[if_neg f]at a b;calc h.2 i u e a b
theorem dP.ints{H:Hp}{n:Nat}(c:List Int):dP H n (c.map V.int) (c.map DV.int):=by
 calc⟨by simp,λi v d a b=>?_⟩;rw[List.getElem?_map]at a b
 cases e:c[i]? with
 |none=>rw[e]at a;cases a
 |some z=>rw[e]at a b;cases a;cases b;calc .int z
theorem dP.ko{n:Nat}{a:List Int}(h:dP H n vs (a.map DV.int)):vs=a.map V.int:=by
 apply aa2 (by simpa using h.1);intro j d b;have c:j<a.length:=by simpa using b
 have:=h.2 j vs[j] (.int a[j]) (by simp) (by simp[c]);simp only[List.getElem_map];generalize vs[j]=y at this
 cases this;rfl
theorem dP.get{n:Nat}{a:List DV}(h:dP H n vs a){i:Nat}{d:DV}(e:a[i]?=some d):∃v,vs[i]?=some v/\HD H n v d:=by
 have b:i<a.length:=(List.getElem?_eq_some_iff.mp e).1;have a:i<vs.length:=by rw[h.1];exact b
 calc⟨vs[i],by simp,h.2 i _ _ (by simp) e⟩
inductive CO where
 |l (ds:List DV)|d (g:Int->Option DV) (n:Nat)
def OR(H:Hp):CO->HO->Prop
 | .l a,.lst vs=>dP H 4 vs a
 | .d g n,.dK a=>a.length<=n/\∀k:Int,match g k with
  |none=>eY a (Sum.inl k)=none
  |some d=>∃v,eY a (Sum.inl k)=some v/\HD H 4 v d
 |_,_=>False
theorem OR.cv{H H':Hp}(s:Cv H H'){c:CO}{o:HO}(h:OR H c o):OR H' c o:=by
 cases c with
 |l a=>
  cases o with
  |lst vs=>calc dP.cv s h
  |_=>calc aam h
 |d g n=>
  cases o with
  |dK a=>
   calc⟨h.1,λk=>?_⟩;have:=h.2 k;revert this
   cases g k with
   |none=>calc id
   |some d=>calc λ⟨v,e,a⟩=>⟨v,e,a.cv s⟩
  |_=>calc aam h
def FP(n:Nat->Nat)(ad:Nat->Nat->Addr)(b:Addr):Prop:=∃t i,i<n t/\b=ad t i
structure dO(F:Addr->Prop)(H:Hp)(n:Nat->Nat)(ad:Nat->Nat->Addr)(ct:Nat->Nat->CO):Prop where
 inj:∀t i t' i',i<n t->i'<n t'->ad t i=ad t' i'->t=t'/\i=i'
 out:∀t i,i<n t->¬F (ad t i)
 D7:∀t i,i<n t->∃o,H (ad t i)=some o/\OR (jE (λb=>F b\/FP n ad b) H) (ct t i) o
def setC(ct:Nat->Nat->CO)(t i:Nat)(c:CO):Nat->Nat->CO:=λt' a=>if t'=t/\a=i then c else ct t' a
section
variable {F:Addr->Prop}{H H':Hp}{n:Nat->Nat}{ad:Nat->Nat->Addr}{ct ct':Nat->Nat->CO}
theorem dO.keep(h:dO F H n ad ct)(a:Fr F H H'):dO F H' n ad ct:=
 ⟨h.inj,h.out,λt i c=>by
  obtain⟨o,e,r⟩:=h.D7 t i c;calc⟨o,a.at e (h.out t i c),r.cv (a.mono λb z=>.inl z).jE⟩⟩
theorem dO.same(h:dO F H n ad ct)(s:av H H'):dO F H' n ad ct:=h.keep s.fr
theorem dO.congr(h:dO F H n ad ct)(e:∀t i,i<n t->ct t i=ct' t i):dO F H n ad ct':=
 ⟨h.inj,h.out,λt i a=>by rw[<-e t i a];calc h.D7 t i a⟩
theorem dO.upd(h:dO F H n ad ct){t i:Nat}(a:i<n t){c:CO}{o:HO}(r:OR (jE (λb=>F b\/FP n ad b) H) c o):dO F (upd H (ad t i) o) n ad (setC ct t i c):=by
 have c:(λb=>F b\/FP n ad b) (ad t i):=.inr ⟨t,i,a,rfl⟩;calc⟨h.inj,h.out,λd f g=>?_⟩;rw[KH c];by_cases e:d=t/\f=i
 ·obtain⟨rfl,rfl⟩:=e;exact⟨o,af,by unfold setC;rw[if_pos ⟨rfl,rfl⟩];calc r⟩
 ·obtain⟨b,c,i⟩:=h.D7 d f g;calc⟨b,?_,by unfold setC;rw[if_neg e];calc i⟩;rw[ay (λz=>e (h.inj _ _ _ _ g a z))];calc c
theorem dO.lst(h:dO F H n ad ct){t i:Nat}(c:i<n t){a:List DV}(e:ct t i=.l a):∃vs,H (ad t i)=some (.lst vs)/\dP (jE (λb=>F b\/FP n ad b) H) 4 vs a:=by
 obtain⟨o,d,r⟩:=h.D7 t i c;rw[e]at r
 cases o with
 |lst vs=>calc⟨vs,d,r⟩
 |_=>calc r.elim
theorem dO.Z7(h:dO F H n ad ct){t i:Nat}(c:i<n t){g:Int->Option DV}{N:Nat}(e:ct t i=.d g N):∃a,H (ad t i)=some (.dK a)/\OR (jE (λb=>F b\/FP n ad b) H) (.d g N) (.dK a):=by
 obtain⟨o,f,r⟩:=h.D7 t i c;rw[e]at r
 cases o with
 |dK vs=>calc⟨vs,f,r⟩
 |_=>calc r.elim
theorem dO.app(h:dO F H n ad ct){t i:Nat}(a:i<n t){c:List DV}(e:ct t i=.l c){vs:List V}(j:H (ad t i)=some (.lst vs)){us:List V}{d:List DV}(g:dP (jE (λb=>F b\/FP n ad b) H) 4 us d):
  dO F (L2.upd H (ad t i) (.lst (vs++us))) n ad (setC ct t i (.l (c++d))):=by
 obtain⟨b,f,r⟩:=h.lst a e;rw[j]at f
 cases f;calc h.upd a (show dP _ 4 _ _ from r.app g)
theorem dO.set(h:dO F H n ad ct){t i:Nat}(a:i<n t){c:List DV}(e:ct t i=.l c){vs:List V}(j:H (ad t i)=some (.lst vs)){k:Nat}{v:V}{d:DV}(g:HD (jE (λb=>F b\/FP n ad b) H) 4 v d):
  dO F (L2.upd H (ad t i) (.lst (vs.set k v))) n ad (setC ct t i (.l (c.set k d))):=by
 obtain⟨b,f,r⟩:=h.lst a e;rw[j]at f
 cases f;calc h.upd a (show dP _ 4 _ _ from r.set g k)
theorem OR.soft{c:CO}(h:OR H c o):soft o:=by
 cases c<;>cases o<;>first|trivial|calc aam h
theorem dO.soft(h:dO F H n ad ct){t i:Nat}(a:i<n t):∃o,H (ad t i)=some o/\DD.soft o:=by
 obtain⟨o,e,r⟩:=h.D7 t i a;calc⟨o,e,r.soft⟩
theorem dO.fp(h:dO F H n ad ct){b:Addr}(a:FP n ad b):∃o,H b=some o/\DD.soft o:=by
 obtain⟨t,i,c,rfl⟩:=a;calc h.soft c
theorem dO.ne(h:dO F H n ad ct){b:Addr}{o:HO}(e:H b=some o)(c:¬DD.soft o):¬FP n ad b:=λz=>by
 obtain⟨u,a,d⟩:=h.fp z;rw[e]at a;cases a;calc c d
theorem dO.ht(h:dO F H n ad ct)(c:∀b,F b->∃o,H b=some o/\DD.soft o){m:Nat}{x:V}{d:DV}(g:HT H m x d):HD (DD.jE (λb=>F b\/FP n ad b) H) m x d:=by
 calc HT.hd (g.aK λb d e=>?_);rw[gM]
 ·exact e
 ·rintro(z | z)
  ·obtain⟨o,a,f⟩:=c b z;rw[e]at a;cases a;exact f
  ·calc h.ne e id z
end
end DD
namespace DD
open PySem L2
variable {B i:Nat}
def _root_.List.bI{α:Type}(l:List α)(d:α):α:=l.getD (l.length-1) d
theorem getD_at{α:Type}{l:List α}{x d:α}(h:l[i]?=some x):l.getD i d=x:=by rw[List.getD_eq_getElem?_getD,h];rfl
theorem bt{α:Type}{l:List α}{d:α}(h:i<l.length):l[i]?=some (l.getD i d):=by rw[List.getD_eq_getElem?_getD,cE h];rfl
theorem getD_mem{α:Type}{l:List α}{d:α}(h:i<l.length):l.getD i d∈l:=Y' (bt h)
theorem rQ{α:Type}{l:List α}{x d:α}:(l++[x]).bI d=x:=by
 unfold List.bI;calc getD_at (by simp)
theorem ib{α:Type}{l:List α}{d:α}(h:1<=l.length):l.bI d∈l:=getD_mem (by lia)
theorem nK{α:Type}{l:List α}{d:α}(h:1<=l.length):l[l.length-1]?=some (l.bI d):=bt (by lia)
structure MS where
 gC:List (List Int×List Int)
 wp:List (List Int)
 hr:List (List Int)
structure WY where
 say:List Int
 snd:List (Option (Int×Int))
 dy:List (Option (Int×Int))
structure RS where
 picks:List (Int×Int)
 mm:Nat->MS
 ww:Nat->WY
structure NT where
 ms:List MD
 ws:List (Int×Int×Str)
def pairD(p:Int×Int):DV:=.tup [.int p.1,.int p.2]
def nh:Option (Int×Int)->DV
 |none=>.bD
 |some p=>pairD p
def rR(s:List Int×List Int):DV:=yE s.1 s.2
def NT.M(n:NT)(m:Nat):Int:=(n.ms.getD m default).M
def NT.nn(n:NT)(m:Nat):Nat:=(n.ms.getD m default).ns.length
def NT.ds(n:NT)(m:Nat):List bF:=(n.ms.getD m default).ds
def NT.w(n:NT)(w:Nat):Int×Int×Str:=n.ws.getD w (0,0,"")
def NT.outs(n:NT)(m:Int):List Nat:=(List.range n.ws.length).filter λi=>decide ((n.w i).1=m)
def NT.ins(n:NT)(m:Int):List Nat:=(List.range n.ws.length).filter λi=>decide ((n.w i).2.1=m)
def NT.goal(n:NT)(w:Nat):Nat:=(n.w w).2.1.toNat
def NT.place(n:NT)(w:Nat):Nat:=(n.ins (n.w w).2.1).idxOf w
def RS.put(r:RS)(w:Nat)(x:Int)(s:Option (Int×Int)):RS:=
 {r with ww:=λk=>if k=w then⟨(r.ww w).say++[x],(r.ww w).snd++[s],(r.ww w).dy++[none]⟩ else r.ww k}
def RS.send(r:RS)(outs:List Nat)(ev:Int×Int):List (Int×Int)->RS
 | []=>r
 |p::a=>(if p.1.toNat<outs.length then r.put (outs.getD p.1.toNat 0) p.2 (some ev) else r).send outs ev a
def NT.work(n:NT)(r:RS)(w k:Nat):WS:=
 nJ (n.M (n.goal w)) (n.place w) ((r.ww w).say.getD k 0) (n.ds (n.goal w)) ((r.mm (n.goal w)).gC.bI ([],[])).1 ((r.mm (n.goal w)).gC.bI ([],[])).2
def NT.ev(n:NT)(r:RS)(w:Nat):Int×Int:=((n.goal w:Nat),((r.mm (n.goal w)).gC.length:Nat))
def NT.hV(n:NT)(r:RS)(w k:Nat):List Int:=
 let m:=n.goal w
 let a:=(r.mm m).hr.bI (List.replicate n.ms.length 0)
 let b:=match (r.ww w).snd.getD k none with
  |none=>a
  |some (s,c)=>List.zipWith max a ((r.mm s.toNat).hr.getD (c-1).toNat [])
 b.set m (n.ev r w).2
def RS.step(n:NT)(r:RS)(w k:Nat):RS:=
 let m:=n.goal w
 let res:=n.work r w k
 {picks:=r.picks++[((w:Int),(k:Int))]
  mm:=λi=>if i=m then⟨(r.mm m).gC++[(res.ns,res.row)],(r.mm m).wp++[(r.mm m).wp.bI []++res.words],(r.mm m).hr++[n.hV r w k]⟩ else r.mm i
  ww:=λi=>if i=w then {(r.ww w) with dy:=(r.ww w).dy.set k (some (n.ev r w))} else r.ww i}
def RS.pick(n:NT)(r:RS)(w k:Nat):RS:=(r.step n w k).send (n.outs (n.goal w)) (n.ev r w) (n.work r w k).cb
def RS.kq(r:RS):List (Int×Int)->RS
 | []=>r
 |p::a=>(r.put p.1.toNat p.2 none).kq a
def RS.new(n:NT):RS:=⟨[],λm=>⟨[((n.ms.getD m default).ns,(n.ms.getD m default).row)],[[]],[]⟩,λ_=>⟨[],[],[]⟩⟩
def RS.begin(n:NT)(a:List (Int×Int)):RS:=(RS.new n).kq a
def jR(l:List (Option (Int×Int)))(k:Int):Option DV:=if 0<=k then(l.getD k.toNat none).map pairD else none
def RS.ct(r:RS):Nat->Nat->CO
 |0,_=>.l (r.picks.map pairD)
 |1,m=>.l ((r.mm m).gC.map rR)
 |2,m=>.l ((r.mm m).wp.map λw=>.int (w.length:Nat))
 |3,m=>.l (((r.mm m).wp.bI []).map .int)
 |4,w=>.l ((r.ww w).say.map .int)
 |5,w=>.l ((r.ww w).snd.map nh)
 |_,w=>.l ((r.ww w).dy.map nh)
def NT.n(n:NT):Nat->Nat
 |0=>1
 |1=>n.ms.length
 |2=>n.ms.length
 |3=>n.ms.length
 |4=>n.ws.length
 |5=>n.ws.length
 |6=>n.ws.length
 |_=>0
structure NT.Ok(n:NT):Prop where
 Z9:n.ms.length<=5
 ms1:1<=n.ms.length
 CS:n.ws.length<=10
 good:∀d∈n.ms,d.good
 aaa:∀w∈n.ws,0<=w.1/\w.1<n.ms.length/\0<=w.2.1/\w.2.1<n.ms.length/\(w.2.2="row"\/w.2.2="heap")
structure KI(M:Int)(nn:Nat)(s:List Int×List Int):Prop where
 ln:s.1.length=nn
 bn:∀z∈s.1,0<=z/\z<M
 lr:s.2.length<=12
structure RS.Ok(n:NT)(r:RS):Prop where
 lw:∀m,m<n.ms.length->(r.mm m).gC.length=(r.mm m).wp.length
 lh:∀m,m<n.ms.length->(r.mm m).gC.length=(r.mm m).hr.length+1
 so:∀m,m<n.ms.length->∀s∈(r.mm m).gC,KI (n.M m) (n.nn m) s
 hl:∀m,m<n.ms.length->∀h∈(r.mm m).hr,h.length=n.ms.length
 ls:∀w,w<n.ws.length->(r.ww w).say.length=(r.ww w).snd.length
 lk:∀w,w<n.ws.length->(r.ww w).say.length=(r.ww w).dy.length
 sd:∀w,w<n.ws.length->∀s c,some (s,c)∈(r.ww w).snd->0<=s/\s<n.ms.length/\1<=c/\c<=(r.mm s.toNat).hr.length
 bp:∀m,m<n.ms.length->(r.mm m).gC.length<=r.picks.length+1
 bw:∀m,m<n.ms.length->∀w∈(r.mm m).wp,w.length<=24*r.picks.length
 bs:∀w,w<n.ws.length->(r.ww w).say.length<=20+24*r.picks.length
 Us:∀m,m<n.ms.length->∀u∈(r.mm m).wp,u <+:(r.mm m).wp.bI []
theorem xq{M way said:Int}{n:Int}:∀(f:Nat) (b:List bF) (s:WS),(∀d∈b,d.ok n)->(∀p∈s.cb,0<=p.1)->∀p∈(xl M way said f b s).cb,0<=p.1
 |0,_,s,_,h=>h
 |f+1,[],s,_,h=>h
 |f+1,d::r,s,c,h=>by
  calc xq f _ _ (λe b=>c e (aay _ (List.mem_of_mem_drop b))) ?_;intro p a;have a:p∈s.cb++bA ((d.vals.map (fN M way said s.ns s.row)).getD 0 0) d:=a;rcases List.mem_append.mp a with a|a
  ·exact h p a
  ·have g:=c d (aaB ..)
   cases d with
   |send j v=>
    simp only[bA,List.mem_singleton]at a;subst a;calc g.1
   |_=>simp only[bA,List.not_mem_nil]at a
theorem Br{M way said:Int}:∀(f:Nat) (a:List bF) (s:WS),(xl M way said f a s).cb.length<=s.cb.length+a.length/\(xl M way said f a s).words.length<=s.words.length+a.length/\(xl M way said f a s).ns.length=s.ns.length
 |0,_,s=>⟨aa1 ..,aa1 ..,rfl⟩
 |f+1,[],s=>⟨L' _,L' _,rfl⟩
 |f+1,d::r,s=>by
  obtain⟨a,b,c⟩:=Br (M:=M) (way:=way) (said:=said) f (r.drop (lS M way said d s).toNat) (fQ M way said d s);have a:(fQ M way said d s).cb.length<=s.cb.length+1:=by
   show(s.cb++bA _ d).length<=_
   cases d<;>simp[bA]
  have a:(fQ M way said d s).words.length<=s.words.length+1:=by
   show(s.words++aX _ d).length<=_
   cases d<;>simp[aX]
  have a:(fQ M way said d s).ns.length=s.ns.length:=bW;have a:(r.drop (lS M way said d s).toNat).length<=r.length:=by simp
  refine⟨?_,?_,?_⟩
  ·show(xl M way said f _ _).cb.length<=_;simp only[List.length_cons];lia
  ·show(xl M way said f _ _).words.length<=_;simp only[List.length_cons];lia
  ·show(xl M way said f _ _).ns.length=_;lia
theorem Bs{M way said:Int}(c:0<M):∀(f:Nat) (e:List bF) (s:WS),(∀z∈s.ns,0<=z/\z<M)->s.row.length<=12->(∀z∈(xl M way said f e s).ns,0<=z/\z<M)/\(xl M way said f e s).row.length<=12
 |0,_,s,h,g=>⟨h,g⟩
 |f+1,[],s,h,g=>⟨h,g⟩
 |f+1,d::r,s,h,g=>by
  refine Bs c f _ _ ?_ ?_
  ·have b:∀y:Int,0<=y % M/\y % M < M:=λy=>⟨aaE _ (by lia),aaC _ c⟩
   have a:∀(j:Nat) (y:Int),(0<=y/\y<M)->∀z∈s.ns.set j y,0<=z/\z<M:=λj y k z l=>by
    rcases List.mem_or_eq_of_mem_set l with c|c
    ·exact h z c
    ·rw[c];exact k
   show ∀z∈cS M s.ns ((d.vals.map (fN M way said s.ns s.row)).getD 0 0) d,0<=z/\z<M
   cases d with
   |set i v=>calc a _ _ (b _)
   |add i v=>calc a _ _ (b _)
   |times i v=>calc a _ _ (b _)
   |_=>exact h
  ·show(fO s.row ((d.vals.map (fN M way said s.ns s.row)).getD 0 0) d).length<=12
   cases d with
   |put v=>
    simp only[fO];split
    ·simp;lia
    ·calc g
   |drop=>simp only[fO,List.length_tail];lia
   |_=>calc g
section
variable {n:NT}{r:RS}
theorem NT.Ok.gd(h:n.Ok){m:Nat}(a:m<n.ms.length):(n.ms.getD m default).good:=by
 calc h.good _ (getD_mem a)
theorem NT.Ok.wy(h:n.Ok){w:Nat}(a:w<n.ws.length):0<=(n.w w).1/\(n.w w).1<n.ms.length/\0<=(n.w w).2.1/\(n.w w).2.1<n.ms.length/\((n.w w).2.2="row"\/(n.w w).2.2="heap"):=by
 calc h.aaa _ (getD_mem a)
theorem NT.Ok.iO(h:n.Ok){w:Nat}(a:w<n.ws.length):n.goal w<n.ms.length:=by
 have:=h.wy a;unfold NT.goal;lia
theorem RS.Ok.zD(h:r.Ok n){m:Nat}(a:m<n.ms.length):1<=(r.mm m).gC.length:=by rw[h.lh m a];lia
theorem RS.Ok.last(h:r.Ok n){m:Nat}(a:m<n.ms.length):KI (n.M m) (n.nn m) ((r.mm m).gC.bI ([],[])):=h.so m a _ (ib (h.zD a))
theorem qM(a:n.Ok)(h:r.Ok n){w:Nat}(c:w<n.ws.length)(k:Nat):KI (n.M (n.goal w)) (n.nn (n.goal w)) ((n.work r w k).ns,(n.work r w k).row)/\(n.work r w k).cb.length<=24/\(n.work r w k).words.length<=24/\∀p∈(n.work r w k).cb,0<=p.1:=by
 have b:=a.iO c;have g:=a.gd b;have l:=h.last b;have a:(n.ds (n.goal w)).length<=24:=g.XM;have b:0<n.M (n.goal w):=by have:=g.m2;show 0<(n.ms.getD (n.goal w) default).M;lia
 obtain⟨d,e,f⟩:=Br (M:=n.M (n.goal w)) (way:=n.place w) (said:=(r.ww w).say.getD k 0) (n.ds (n.goal w)).length (n.ds (n.goal w)) ⟨((r.mm (n.goal w)).gC.bI ([],[])).1,((r.mm (n.goal w)).gC.bI ([],[])).2,[],[]⟩;obtain⟨h,i⟩:=Bs b (way:=n.place w) (said:=(r.ww w).say.getD k 0) (n.ds (n.goal w)).length (n.ds (n.goal w)) ⟨((r.mm (n.goal w)).gC.bI ([],[])).1,((r.mm (n.goal w)).gC.bI ([],[])).2,[],[]⟩ l.bn l.lr;have c:=xq (M:=n.M (n.goal w)) (way:=n.place w) (said:=(r.ww w).say.getD k 0) (n:=n.nn (n.goal w)) (n.ds (n.goal w)).length (n.ds (n.goal w)) ⟨((r.mm (n.goal w)).gC.bI ([],[])).1,((r.mm (n.goal w)).gC.bI ([],[])).2,[],[]⟩ g.ok (λp b=>by simp at b);refine⟨⟨?_,h,i⟩,?_,?_,c⟩
 ·exact f.trans l.ln
 ·exact aap d (by simpa using a)
 ·calc aap e (by simpa using a)
structure RS.sO(n:NT)(r:RS)(B:Nat):Prop where
 lw:∀m,m<n.ms.length->(r.mm m).gC.length=(r.mm m).wp.length
 lh:∀m,m<n.ms.length->(r.mm m).gC.length=(r.mm m).hr.length+1
 so:∀m,m<n.ms.length->∀s∈(r.mm m).gC,KI (n.M m) (n.nn m) s
 hl:∀m,m<n.ms.length->∀h∈(r.mm m).hr,h.length=n.ms.length
 ls:∀w,w<n.ws.length->(r.ww w).say.length=(r.ww w).snd.length
 lk:∀w,w<n.ws.length->(r.ww w).say.length=(r.ww w).dy.length
 sd:∀w,w<n.ws.length->∀s c,some (s,c)∈(r.ww w).snd->0<=s/\s<n.ms.length/\1<=c/\c<=(r.mm s.toNat).hr.length
 bp:∀m,m<n.ms.length->(r.mm m).gC.length<=r.picks.length+1
 bw:∀m,m<n.ms.length->∀w∈(r.mm m).wp,w.length<=24*r.picks.length
 bs:∀w,w<n.ws.length->(r.ww w).say.length<=B
 Us:∀m,m<n.ms.length->∀u∈(r.mm m).wp,u <+:(r.mm m).wp.bI []
theorem RS.sO.ok(h:r.sO n B)(a:B<=20+24*r.picks.length):r.Ok n:=⟨h.lw,h.lh,h.so,h.hl,h.ls,h.lk,h.sd,h.bp,h.bw,λw b=>aap (h.bs w b) a,h.Us⟩
theorem RS.sO.put(h:r.sO n B){w:Nat}{x:Int}{s:Option (Int×Int)}(g:∀a c,s=some (a,c)->0<=a/\a<n.ms.length/\1<=c/\c<=(r.mm a.toNat).hr.length):(r.put w x s).sO n (B+1):=by
 have e:∀k,(r.put w x s).ww k=if k=w then⟨(r.ww w).say++[x],(r.ww w).snd++[s],(r.ww w).dy++[none]⟩ else r.ww k:=λk=>rfl
 refine⟨h.lw,h.lh,h.so,h.hl,λv b=>?_,λv b=>?_,λv b a c d=>?_,h.bp,h.bw,λv b=>?_,h.Us⟩
 ·rw[e];split
  ·next z=>subst z;simp[h.ls v b]
  ·exact h.ls v b
 ·rw[e];split
  ·next z=>subst z;simp[h.lk v b]
  ·exact h.lk v b
 ·rw[e] at d;split at d
  ·next z=>
   subst z;rcases List.mem_append.mp d with d|d
   ·exact h.sd v b a c d
   ·simp at d;exact g a c d.symm
  ·exact h.sd v b a c d
 ·rw[e];split
  ·next z=>subst z;have:=h.bs v b;simp;lia
  ·have:=h.bs v b;lia
theorem RS.sO.mono{a:Nat}(h:r.sO n B)(b:B<=a):r.sO n a:={h with bs:=λw a=>aap (h.bs w a) b}
theorem RS.sO.send{outs:List Nat}{ev:Int×Int}:∀(b:List (Int×Int)) {r:RS}{B:Nat},r.sO n B->(∀a c,some ev=some (a,c)->0<=a/\a<n.ms.length/\1<=c/\c<=(r.mm a.toNat).hr.length)->(r.send outs ev b).sO n (B+b.length)
 | [],r,B,h,_=>h
 |p::b,r,B,h,d=>by
  show((if p.1.toNat<outs.length then r.put (outs.getD p.1.toNat 0) p.2 (some ev) else r).send outs ev b).sO n _;have e:B+(p::b).length=B+1+b.length:=by simp;lia
  rw[e];split
  ·exact RS.sO.send b (h.put d) d
  ·calc RS.sO.send b (h.mono (by lia)) d
theorem RS.vG{outs:List Nat}{ev:Int×Int}:∀(a:List (Int×Int)) {r:RS},(r.send outs ev a).mm=r.mm/\(r.send outs ev a).picks=r.picks
 | [],r=>⟨rfl,rfl⟩
 |p::a,r=>by
  show((if p.1.toNat<outs.length then r.put (outs.getD p.1.toNat 0) p.2 (some ev) else r).send outs ev a).mm=_/\((if p.1.toNat<outs.length then r.put (outs.getD p.1.toNat 0) p.2 (some ev) else r).send outs ev a).picks=_;split
  ·exact RS.vG a
  ·calc RS.vG a
theorem zE{u v w:List Int}(h:u <+:v):u <+:v++w:=by
 obtain⟨t,rfl⟩:=h;calc⟨t++w,by simp⟩
theorem xt(o:n.Ok)(h:r.Ok n){w:Nat}(j:w<n.ws.length){k:Nat}:(n.hV r w k).length=n.ms.length:=by
 have p:=o.iO j;have m:((r.mm (n.goal w)).hr.bI (List.replicate n.ms.length 0)).length=n.ms.length:=by
  by_cases f:1<=(r.mm (n.goal w)).hr.length
  ·exact h.hl _ p _ (ib f)
  ·have e:(r.mm (n.goal w)).hr=[]:=by
    cases q:(r.mm (n.goal w)).hr with
    |nil=>rfl
    |cons a b=>rw[q]at f;simp at f
   rw[e];simp[List.bI]
 unfold NT.hV;simp only[List.length_set];split
 ·exact m
 ·next s c e=>
  have g:k<(r.ww w).snd.length:=by
   by_cases g:k<(r.ww w).snd.length
   ·exact g
   ·rw[List.getD_eq_getElem?_getD,List.getElem?_eq_none (by lia)]at e;cases e
  have t:some (s,c)∈(r.ww w).snd:=by rw[<-e];exact getD_mem g
  obtain⟨u,v,x,y⟩:=h.sd w j s c t;have:=h.hl s.toNat (by lia) _ (getD_mem (l:=(r.mm s.toNat).hr) (i:=(c-1).toNat) (d:=[]) (by lia));rw[List.length_zipWith,m,this];lia
theorem RS.Ok.step(t:n.Ok)(h:r.Ok n){w k:Nat}(p:w<n.ws.length):(r.step n w k).sO n (20+24*r.picks.length):=by
 have g:=t.iO p;obtain⟨A,F,G,H⟩:=qM t h p k;have j:∀i,(r.step n w k).mm i=if i=n.goal w then⟨(r.mm (n.goal w)).gC++[((n.work r w k).ns,(n.work r w k).row)],(r.mm (n.goal w)).wp++[(r.mm (n.goal w)).wp.bI []++(n.work r w k).words],(r.mm (n.goal w)).hr++[n.hV r w k]⟩ else r.mm i:=λi=>rfl
 have q:∀i,(r.step n w k).ww i=if i=w then {(r.ww w) with dy:=(r.ww w).dy.set k (some (n.ev r w))} else r.ww i:=λi=>rfl
 have x:(r.step n w k).picks.length=r.picks.length+1:=by show(r.picks++[_]).length=_;simp
 refine⟨λm f=>?_,λm f=>?_,λm f s b=>?_,λm f s b=>?_,λv o=>?_,λv o=>?_,λv o a c b=>?_,λm f=>?_,λm f u e=>?_,λv o=>?_,λm f u e=>?_⟩
 ·rw[j];split
  ·simp[h.lw _ g]
  ·exact h.lw m f
 ·rw[j];split
  ·simp[h.lh _ g]
  ·exact h.lh m f
 ·rw[j] at b;split at b
  ·next z=>
   subst z;rcases List.mem_append.mp b with b|b
   ·exact h.so _ g s b
   ·simp at b;subst b;exact A
  ·exact h.so m f s b
 ·rw[j] at b;split at b
  ·rcases List.mem_append.mp b with b | b
   ·exact h.hl _ g s b
   ·simp at b;subst b;exact xt t h p
  ·exact h.hl m f s b
 ·rw[q];split
  ·exact h.ls w p
  ·exact h.ls v o
 ·rw[q];split
  ·simp[h.lk w p]
  ·exact h.lk v o
 ·have B:some (a,c)∈(r.ww v).snd:=by
   rw[q]at b;split at b
   ·next z=>subst z;exact b
   ·exact b
  obtain⟨C,D,E,y⟩:=h.sd v o a c B;calc⟨C,D,E,?_⟩;rw[j];split
  ·next z=>rw[z]at y;simp;lia
  ·exact y
 ·rw[j,x];split
  ·have:=h.bp _ g;simp;lia
  ·have:=h.bp _ f;lia
 ·rw[x];rw[j] at e;split at e
  ·rcases List.mem_append.mp e with e | e
   ·have:=h.bw _ g u e;lia
   ·simp at e;subst e;have:=h.bw _ g _ (ib (l:=(r.mm (n.goal w)).wp) (d:=[]) (by rw[<-h.lw _ g];calc h.zD g));simp;lia
  ·have:=h.bw _ f u e;lia
 ·rw[q];split
  ·exact h.bs w p
  ·exact h.bs v o
 ·rw[j] at e ⊢;split at e
  ·next z=>
   rw[if_pos z];show u <+:((r.mm (n.goal w)).wp++[_]).bI [];rw[rQ];rcases List.mem_append.mp e with e|e
   ·exact zE (h.Us _ g u e)
   ·simp at e;subst e;exact List.prefix_refl _
  ·next z=>rw[if_neg z];calc h.Us m f u e
theorem RS.Ok.pick(a:n.Ok)(h:r.Ok n){w k:Nat}(b:w<n.ws.length):(r.pick n w k).Ok n/\(r.pick n w k).picks=r.picks++[((w:Int),(k:Int))]:=by
 have d:=a.iO b;obtain⟨c,f,g,i⟩:=qM a h b k;have s:=RS.sO.send (outs:=n.outs (n.goal w)) (ev:=n.ev r w) (n.work r w k).cb (h.step a b (k:=k)) (λa c e=>by
  cases e;refine⟨by lia,by lia,?_,?_⟩
  ·have:=h.zD d;lia
  ·have a:(r.step n w k).mm (n.goal w)=⟨(r.mm (n.goal w)).gC++[((n.work r w k).ns,(n.work r w k).row)],(r.mm (n.goal w)).wp++[(r.mm (n.goal w)).wp.bI []++(n.work r w k).words],(r.mm (n.goal w)).hr++[n.hV r w k]⟩:=if_pos rfl;rw[show((n.goal w:Nat):Int).toNat=n.goal w from Int.toNat_natCast _,a,h.lh _ d];simp)
 have a:=(RS.vG (outs:=n.outs (n.goal w)) (ev:=n.ev r w) (n.work r w k).cb (r:=r.step n w k)).2;calc⟨s.ok ?_,a⟩;rw[a];show _<=20+24*(r.picks++[_]).length;simp;lia
end
end DD
namespace L2
open PySem PyProof.Rows
section
variable {X:Cx}
def isTrue:Value->Bool
 | .bool b=>b
 |_=>false
end
end L2
namespace L2
open PySem PySem.Spec PyProof.Rows Builtin Builtin.Str
section
variable {X:Cx}
theorem xu{i j l:Nat}{x y z:Str}{d e f a:Pos}{k:Nat}(g:X.calm=true)(b:X.N.Nodup)(h:X.N[i]?=some x)(m:X.N[j]?=some y)(n:X.N[l]?=some z)(o:Loc X.env.scope x)(p:Loc X.env.scope y)(q:Loc X.env.scope z)
  (r:X.fn x=true\/X.env.scope.names.lookup x=some .local:=by grind) (s:X.fn y=true\/X.env.scope.names.lookup y=some .local:=by grind) (c:X.fn z=true\/X.env.scope.names.lookup z=some .local:=by grind):
  PG X (.Tuple [.Name x d,.Name y e,.Name z f] k a) (JH X.K 3 (pY (gX i) (pY (gX j) (pY (gX l) JG)))):=EB g (kg (bb b h o r) (kg (bb b m p s) (kg (bb b n q c) AE)))
end
end L2
namespace L2
open PySem PyProof.Rows
theorem Ut{a b:Nat}(h:a+64<b):a+1<b:=by lia
section
variable {X:Cx}
def zF(z:Int):Value->Bool
 | .int i _=>i==z
 |_=>false
theorem rS:∀{c:List Int}{us:List Value},Vals (c.map V.int) us->us.length=c.length/\∀(i:Nat) u z,us[i]?=some u->c[i]?=some z->∃t,u=.int z t
 | [],_,.nil=>⟨rfl,λi u z h=>by simp at h⟩
 |n::c,_,.cons r t=>by
  obtain⟨l,h⟩:=rS t;refine⟨by simp[l],λi u z a b=>?_⟩
  cases i with
  |zero=>simp at a b;subst a b;calc r
  |succ i=>calc h i u z (by simpa using a) (by simpa using b)
def KJ:V->List V->Hp->VK->Prop:=λx vs H Q=>∃(a:Addr) (b:List Int) (j:Nat) (z:Int),x=.ref a/\vs=[.int z]/\H a=some (.lst (b.map V.int))/\b[j]?=some z/\(∀i y,i<j->b[i]?=some y->y≠z)/\Q (.int j) H
theorem uy:SW X "list.index" KJ:=by
 intro k s σ H x O v P Q I r D h;obtain⟨a,d,j,z,rfl,rfl,E,l,G,q⟩:=h
 cases r;obtain⟨u,rfl,o,rfl⟩:=D.one;obtain⟨b,r,J,k⟩:=I.list (aR.of E);obtain⟨h,K⟩:=rS r;have h:j<d.length:=(List.getElem?_eq_some_iff.mp l).1;have p:(d.map V.int).length<=sizeLine:=k;rw[List.length_map]at p;obtain⟨⟨r,s,h,L⟩,n,w,A,B,e⟩:=id J;simp only at A B e;subst A B e;have h:j<b.length:=by lia
 have c:∀m (f:m<b.length),∃y t,d[m]?=some y/\b[m]=.int y t:=λm f=>by
  have C:m<d.length:=by lia
  obtain⟨t,e⟩:=K m b[m] d[m] (by simp) (by simp);exact⟨d[m],t,by simp,e⟩
 refine call_meets PySem.F.slot_list_index ⟨_,w,rfl⟩ PySem.F.entry_list_index (PySem.F.args_list_index_2 _ _) (SeqAt.list_indexAt a b.toArray n none L (.int z o) (zF z) j (by simpa using h) (by rw[sizeLine_eq]at p;lia) ?_ ?_) ⟨w,λy M=>?_,?_⟩
 ·obtain⟨y,t,g,i⟩:=c j h;rw[l] at g
  cases g;simp[i,zF]
 ·intro m f a;have C:m < b.length:=by simpa using f
  obtain⟨y,t,g,i⟩:=c m C;have:=G m y a g;simp[i,zF,this]
 ·have N:y ∈ b:=by simpa using M
  obtain⟨m,f,rfl⟩:=List.getElem_of_mem N;obtain⟨y,t,g,i⟩:=c m f;rw[i];exact SeqAt.EqAt.int_int y t z o
 ·calc⟨.int _,H,I.tok _,⟨_,rfl⟩,q⟩
end
end L2
namespace L2
open PySem PySem.Spec PyProof.Rows
section
def Uu(K:W.Frag):V->Option Int->Option Int->Hp->VK->Prop:=λx b c H Q=>match x with
 | .ref a=>∃xs,aR K H a xs/\∀p,H p=none->Q (.ref p) (upd H p (.lst (eJ xs b c)))
 |_=>False
theorem aab{X:Cx}:SR X (Uu X.K):=by
 intro a s σ H x v b c d e f Q I g i j k h
 cases x<;>first
  |calc(show False from h).elim
  |skip
 obtain⟨l,m,q⟩:=h;calc AW a s σ H _ v b c d e f Q I g i j k ⟨_,l,rfl,m,q⟩
theorem Pr{X:Cx}{e:Expr}{b:TE}{c d:Option Expr}{f g:TO}{a h:Pos}(i:PE X e b)(j:PO X c f)(k:PO X d g):PE X (.Subscript e (.Slice c d none h) a) (SS (Uu X.K) b f g):=wG aab i j k
theorem KL{xs:List V}{i j:Nat}:(eJ xs (some (i:Int)) (some (j:Int))).length<=j-i:=by
 unfold eJ;rw[show HT.eE xs.length 0 (some (i:Int))=min i xs.length from HT.AQ _ _ i,show HT.eE xs.length xs.length (some (j:Int))=min j xs.length from HT.AQ _ _ j,List.length_take];calc aap (Nat.min_le_left _ _) ?_;rcases Nat.le_total xs.length i with h|h
 ·rw[Nat.min_eq_right h,Nat.sub_eq_zero_of_le (Nat.min_le_right _ _)];exact aav _
 ·rw[Nat.min_eq_left h];calc Nat.sub_le_sub_right (Nat.min_le_left _ _) _
theorem KN{xs:List V}{a b:Option Int}{v:V}(h:v∈eJ xs a b):v∈xs:=List.mem_of_mem_drop (List.mem_of_mem_take h)
end
section
variable {a dx:Addr}{Q:Bool->Hp->Prop}{X:Cx}{H:Hp}{f:Str}{v:V}{K:W.Frag}
theorem fld{C:Addr}{b:List (Str×V)}{Q:V->Prop}(h:H a=some (.ins C dx b))(c:sL K C)(n:bJ K C f)(l:b.lookup f=some v)(q:Q v):∃e d j g i,V.ref a=.ref e/\H e=some (.ins d j g)/\sL K d/\bJ K d f/\g.lookup f=some i/\Q i:=⟨a,C,dx,b,v,rfl,h,c,n,l,q⟩
theorem mth{C:Addr}{b:List (Str×V)}{Q:Addr->Prop}(h:H a=some (.ins C dx b))(l:b.lookup f=none)(q:Q a):∃c e d,V.ref a=.ref c/\H c=some (.ins C e d)/\d.lookup f=none/\Q c:=⟨a,dx,b,rfl,h,l,q⟩
theorem fR{C:Addr}{b:List (Str×V)}{Q:V->Prop}(h:H a=some (.ins C dx b))(c:sL K C)(n:bJ K C f)(l:b.lookup f=some v)(q:Q v):∃e d j g i,a=e/\H e=some (.ins d j g)/\sL K d/\bJ K d f/\g.lookup f=some i/\Q i:=⟨a,C,dx,b,v,rfl,h,c,n,l,q⟩
theorem eV{C:Addr}{b:List (Str×V)}{Q:Addr->Prop}(h:H a=some (.ins C dx b))(l:b.lookup f=none)(q:Q a):∃c e d,a=c/\H c=some (.ins C e d)/\d.lookup f=none/\Q c:=⟨a,dx,b,rfl,h,l,q⟩
theorem yG{x y:V}{P:V->V->Prop}(h:bM K H a [x,y])(q:P x y):∃b xs,V.ref a=.ref b/\bM K H b xs/\xs.length=2/\∃v r,xs=v::r/\∃c d,r=c::d/\d=[]/\P v c:=⟨a,_,rfl,h,rfl,_,_,rfl,_,_,rfl,rfl,q⟩
theorem un3{x y z:V}{P:V->V->V->Prop}(h:bM K H a [x,y,z])(q:P x y z):∃d xs,V.ref a=.ref d/\bM K H d xs/\xs.length=3/\∃v r,xs=v::r/\∃e f,r=e::f/\∃b c,f=b::c/\c=[]/\P v e b:=⟨a,_,rfl,h,rfl,_,_,rfl,_,_,rfl,_,_,rfl,rfl,q⟩
theorem gN{A B R:Prop}(a:A)(b:B)(r:R):A/\B/\R:=⟨a,b,r⟩
theorem aac{A B C R:Prop}(a:A)(b:B)(ch:C)(r:R):A/\B/\C/\R:=⟨a,b,ch,r⟩
theorem aad{A B C D R:Prop}(a:A)(b:B)(ch:C)(c:D)(r:R):A/\B/\C/\D/\R:=⟨a,b,ch,c,r⟩
theorem bE{α:Type}{A R:α->Prop}(x:α)(a:A x)(r:R x):∃x,A x/\R x:=⟨x,a,r⟩
theorem hX{α:Type}{A B R:α->Prop}(x:α)(a:A x)(b:B x)(r:R x):∃x,A x/\B x/\R x:=⟨x,a,b,r⟩
theorem Pt{α:Type}{A B C R:α->Prop}(x:α)(a:A x)(b:B x)(ch:C x)(r:R x):∃x,A x/\B x/\C x/\R x:=⟨x,a,b,ch,r⟩
theorem Gz{α β:Type}{A R:α->β->Prop}(x:α)(y:β)(a:A x y)(r:R x y):∃x y,A x y/\R x y:=⟨x,y,a,r⟩
theorem cF{α β:Type}{A B R:α->β->Prop}(x:α)(y:β)(a:A x y)(b:B x y)(r:R x y):∃x y,A x y/\B x y/\R x y:=⟨x,y,a,b,r⟩
theorem sZ{α β:Type}{A B C R:α->β->Prop}(x:α)(y:β)(a:A x y)(b:B x y)(ch:C x y)(r:R x y):∃x y,A x y/\B x y/\C x y/\R x y:=⟨x,y,a,b,ch,r⟩
theorem ma{α β:Type}{A B C D R:α->β->Prop}(x:α)(y:β)(a:A x y)(b:B x y)(ch:C x y)(c:D x y)(r:R x y):∃x y,A x y/\B x y/\C x y/\D x y/\R x y:=⟨x,y,a,b,ch,c,r⟩
theorem aae{α β γ:Type}{A B R:α->β->γ->Prop}(x:α)(y:β)(z:γ)(a:A x y z)(b:B x y z)(r:R x y z):∃x y z,A x y z/\B x y z/\R x y z:=⟨x,y,z,a,b,r⟩
theorem KO{α β γ:Type}{A B C R:α->β->γ->Prop}(x:α)(y:β)(z:γ)(a:A x y z)(b:B x y z)(ch:C x y z)(r:R x y z):∃x y z,A x y z/\B x y z/\C x y z/\R x y z:=⟨x,y,z,a,b,ch,r⟩
theorem fS{α β γ δ:Type}{A B R:α->β->γ->δ->Prop}(x:α)(y:β)(z:γ)(u:δ)(a:A x y z u)(b:B x y z u)(r:R x y z u):∃x y z u,A x y z u/\B x y z u/\R x y z u:=⟨x,y,z,u,a,b,r⟩
theorem aaf{α β γ δ:Type}{A B C R:α->β->γ->δ->Prop}(x:α)(y:β)(z:γ)(u:δ)(a:A x y z u)(b:B x y z u)(ch:C x y z u)(r:R x y z u):∃x y z u,A x y z u/\B x y z u/\C x y z u/\R x y z u:=⟨x,y,z,u,a,b,ch,r⟩
theorem Uv{α β γ δ:Type}{A B C D R:α->β->γ->δ->Prop}(x:α)(y:β)(z:γ)(u:δ)(a:A x y z u)(b:B x y z u)(ch:C x y z u)(c:D x y z u)(r:R x y z u):∃x y z u,A x y z u/\B x y z u/\C x y z u/\D x y z u/\R x y z u:=⟨x,y,z,u,a,b,ch,c,r⟩
theorem qk{α β γ δ:Type}{A B C D E R:α->β->γ->δ->Prop}(x:α)(y:β)(z:γ)(u:δ)(a:A x y z u)(b:B x y z u)(ch:C x y z u)(c:D x y z u)(d:E x y z u)(r:R x y z u):∃x y z u,A x y z u/\B x y z u/\C x y z u/\D x y z u/\E x y z u/\R x y z u:=⟨x,y,z,u,a,b,ch,c,d,r⟩
theorem aag{α β γ δ:Type}{A B C D E F R:α->β->γ->δ->Prop}(x:α)(y:β)(z:γ)(u:δ)(a:A x y z u)(b:B x y z u)(ch:C x y z u)(c:D x y z u)(d:E x y z u)(e:F x y z u)(r:R x y z u):∃x y z u,A x y z u/\B x y z u/\C x y z u/\D x y z u/\E x y z u/\F x y z u/\R x y z u:=⟨x,y,z,u,a,b,ch,c,d,e,r⟩
theorem Uw{α β γ δ ε:Type}{A B C D R:α->β->γ->δ->ε->Prop}(x:α)(y:β)(z:γ)(u:δ)(v:ε)(a:A x y z u v)(b:B x y z u v)(ch:C x y z u v)(c:D x y z u v)(r:R x y z u v):∃x y z u v,A x y z u v/\B x y z u v/\C x y z u v/\D x y z u v/\R x y z u v:=⟨x,y,z,u,v,a,b,ch,c,r⟩
theorem aah{α β γ δ ε:Type}{A B C D E R:α->β->γ->δ->ε->Prop}(x:α)(y:β)(z:γ)(u:δ)(v:ε)(a:A x y z u v)(b:B x y z u v)(ch:C x y z u v)(c:D x y z u v)(d:E x y z u v)(r:R x y z u v):∃x y z u v,A x y z u v/\B x y z u v/\C x y z u v/\D x y z u v/\E x y z u v/\R x y z u v:=⟨x,y,z,u,v,a,b,ch,c,d,r⟩
theorem Ux{α β γ δ ε:Type}{A B C D E F R:α->β->γ->δ->ε->Prop}(x:α)(y:β)(z:γ)(u:δ)(v:ε)(a:A x y z u v)(b:B x y z u v)(ch:C x y z u v)(c:D x y z u v)(d:E x y z u v)(e:F x y z u v)(r:R x y z u v):∃x y z u v,A x y z u v/\B x y z u v/\C x y z u v/\D x y z u v/\E x y z u v/\F x y z u v/\R x y z u v:=⟨x,y,z,u,v,a,b,ch,c,d,e,r⟩
theorem PE.imp{e:Expr}{t u:TE}(h:PE X e t)(i:∀σ H Q,u σ H Q->t σ H Q):PE X e u:=⟨λp s σ H Q I q=>h.out p s σ H Q I (i σ H Q q)⟩
def tV(i:Nat):TE:=λσ H Q=>match σ[i]? with
 |some (some v)=>Q v H
 |_=>False
theorem Pu{i:Nat}(σ:St)(H:Hp)(Q:VK)(h:tV i σ H Q):Et i σ H Q:=by
 unfold tV at h;split at h
 ·exact⟨_,by assumption,h⟩
 ·calc h.elim
def bB(Q:Bool->Hp->Prop):V->Hp->Prop
 | .bl k,H=>Q k H
 |_,_=>False
theorem Pw{Q:Bool->Hp->Prop}{x:V}{H:Hp}(h:bB Q x H):∃k,x=.bl k/\Q k H:=by
 cases x with
 |bl k=>calc⟨k,rfl,h⟩
 |_=>calc h.elim
theorem Uy{k:Bool}:bB Q (.bl k) H=Q k H:=rfl
theorem lK{k:Bool}(h:Q k H):bB Q (.bl k) H:=h
def tT(t:TE):TT:=λσ H Q=>t σ H (bB Q)
theorem Uz:bB Q=λx H=>∃k,x=.bl k/\Q k H:=by
 funext x H;calc propext ⟨Pw,?_⟩;rintro⟨k,rfl,h⟩;calc h
theorem Mt:tT=AK:=by
 funext t σ H Q;show t σ H (bB Q)=_;rw[Uz];rfl
theorem Px:tT=tB:=Mt
section
variable {X:Cx}{a b:Expr}{ta tb:TE}{pos:Pos}
theorem aC{c:CmpOp}{r:R2}(d:gJ X (compareOp c) r)(e:PE X a ta)(f:PE X b tb)(g:behindInMarks c b=false):PT X (.Compare a [c] [b] pos) (tT (JI r ta tb)):=by
 rw[Mt];calc AL d e f g
theorem bz{e:Expr}{t:TE}(h:PE X e t)(b:∀a,PySem.isTrue e X.env a=(do let v <-a;standAt e.pos;holding [v] (truthy v)):=by intro _;rfl):PT X e (tT t):=by
 rw[Px];calc NY h b
theorem aq(i:Nat){x:Str}{pos:Pos}(a:X.N[i]?=some x:=by rfl)(b:Ss X.env.scope x:=by first|calc Or.inl rfl|calc Or.inr (Or.inl rfl)|calc Or.inr (Or.inr rfl))(c:(x==("__debug__":Str))=false:=by decide)
  (d:(x==("__classdict__":Str))=false:=by decide):PE X (.Name x pos) (tV i):=(Eu a b c d).imp Pu
end
section
variable {K:W.Frag}{H:Hp}{Q:VK}{i j:Int}{s t:Str}{a b:Addr}
def Rn(K:W.Frag):R2:=λx y H Q=>match x,y with
 | .int i,.int j=>Q (.bl (decide (i=j))) H
 | .str s,.str t=>Q (.bl (decide (s=t))) H
 |x,y=>OX K x y H Q
def UA(K:W.Frag):R2:=λx y H Q=>match x,y with
 | .int i,.int j=>Q (.bl (!decide (i=j))) H
 | .str s,.str t=>Q (.bl (!decide (s=t))) H
 |x,y=>Ra K x y H Q
theorem GB:Rn K (.int i) (.int j) H Q=Q (.bl (decide (i=j))) H:=rfl
theorem GC:Rn K (.str s) (.str t) H Q=Q (.bl (decide (s=t))) H:=rfl
theorem GD:Rn K (.ref a) (.ref b) H Q=((kn K H 20 (.ref a) (.ref b)/\Q (.bl true) H)\/(rz K H a b/\Q (.bl false) H)):=rfl
theorem GG:UA K (.int i) (.int j) H Q=Q (.bl (!decide (i=j))) H:=rfl
theorem GH:UA K (.str s) (.str t) H Q=Q (.bl (!decide (s=t))) H:=rfl
theorem GI:UA K (.ref a) (.ref b) H Q=((kn K H 20 (.ref a) (.ref b)/\Q (.bl false) H)\/(rz K H a b/\Q (.bl true) H)):=rfl
theorem GJ:Rn K=OX K:=by
 funext x y H Q
 cases x<;>cases y<;>first|rfl|calc vp.symm|calc vq.symm
theorem Py:UA K=Ra K:=by
 funext x y H Q
 cases x<;>cases y<;>first|rfl|calc vt.symm|calc vv.symm
theorem aV(a:X.A.units+64<cLine):gJ X (compareOp .Eq) (Rn X.K):=GJ▸Fq a
theorem gD(a:X.A.units+64<cLine):gJ X (compareOp .NotEq) (UA X.K):=Py▸OY a
theorem kr(a:X.K=K)(b:X.A.units+64<cLine):gJ X (compareOp .Eq) (Rn K):=GJ▸Kl a b
end
theorem HT.bN{n:Nat}{i:Int}(h:HT H n v (.int i)):v=.int i:=by
 cases h;rfl
theorem HT.bO{n:Nat}{s:Str}(h:HT H n v (.str s)):v=.str s:=by
 cases h;rfl
theorem HD.bN{n:Nat}{i:Int}(h:HD H n v (.int i)):v=.int i:=by
 cases h;rfl
theorem HD.bO{n:Nat}{s:Str}(h:HD H n v (.str s)):v=.str s:=by
 cases h;rfl
theorem fo1{α:Type}{P:α->Prop}(x:α)(h:∀g:α->Prop,(∀x,P x->g x)->g x):P x:=h P λ_ h=>h
theorem fo2{α β:Type}{P:α->β->Prop}(x:α)(y:β)(h:∀g:α->β->Prop,(∀x y,P x y->g x y)->g x y):P x y:=h P λ_ _ h=>h
theorem fo3{α β γ:Type}{P:α->β->γ->Prop}(x:α)(y:β)(z:γ)(h:∀g:α->β->γ->Prop,(∀x y z,P x y z->g x y z)->g x y z):P x y z:=h P λ_ _ _ h=>h
theorem fo4{α β γ δ:Type}{P:α->β->γ->δ->Prop}(x:α)(y:β)(z:γ)(w:δ)(h:∀g:α->β->γ->δ->Prop,(∀x y z w,P x y z w->g x y z w)->g x y z w):P x y z w:=h P λ_ _ _ _ h=>h
end
end L2
namespace L2
open PySem
theorem zG(d:Addr)(c:(d==sysModules)=false):Meets (Builtin.«dict.__len__» ⟨[.ref d],[]⟩) (λA R s=>∃o a b,s.heap.get? d=some o/\o.data=.dict a b/\R (.ok (.ret (.int (a.size:Nat) s.toks))) {s with toks:=s.toks+1}):=by
 calc Meets.of_wp λ_ _ A R s h=>?_;obtain⟨o,a,b,e,f,g⟩:=h;show wpAny _ _ (do let x <-dictSize d;let y <-Builtin.Dict.pendingCount d;retInt ((x:Int)+(y:Int))) _ _ _;calc J' (J' (wpAny_dictEntries e f (R' (J' (wpAny_pendingCount_other c (wpAny_ret_mkInt ?_))))));simpa using g
theorem Pz{X:Cx}{pins:List (Addr×Obj)}{σ:St}{H:Hp}{s:Shared}{a:Addr}{A:Around}{E:Value->Shared->Prop}{b:List (List Key×V)}{Q:Value->Shared->Prop}(I:Inv X pins σ H s)(e:H a=some (.dT b))(h:∀t s',Inv X pins σ H s'->Q (.int b.length t) s'):wpAny (model X.prog X.w) A (call (.builtin "len") [.ref a]) Q E s:=by
 obtain⟨z,i,g,c,d⟩:=L8 I.aW e;obtain⟨o,g,j,k,p,l,m,q,r⟩:=id d;have e:g.size=b.length:=by
  rw[<-Array.length_toList,m,List.length_map];exact c.length.symm
 have c:=sizeLine_eq;calc call_len_meets (n:=(b.length:Nat)) d.typeIs PySem.F.slot_dict_len PySem.F.entry_dict_len (PySem.F.args_dict_len_1 _) (zG a i) (by lia) (by rw[sizeLine_eq]at z;lia) (λc q=>⟨o,g,j,k,l,?_⟩) (h _ _ (I.tok _));rw[e];calc q
theorem CT{X:Cx}:eX X (.builtin "len") (λxs H Q=>∃a b,xs=[V.ref a]/\H a=some (.dT b)/\Q (.int b.length) H):=by
 intro c s σ H xs f Q I r h;obtain⟨a,b,rfl,d,q⟩:=h;obtain⟨u,rfl,e⟩:=vals1 r
 cases e;calc Pz I d λt c a=>⟨.int b.length,H,a,⟨t,rfl⟩,q⟩
end L2
namespace DD
open PySem L2
variable {x:Int}{e:Int×Int}{u:Nat}{s:Option (Int×Int)}
def qN(r:RS):Nat->Nat
 |0=>0
 |W+1=>qN r W+(r.ww W).dy.countP Option.isSome
structure RS.Iv(n:NT)(r:RS):Prop where
 ev:∀(w k:Nat) (m c:Int),w<n.ws.length->(r.ww w).dy[k]?=some (some (m,c))->0<=m/\m<n.ms.length/\c<(r.mm m.toNat).gC.length
 inj:∀(w k w' k':Nat) (e:Int×Int),w<n.ws.length->w'<n.ws.length->(r.ww w).dy[k]?=some (some e)->(r.ww w').dy[k']?=some (some e)->w=w'/\k=k'
 pk:∀p∈r.picks,∃w k:Nat,∃e,p=((w:Int),(k:Int))/\w<n.ws.length/\(r.ww w).dy[k]?=some (some e)
 cnt:qN r n.ws.length=r.picks.length
theorem oQ{r a:RS}:∀{W:Nat},(∀w,w<W->(a.ww w).dy.countP Option.isSome=(r.ww w).dy.countP Option.isSome)->qN a W=qN r W
 |0,_=>rfl
 |W+1,h=>by rw[qN,qN,oQ λw a=>h w (by lia),h W (by lia)]
theorem xy{r:RS}:∀{W V:Nat},V<=W->qN r V<=qN r W
 |0,V,h=>Nat.le_of_eq (by rw[Nat.le_zero.mp h])
 |W+1,V,h=>by
  by_cases e:V=W+1
  ·rw[e];exact L' _
  ·calc aap (xy (W:=W) (by lia)) (aa1 _ _)
theorem GK{r a:RS}{w:Nat}(c:(a.ww w).dy.countP Option.isSome=(r.ww w).dy.countP Option.isSome+1)(b:∀u,u≠w->a.ww u=r.ww u):∀{W:Nat},w<W->qN a W=qN r W+1
 |0,h=>absurd h (aao _)
 |W+1,h=>by
  by_cases e:w=W
  ·subst e;have d:qN a w=qN r w:=oQ λu a=>by rw[b u (by lia)]
   rw[qN,qN,c,d];lia
  ·rw[qN,qN,GK c b (W:=W) (by lia),b W (λz=>e z.symm)];lia
theorem CU{l:List (Option (Int×Int))}{k:Nat}:(l++[none])[k]?=some (some e)↔l[k]?=some (some e):=by
 by_cases h:k<l.length
 ·rw[List.getElem?_append_left h]
 ·rw[List.getElem?_append_right (by lia),List.getElem?_eq_none (l:=l) (by lia)];constructor
  ·intro z
   cases a:k-l.length with
   |zero=>rw[a]at z;simp at z
   |succ j=>rw[a]at z;simp at z
  ·intro z;cases z
section
variable {n:NT}{r:RS}
theorem GL{w:Nat}:((r.put w x s).ww u).dy=if u=w then(r.ww w).dy++[none] else(r.ww u).dy:=by
 show(if u=w then _ else _:WY).dy=_;split<;>rfl
theorem qO{w:Nat}{k:Nat}:((r.put w x s).ww u).dy[k]?=some (some e)↔(r.ww u).dy[k]?=some (some e):=by
 rw[GL];split
 ·next z=>subst z;exact CU
 ·calc Iff.rfl
theorem KP{w:Nat}{W:Nat}:qN (r.put w x s) W=qN r W:=oQ λu _=>by
 rw[GL];split
 ·next z=>subst z;simp
 ·rfl
theorem RS.Iv.put(h:r.Iv n){w:Nat}{x:Int}{s:Option (Int×Int)}:(r.put w x s).Iv n:=
  ⟨λu k m c a f=>h.ev u k m c a (qO.mp f),λu k g i e a j b d=>h.inj u k g i e a j (qO.mp b) (qO.mp d),
   λp a=>let ⟨u,k,e,b,d,c⟩:=h.pk p a;⟨u,k,e,b,d,qO.mpr c⟩,KP.trans h.cnt⟩
theorem RS.Iv.send{outs:List Nat}{ev:Int×Int}:∀(a:List (Int×Int)) {r:RS},r.Iv n->(r.send outs ev a).Iv n
 | [],r,h=>h
 |p::a,r,h=>by
  show((if p.1.toNat<outs.length then r.put (outs.getD p.1.toNat 0) p.2 (some ev) else r).send outs ev a).Iv n;split
  ·exact RS.Iv.send a h.put
  ·calc RS.Iv.send a h
theorem RS.Iv.kq:∀(a:List (Int×Int)) {r:RS},r.Iv n->(r.kq a).Iv n
 | [],r,h=>h
 |p::a,r,h=>RS.Iv.kq a h.put
theorem RS.Iv.begin{a:List (Int×Int)}:(RS.begin n a).Iv n:=
 RS.Iv.kq a ⟨λw k m c _ h=>by simp[RS.new] at h,λw k a b e _ _ h=>by simp[RS.new] at h,λp a=>absurd a List.not_mem_nil,by
  have:∀W,qN (RS.new n) W=0:=λW=>by
   induction W with
   |zero=>rfl
   |succ W a=>rw[qN,a];rfl
  calc this _⟩
theorem Bt:∀{l:List (Option (Int×Int))}{k:Nat}{e:Int×Int},l[k]?=some none->(l.set k (some e)).countP Option.isSome=l.countP Option.isSome+1
 | [],k,e,h=>by simp at h
 |a::l,0,e,h=>by
  simp at h;subst h;simp
 |a::l,k+1,e,h=>by
  have:=Bt (l:=l) (k:=k) (e:=e) (by simpa using h);rw[List.set_cons_succ,List.countP_cons,List.countP_cons,this];lia
theorem Bu{w k:Nat}:((r.step n w k).ww u).dy=if u=w then(r.ww w).dy.set k (some (n.ev r w)) else(r.ww u).dy:=by
 show(if u=w then _ else _:WY).dy=_;split<;>rfl
theorem ku{w k j:Nat}(b:(r.ww w).dy[k]?=some none):((r.step n w k).ww u).dy[j]?=some (some e)↔(u=w/\j=k/\e=n.ev r w)\/(r.ww u).dy[j]?=some (some e):=by
 have c:k<(r.ww w).dy.length:=(List.getElem?_eq_some_iff.mp b).1;rw[Bu];split
 ·next z=>
  subst z;by_cases a:j=k
  ·subst a;rw[List.getElem?_set_self c,b];constructor
   ·intro z;cases z;exact .inl ⟨rfl,rfl,rfl⟩
   ·rintro(⟨_,_,rfl⟩ | z)
    ·rfl
    ·cases z
  ·rw[List.getElem?_set_ne (λz=>a z.symm)];exact⟨.inr,λz=>z.elim (λq=>absurd q.2.1 a) id⟩
 ·next z=>calc⟨.inr,λq=>q.elim (λq=>absurd q.1 z) id⟩
theorem xA{w k:Nat}{m:Nat}:((r.step n w k).mm m).gC.length=(r.mm m).gC.length+if m=n.goal w then 1 else 0:=by
 show(if m=n.goal w then _ else _:MS).gC.length=_;split
 ·next z=>subst z;simp
 ·simp
theorem RS.Iv.step(h:r.Iv n)(z:n.Ok){w k:Nat}(x:w<n.ws.length)(l:(r.ww w).dy[k]?=some none):(r.step n w k).Iv n:=by
 have K:=z.iO x;refine⟨λu j m c g t=>?_,λu j B C e g y o q=>?_,λp i=>?_,?_⟩
 ·rcases(ku l).mp t with⟨_,_,e⟩ | t
  ·cases e;calc⟨by lia,by lia,?_⟩;rw[Int.toNat_natCast,xA,if_pos rfl];lia
  ·obtain⟨a,b,d⟩:=h.ev u j m c g t;calc⟨a,b,?_⟩;rw[xA];split<;>lia
 ·have v:∀{u j:Nat},u<n.ws.length->(r.ww u).dy[j]?=some (some (n.ev r w))->False:=λ{u j} g t=>by
   obtain⟨_,_,d⟩:=h.ev u j _ _ g t;rw[Int.toNat_natCast]at d;lia
  rcases(ku l).mp o with⟨F,G,I⟩|o<;>rcases(ku l).mp q with⟨a,b,J⟩|q
  ·exact⟨F.trans a.symm,G.trans b.symm⟩
  ·subst I;exact(v y q).elim
  ·subst J;exact(v g o).elim
  ·exact h.inj u j B C e g y o q
 ·have i:p ∈ r.picks++[((w:Int),(k:Int))]:=i;rcases List.mem_append.mp i with i | i
  ·obtain⟨u,j,e,o,q,a⟩:=h.pk p i;exact⟨u,j,e,o,q,(ku l).mpr (.inr a)⟩
  ·simp at i;exact⟨w,k,_,i,x,(ku l).mpr (.inl ⟨rfl,rfl,rfl⟩)⟩
 ·have a:((r.step n w k).ww w).dy.countP Option.isSome=(r.ww w).dy.countP Option.isSome + 1:=by rw[Bu,if_pos rfl,Bt l]
  have b:∀u,u≠w->(r.step n w k).ww u=r.ww u:=λu g=>if_neg g;rw[GK a b x,h.cnt];show _=(r.picks++[_]).length;simp
theorem RS.Iv.pick(h:r.Iv n)(a:n.Ok){w k:Nat}(b:w<n.ws.length)(c:(r.ww w).dy[k]?=some none):(r.pick n w k).Iv n:=RS.Iv.send _ (h.step a b c)
def ek(e:Int×Int):List Key:=[.inl e.1,.inl e.2]
theorem GN{a:Int×Int}(h:ek e=ek a):e=a:=by
 simp[ek]at h;calc Prod.ext h.1 h.2
def At(w k u j:Nat):Prop:=u<w\/(u=w/\j<k)
def cw(r:RS)(w k:Nat):Nat:=qN r w+((r.ww w).dy.take k).countP Option.isSome
structure Fd(n:NT)(r:RS)(H:Hp)(aQ:List (List Key×V))(w k:Nat):Prop where
 len:aQ.length=cw r w k
 has:∀(u j:Nat) (e:Int×Int),At w k u j->u<n.ws.length->(r.ww u).dy[j]?=some (some e)->∃a,eY aQ (ek e)=some (.ref a)/\H a=some (.tup [.int (u:Nat),.int (j:Nat)])
 only:∀key,eY aQ key≠none->∃(u j:Nat) (e:Int×Int),At w k u j/\u<n.ws.length/\(r.ww u).dy[j]?=some (some e)/\key=ek e
variable {H H':Hp}{aQ:List (List Key×V)}{w k:Nat}
theorem Fd.start:Fd n r H [] 0 0:=⟨by simp[cw,qN],λu j e h=>by unfold At at h;lia,λa h=>absurd rfl h⟩
theorem Fd.mono(h:Fd n r H aQ w k)(s:∀a xs,H a=some (.tup xs)->H' a=some (.tup xs)):Fd n r H' aQ w k:=
 ⟨h.len,λu j e a b c=>let ⟨x,d,f⟩:=h.has u j e a b c;⟨x,d,s _ _ f⟩,h.only⟩
theorem cw_le(a:w<n.ws.length)(b:r.Iv n):cw r w k<=r.picks.length:=by
 have c:((r.ww w).dy.take k).countP Option.isSome<=(r.ww w).dy.countP Option.isSome:=List.Sublist.countP_le (List.take_sublist _ _);have c:=xy (r:=r) (W:=n.ws.length) (V:=w+1) a;rw[b.cnt,qN]at c;unfold cw;lia
theorem xB{l:List (Option (Int×Int))}{k:Nat}{o:Option (Int×Int)}(h:l[k]?=some o):(l.take (k+1)).countP Option.isSome=(l.take k).countP Option.isSome+if o.isSome then 1 else 0:=by
 rw[List.take_add_one,h];simp[List.countP_append,List.countP_cons]
theorem Fd.none(h:Fd n r H aQ w k)(d:(r.ww w).dy[k]?=some none):Fd n r H aQ w (k+1):=by
 refine⟨?_,λu j e a b c=>?_,λf g=>?_⟩
 ·rw[h.len,cw,cw,xB d];simp
 ·calc h.has u j e ?_ b c;rcases a with a | ⟨rfl,a⟩
  ·exact .inl a
  ·calc .inr ⟨rfl,?_⟩;have:j≠k:=λz=>by rw[z,d] at c;cases c
   lia
 ·obtain⟨u,j,e,a,b,c,d⟩:=h.only f g;calc⟨u,j,e,a.elim .inl λq=>.inr ⟨q.1,by lia⟩,b,c,d⟩
theorem Fd.fresh(h:Fd n r H aQ w k)(f:r.Iv n)(g:w<n.ws.length){e:Int×Int}(i:(r.ww w).dy[k]?=some (some e)):eY aQ (ek e)=Option.none:=by
 cases l:eY aQ (ek e) with
 |none=>rfl
 |some x=>
  obtain⟨u,j,m,a,b,c,d⟩:=h.only (ek e) (by rw[l];simp);have:=GN d;subst this;obtain⟨rfl,rfl⟩:=f.inj _ _ _ _ _ g b i c;unfold At at a;lia
theorem Fd.some(h:Fd n r H aQ w k)(o:r.Iv n)(l:w<n.ws.length){e:Int×Int}(d:(r.ww w).dy[k]?=Option.some (Option.some e)){a:Addr}(s:∀a xs,H a=Option.some (.tup xs)->H' a=Option.some (.tup xs))(p:H' a=Option.some (.tup [.int (w:Nat),.int (k:Nat)])):Fd n r H' (putK aQ (ek e) (.ref a)) w (k+1):=by
 have t:=h.fresh o l d;refine⟨?_,λu j i z b c=>?_,λg m=>?_⟩
 ·rw[wM _ t,List.length_append,h.len,cw,cw,xB d];simp;lia
 ·rw[q9];by_cases f:ek i=ek e
  ·rw[if_pos f];have:=GN f;subst this;obtain⟨rfl,rfl⟩:=o.inj _ _ _ _ _ l b d c;exact⟨a,rfl,p⟩
  ·rw[if_neg f];have v:At w k u j:=by
    rcases z with z|⟨rfl,z⟩
    ·exact .inl z
    ·calc .inr ⟨rfl,?_⟩;have:j≠k:=λq=>by rw[q,d] at c;cases c;exact f rfl
     lia
   obtain⟨x,a,o⟩:=h.has u j i v b c;exact⟨x,a,s _ _ o⟩
 ·rw[q9] at m;by_cases f:g=ek e
  ·exact⟨w,k,e,.inr ⟨rfl,by lia⟩,l,d,f⟩
  ·rw[if_neg f]at m;obtain⟨u,j,i,z,b,c,d⟩:=h.only g m;calc⟨u,j,i,z.elim .inl λq=>.inr ⟨q.1,by lia⟩,b,c,d⟩
theorem Fd.row(h:Fd n r H aQ w k)(d:k=(r.ww w).dy.length):Fd n r H aQ (w+1) 0:=by
 subst d;refine⟨?_,λu j e a b c=>h.has u j e ?_ b c,λf g=>?_⟩
 ·rw[h.len,cw,cw,List.take_length,qN];simp
 ·rcases a with a | ⟨_,a⟩
  ·by_cases z:u=w
   ·subst z;exact .inr ⟨rfl,(List.getElem?_eq_some_iff.mp c).1⟩
   ·exact .inl (by lia)
  ·lia
 ·obtain⟨u,j,e,a,b,c,d⟩:=h.only f g;calc⟨u,j,e,.inl (by unfold At at a;lia),b,c,d⟩
theorem Fd.all(h:Fd n r H aQ n.ws.length 0)(a:r.Iv n):aQ.length=r.picks.length:=by
 rw[h.len,cw,List.take_zero,a.cnt];simp
end
end DD
set_option maxHeartbeats 400000
namespace L2
open PySem PySem.Spec PyProof.Rows
section
section
variable {P:Program}{w:World}{K:W.Frag}{mg:Str->Option Value}{base:Heap}
theorem gL.Pf{C:Addr}{m a:Str}{b:Stmt}{N c:List Str}{k:Nat}{sp:Sp}(T:gL K C m a b c)(S:aE N c (az b))(d:∀vs H Q E,sp vs H Q E->vs.length=c.length)
  (g:∀(f:Addr) (e:Value) (A:Around) (outer:List Env) (s:Shared) (H:Hp) (vs:List V) (Q:VK) (E:XK),dA k (A.deeper (envOfC a (az b) s.heap.objs.size f e))->sp vs H Q E->
   ∃t,qE (jx (wm P w) P w K mg base N a (az b) f e A outer s H E) (cA b) t/\t {nx:=λ_ a=>Q .bD a,rt:=Q} (start N vs) H):ft P w K mg base C m (k + 1) c sp:=by
 obtain⟨f,a,M,F,b⟩:=T.ex;calc⟨f,a,M,F.Pf S d (g f),b⟩
end
section
variable {X:Cx}{o e:Expr}{es:List Expr}{to:TE}{t:TA}{apos p pos:Pos}{C:Addr}{m x:Str}{k j:Nat}{ps:List Str}{sp:Sp}{E:XK}
theorem jS{pl:Sem Bool}(D:ft X.prog X.w X.K X.mg X.base C m k ps sp)(b:Passes (wm X.prog X.w) X E)(c:sL X.K C)(d:dA j X.A)(g:PE X o to)(h:PA X (e::es) t)(i:k<=j:=by decide)(l:dw e=true:=by rfl)(n:es.all dw=true:=by rfl)
  (p:eval (.Call (.Attribute o m apos) (e::es) [] pos) X.env=(do
   let a <-eval o X.env
   standAt apos.atName
   let (f,first) <-holding [a] (getMethod a m pl)
   callWith pos f first (backTo pos (starEach (e::es) X.env)) (backToKw pos (keywordEach [] X.env))):=by rfl):
  PE X (.Call (.Attribute o m apos) (e::es) [] pos) (pZ C m sp [] E to t):=by
 obtain⟨f,q,M,F,a⟩:=D.ex;calc AO g c M F (d.mono i) a .nil b h (dF l) (eZ n) p
theorem PE.any{xe:Value->Shared->Prop}{a:TE}(b:PE X.uZ e a){pins:List (Addr×Obj)}{s:Shared}{σ:St}{H:Hp}{Q:VK}(I:Inv X pins σ H s)(h:a σ H Q):
  wpAny (model X.prog X.w) X.A (eval e X.env) (EP X pins σ Q) xe s:=
 aat (b.out pins s σ H Q (I.lT _) h) (λ_ _ ⟨v,a,c,r,q⟩=>⟨v,a,c.fF,r,q⟩) λ_ _ z=>aam z
theorem zH{pl:Sem Bool}(D:ft X.prog X.w X.K X.mg X.base C m k ps sp)(c:sL X.K C)(g:dA j X.A)(i:PE X.uZ o to)(n:PA X.uZ (e::es) t)(p:k<=j:=by decide)(v:dw e=true:=by rfl)(y:es.all dw=true:=by rfl)
  (r:eval (.Call (.Attribute o m apos) (e::es) [] pos) X.env=(do
   let b <-eval o X.env
   standAt apos.atName
   let (f,first) <-holding [b] (getMethod b m pl)
   callWith pos f first (backTo pos (starEach (e::es) X.env)) (backToKw pos (keywordEach [] X.env))):=by rfl):
  PEX X (.Call (.Attribute o m apos) (e::es) [] pos) (λE=>pZ C m sp [] E to t):=by
 obtain⟨f,b,M,F,z⟩:=D.ex;calc⟨λb s σ H Q E f B I h=>?_⟩;calc W.methodCall_KW (pl:=pl) (cJ (i.any I h) λu b G=>?_) r;nofun;obtain⟨x,b,d,J,a,f,h,ex,L,l,q⟩:=G;ac_rfl;subst ex;obtain rfl:u=Value.ref a:=J;calc jN d L c M l ?_;calc W.callWith_K (first:=[.ref a]) (h₀:=X.base) I.ok.mod.wx M.kp (cJ (n.any d q pos) λb i ⟨c,l,f,r,h⟩=>⟨f.gG,?_⟩) (dF v) (eZ y);calc Kt (us:=.ref a::b) (vs:=.ref a::c) F (g.mono p) z B f (.cons rfl r) (by have:=h;simp only[List.append_nil]at this;calc this)
end
def UB(K:W.Frag)(B:Addr)(PC:Addr->Prop):Prop:=∀{M:Model} {A:Around} {E:Value->Shared->Prop} {s:Shared} {e C:Addr} {d:Option Addr} {vs:Array Value} {a:Array (Option Value)} {Q:Bool->Shared->Prop},K.In s.heap->PC C->
 s.heap.get? e=some (⟨.ref C,d,.fields vs,a⟩:Obj)->Q true s->wpAny M A (excMatches (.ref e) (.ref B)) Q E s
theorem CV{K:W.Frag}{B:Addr}(a:XBase K B):UB K B (λC=>fY K C B):=λb c d e=>ZY b c a d e
def Mu (PC:Addr->Prop)(i:Nat)(a:XK->TS)(b:TS):TS:=λD σ H=>a (λe _ f=>∃a C d,e=.ref a/\f a=some (XO a C d false)/\PC C/\
 b {nx:=λb c=>D.nx (b.set i none) c,rt:=D.rt,bk:=λb c=>D.bk (b.set i none) c,ct:=λb c=>D.ct (b.set i none) c} (σ.set i (some (.ref a))) f) D σ H
section
variable {X:Cx}{i:Nat}{B:Addr}{PC:Addr->Prop}{tb:XK->TS}{th:TS}{n x:Str}{st b₀:Stmt}{Mv:List Stmt}{np UC pos:Pos}
theorem KQ(y:X.stack=X.env::X.outer)(E:X.env.frame=some X.env.locals)(j:X.N.Nodup)(k:X.N[i]?=some n)(g:X.env.scope.names.lookup n=some .local)(F:Gl X x)(G:X.mg x=some (.ref B))(J:UB X.K B PC)
  (d:XG X st tb) (L:∀a,qE (X.lX a) (b₀::Mv) th) (M:(x==("__debug__":Str))=false:=by decide):
  PS X (.Try [st] [.ExceptHandler (some (.Name x np)) (some n) (b₀::Mv) UC] [] [] pos) (Mu PC i tb th):=by
 walk_at "xd";refine wpAny_Try_except ?_;refine wpAny_execs_cons (cJ (d.out pins s σ H D _ _ (λZ C x r O P=>?_) I h) λf C q=>?_)
 ·obtain⟨a,C0,d0,Q,t,rfl,w,Z,R,o,a',C,d,S,b,U,q⟩:=O.thrown P
  cases S;have l:=w.ok;calc xh (T:=some t) y E w b R (λd z=>by cases z;calc o) λw y t d e _=>?_;rw[Gq b]at t e;calc rL (s:={r with heap:=w}) t d e λW c p=>?_;obtain⟨d,o,Y⟩:=FN c b;calc wpAny_handleBy_cons (codeAny_handlers_test (jL (X:=X.lX a) (c.lX a) F G (J (c.lX a).gG U Y ?_) M)) (by intro z;cases z);calc codeAny_handlers_suite_as (rL (X:=X.lX a) (s:={r with heap:=W}) (c.lX a) p e λd b _=>?_);calc ju (X:=X.lX a) b j k (.inl g) (v:=.ref a) (u:=.ref a) rfl (λb c=>?_) (.inr g);calc aat ((L a) pins b _ Q _ c q) (λf d m=>?_) λ_ _ z=>aam z;show wpAny _ X.A (do bindName X.env n .none;unbindBehindTheSuite X.env n UC) _ _ d
  cases f with
  |next=>
   obtain⟨a,b,c,d⟩:=m;calc qK (c.vE l) j k g λo e=>⟨_,b,e,d⟩
  |brk=>
   obtain⟨a,b,c,d⟩:=m;calc qK (c.vE l) j k g λo e=>⟨_,b,e,d⟩
  |cont=>
   obtain⟨a,b,c,d⟩:=m;calc qK (c.vE l) j k g λo e=>⟨_,b,e,d⟩
  |ret u=>
   obtain⟨v,a,b,c,p,d⟩:=m;exact qK (c.vE l) j k g λo e=>⟨v,_,b,e,p,d⟩
 ·cases f with
  |next=>calc wpAny_execs_nil (wpAny_execs_nil q)
  |ret v=>calc q
  |brk=>calc q
  |cont=>calc q
end
theorem KR {PC:Addr->Prop}{i:Nat}{e:XK->TS}{g:TS}{D:Ends}{σ:St}{H:Hp}(h:∀j:XK,(∀a C d f,f a=some (XO a C d false)->PC C->
  g {nx:=λb c=>D.nx (b.set i none) c,rt:=D.rt,bk:=λb c=>D.bk (b.set i none) c,ct:=λb c=>D.ct (b.set i none) c} (σ.set i (some (.ref a))) f->j (.ref a) none f)->e j D σ H):Mu PC i e g D σ H:=
 h _ λa C d f e b q=>⟨a,C,d,rfl,e,b,q⟩
end
section
structure PB(X:Cx)(gC:List Stmt)(t:XK->TS):Prop where
 out:∀(pins:List (Addr×Obj)) (s:Shared) (σ:St) (H:Hp) (D:Ends) (E:XK) (xe:Value->Shared->Prop),(∀H1 s1 x s',Inv X pins σ H1 s1->wm X.prog X.w X.stack H1 s1 E x s'->xe x s')->Inv X pins σ H s->t E D σ H->
  wpAny (model X.prog X.w) X.A (execs gC X.env) (SP X pins D) xe s
section
variable {X:Cx}{st:Stmt}{t:XK->TS}{pos:Pos}
theorem nL(h:XG X st t):PB X [st] t:=by
 calc⟨λa s σ H D E b c I q=>?_⟩;refine wpAny_execs_cons (cJ (h.out a s σ H D E b c I q) λf d q=>?_)
 cases f with
 |next=>calc wpAny_execs_nil q
 |ret v=>calc q
 |brk=>calc q
 |cont=>calc q
theorem GO{c:Expr}{a b:List Stmt}{f:TT}{g h:XK->TS}(o:PT X.uZ c f)(p:PB X a g)(q:PB X b h):XG X (.If c a b pos) (λE=>yM f (g E) (h E)):=by
 calc⟨λe s σ H D E i j I h=>?_⟩;calc wpAny_If (aat (o.out e s σ H _ (I.lT _) h) (λd k a=>?_) λ_ _ z=>aam z);nofun;obtain⟨l,m,n⟩:=a;ac_rfl
 cases d with
 |true=>calc p.out e k σ l D E i j m.fF n
 |false=>calc q.out e k σ l D E i j m.fF n
end
end
end L2
set_option maxHeartbeats 4000000
namespace L2
open PySem PySem.Spec PyProof.Rows
section
variable {X:Cx}
theorem xC:Passes (wm X.prog X.w) X E0:=λ_ _ _ _ _ _ _ h=>by
 obtain⟨_,_,_,_,_,_,_,_,_,_,_,_,_,_,q⟩:=h;calc q.elim
end
end L2
namespace D9
open PySem L2 DD
def top(i:Nat):Stmt:=PySem.Challenge.pw_cutrestore_k25_letters_events.main.body.getD i (.Pass ⟨0,0,0,0⟩)
structure Tx(K:W.Frag)(mg:Str->Option Value)(C CN CR F:Addr)(FD:List (Str×V)):Prop where
 bq:mg "isinstance"=none
 Em:mg "int"=none
 Eo:mg "bool"=none
 Bv:mg "str"=none
 cB:mg "tuple"=none
 fe:mg "list"=none
 b4:mg "len"=none
 eW:mg "range"=none
 UD:mg "min"=none
 Mw:mg "max"=none
 uz:mg "all"=none
 UE:mg "any"=none
 GP:mg "zip"=none
 eQ:mg "enumerate"=none
 vH:mg "ValueError"=none
 dS:∃t,mg "MOST_DEEDS"=some (.int 24 t)
 dH:∃t,mg "MOST_MODULUS"=some (.int 1000000000000 t)
 dI:∃t,mg "MOST_NUMBERS"=some (.int 4 t)
 ff:∃t,mg "MOST_ROW"=some (.int 12 t)
 df:∃t,mg "MOST_MACHINES"=some (.int 5 t)
 fu:∃t,mg "MOST_WAYS"=some (.int 10 t)
 dJ:∃t,mg "MOST_LETTERS"=some (.int 20 t)
 dU:∃t,mg "SAID_BOUND"=some (.int 1000000000000000000000000000000000000000000000000000000000000 t)
 cN:sL K C
 uA:mg "Machine"=some (.ref C)
 Mx:bJ K C "own_modulus"
 PD:bJ K C "own_state"
 My:bJ K C "own_deeds"
 CW:W.findIn K (.ref C) "__class__"=some (some (.builtin "object.__class__"))
 CY:W.mroIn K C (.type "object")=some true
 cT:sL K CN
 UG:mg "Net"=some (.ref CN)
 xD:bJ K CN "own_machines"
 xE:bJ K CN "own_ways"
 zI:bJ K CN "own_letters"
 GQ:W.findIn K (.ref CN) "__class__"=some (some (.builtin "object.__class__"))
 GR:W.mroIn K CN (.type "object")=some true
 aZ:sL K CR
 UH:mg "Run"=some (.ref CR)
 cU:bJ K CR "own_net"
 dz:bJ K CR "picks_done"
 cm:bJ K CR "states_had"
 dW:bJ K CR "words_had"
 cP:bJ K CR "words_said"
 bL:bJ K CR "letters_say"
 eR:bJ K CR "senders"
 cV:bJ K CR "workers"
 GS:W.findIn K (.ref CR) "__class__"=some (some (.builtin "object.__class__"))
 GU:W.mroIn K CR (.type "object")=some true
 vI:W.specialIn K (.builtin "object.__class__") "__get__"=some (some (.builtin "getset_descriptor.__get__"))
 nM:W.takesIn K (.builtin "object.__class__")=some true
 i_k:W.kitOne K (.ref C) (.ref C)=some true
 Bw:mg "FORMS"=some (.ref F)
 Bx:CD K F FD
 Mz:∀d:bF,∃p,PyProof.Rows.KTD.datumAt d.word FD=some (.ref p)/\∀H,bM K H p (d.sX.map V.str)
structure DX(K:W.Frag)(mg:Str->Option Value)(B:Addr)(c:Nat->Addr):Prop where
 l7:mg "NoLetter"=some (.ref (c 4))
 l8:mg "NotFirst"=some (.ref (c 5))
 l9:mg "NetError"=some (.ref B)
 cl:∀i,i=4\/i=5->fY K (c i) B
 inj:∀i j,i=4\/i=5->j=4\/j=5->c i=c j->i=j
 nB:∀i,i=4\/i=5->c i≠B
 xb:XBase K B
 cG:bJ K (c 4) "at"
theorem oq{X:Cx}{c:Scope}{N:List Str}:sU X c N λY=>Q9 Y [] iM:=λ_ _ _ _=>J7
section
variable {K:W.Frag}{mg:Str->Option Value}{B:Addr}{c:Nat->Addr}
theorem zB(T:DX K mg B c){i j:Nat}(a:i=4\/i=5)(b:j=4\/j=5):W.kitOne K (.ref (c i)) (.ref (c j))=some (decide (i=j)):=by
 unfold W.kitOne;by_cases e:i=j
 ·subst e;rw[if_pos (by simp)];simp
 ·have d:c i≠c j:=λz=>e (T.inj i j a b z);have g:c j≠B:=T.nB j b;rw[if_neg (by simpa using d)];obtain⟨cd,k,l,_⟩:=(T.cl i a).cd;obtain⟨n,q,N,o,p,l,r,m,t,u,v,w,x,y,k⟩:=(T.cl j b).ob;have l:W.typeIn K (.ref (c j))=some (.type "type"):=by show Option.map (·.cls) (K.lookup (c j))=_;rw[k];rfl
  have b:(W.clsIn K (c j)).isSome=true:=by unfold W.clsIn;rw[k];rfl
  have k:=(T.cl i a).mro (.ref (c j));show(if ((W.clsIn K (c j)).isSome&&W.typeIn K (.ref (c j))==some (.type "type"))=true then W.subIn K (.ref (c i)) (.ref (c j)) else none)=_;rw[l,b];simp only[beq_self_eq_true,Bool.and_self,if_true];show W.mroIn K (c i) (.ref (c j))=_;rw[k];have z:((Value.ref (c i)::.ref B::qI).contains (.ref (c j)))=false:=by
   simp[qI,List.contains_cons,d,g,Ne.symm d]
  rw[z];simp[e]
end
end D9
namespace D9
open PySem L2 DD
variable {D a b m p:Addr}{Z:Addr->Prop}{d:bF}{o:HO}{H H' H0 H1 H2:Hp}{e:Int×Int}{ws:List (Int×Int×Str)}{ls:List (Int×Int)}{as:List Addr}{es:List DV}{ns:List Int}{gO:List MD}{mv ys zs:List V}{ad:Nat->Nat->Addr}{r:RS}{σ:St}{f:Str}{dd st tn z:V}{Q:VK}
section
variable {P:Program}{w:World}{K:W.Frag}{mg:Str->Option Value}{base:Heap}{C CN CR F B:Addr}{c:Nat->Addr}{FD:List (Str×V)}
local macro_rules | `(tactic| walk_at "s") => `(tactic| exact ⟨rfl, rfl, rfl, by decide +kernel, rfl, by decide +kernel, by decide +kernel⟩)
def zqI(s:String):Array Lean.Ident:=(s.splitOn " ").toArray.map (Lean.mkIdent ·.toName)
def zqK:=zqI "tV tT Uy GB GC GD GG GH GI Et tC JI Y2 rU AK tB N0 Ey NZ YT Ex Sw YU EA N8 LX Ce gX Ob tX Q8 wD Ck Ot Ou wB Fc zg zf Tc vj Fe ze Pp Ur yR A9 Ba Bb FY FZ F3 Mm F4 F5 Bi F7 F8 F9 Gd Ge Gf Bj SS vb E2 JO Oq pZ AN Zj OD Gh Gg Oc YW yN id_eq O9 FW OZ EJ L3 Mb oK Mg Fu Fx Fy Fz Mh FA FC FE FG FH Mi Bc wW iM vm uu Tu Ft Me Mf L2.start List.map_cons List.map_nil List.cons_append List.nil_append List.replicate List.getElem?_cons_zero List.getElem?_cons_succ List.set_cons_zero List.set_cons_succ"
def zqL:=zqI "zy zz vp vq vt vv List.length_cons List.length_nil List.append_nil Option.some.injEq exists_eq_left' exists_eq_left V.int.injEq V.bl.injEq V.str.injEq V.ref.injEq List.cons.injEq and_true true_and Nat.reduceSub Nat.reduceAdd"
local macro_rules | `(tactic| simp_arith only [$xs,*]) => let l:=zqK; `(tactic| simp only [$[$l:ident],*, ↓Bk, ↓xf, ↓rH, ↓uw, ↓rJ, $xs,*])
local macro_rules | `(tactic| simp_arith! only [$xs:simpLemma,*]) => let l:=zqK; `(tactic| dsimp only [$[$l:ident],*, ↓Bk, ↓xf, ↓rH, ↓uw, ↓rJ, $xs:simpLemma,*])
local macro_rules | `(tactic| walk_at "l0") => `(tactic| simp_arith! only [yM, Cd, nz])
local macro_rules | `(tactic| walk_at "l1") => let l:=zqL; `(tactic| simp_arith only [yM, Cd, nz, $[$l:ident],*])
local macro_rules | `(tactic| walk_at "l2") => `(tactic| simp_arith! only [yM, Cd])
local macro_rules | `(tactic| walk_at "l3") => let l:=zqL; `(tactic| simp_arith only [yM, Cd, $[$l:ident],*])
local macro_rules | `(tactic| walk_at "l4") => `(tactic| simp_arith! only [nz])
local macro_rules | `(tactic| walk_at "l5") => let l:=zqL; `(tactic| simp_arith only [nz, $[$l:ident],*])
local macro_rules | `(tactic| walk_at "rd") => `(tactic| first | (walk_at "l0"; try walk_at "l1") | walk_at "l1")
local macro_rules | `(tactic| right) => `(tactic| try walk_at "rd")
local macro_rules | `(tactic| walk_at "rt") => `(tactic| first | (walk_at "l2"; try walk_at "l3") | walk_at "l3")
local macro_rules | `(tactic| walk_at "gj") => `(tactic| first
  |refine dR (by assumption) (by first|rfl|exact aA (j := 0) rfl|exact aA (j := 1) rfl|exact aA (j := 2) rfl|exact aA (j := 3) rfl) ?_
  |refine bC (by assumption) (by first|rfl|exact aA (j := 0) rfl|exact aA (j := 1) rfl|assumption) ?_
  |rw [if_pos (by decide +kernel)]
  | rw [if_neg (by decide +kernel)])
local macro_rules | `(tactic| walk_at "go") => `(tactic| repeat (first|walk_at "rd"|walk_at "gj"))
local macro_rules | `(tactic| walk_at "r0") => `(tactic| first | (walk_at "l4"; try walk_at "l5") | walk_at "l5")
local macro_rules | `(tactic| walk_at "rh") => `(tactic| first | with_reducible refine L2.Pq ?_ | (with_reducible refine L2.cY ?_; intro N hN) | (with_reducible refine L2.qL ?_; intro T U hT hU))
local macro_rules | `(tactic| walk_at "rn") => `(tactic| (refine L2.da (by assumption) ?_; (repeat walk_at "rh"); try walk_at "r0"))
local macro_rules | `(tactic| walk_at "jd") => `(tactic| first
  |(walk_at "rh"; (repeat walk_at "rh"); (try walk_at "r0"); repeat walk_at "rn")
  |(walk_at "rn"; repeat walk_at "rn")
  | (walk_at "r0"; repeat walk_at "rn"))
local macro_rules | `(tactic| left) => `(tactic| try walk_at "jd")
local macro_rules | `(tactic| walk_at "jt") => `(tactic| first | (walk_at "l2"; try walk_at "l3") | walk_at "l3")
local macro_rules | `(tactic| walk_at "jg") => `(tactic| repeat (first|walk_at "jd"|walk_at "gj"))
theorem xF:p6 (ys++[z]).length (-1)=some ys.length:=by
 unfold p6;rw[if_neg (by decide),if_pos (by simp;lia)];congr 1;simp;lia
theorem jz:hJ (ys++[z]) (-1)=some z:=by
 unfold hJ;rw[xF];simp
theorem GV{α:Type}{ys:List α}{z y:α}:(ys++[z]).set ys.length y=ys++[y]:=by simp
theorem qC{c:HO}:upd (upd H a o) a c=upd H a c:=by
 funext b;by_cases h:b=a
 ·subst h;rw[af,af]
 ·rw[ay h,ay h,ay h]
def eG(H:Hp)(p:Addr):Prop:=∃xs:List Int,H p=some (.lst (xs.map V.int))/\1<=xs.length
structure Step(p:Addr)(H H':Hp):Prop where
 fX:eG H' p
 rest:∀b o,H b=some o->b≠p->H' b=some o
theorem Step.refl(h:eG H p):Step p H H:=⟨h,λ_ _ e _=>e⟩
theorem Step.trans(a:Step p H H1)(b:Step p H1 H2):Step p H H2:=⟨b.fX,λc o e n=>b.rest c o (a.rest c o e n) n⟩
theorem eG.same(s:av H H')(h:eG H p):eG H' p:=by
 obtain⟨a,e,h⟩:=h;calc⟨a,s _ _ e,h⟩
theorem Step.same(a:Step p H H1)(b:av H1 H2):Step p H H2:=⟨a.fX.same b,λc o e n=>b _ _ (a.rest c o e n)⟩
theorem Step.set(a:Step p H H1)(xs:List Int)(h:1<=xs.length):Step p H (upd H1 p (.lst (xs.map V.int))):=
 ⟨⟨xs,af,h⟩,λc o e n=>by rw[ay n];calc a.rest c o e n⟩
theorem Step.new{q:Addr}(a:Step p H H1){o:HO}(b:H1 q=none):Step p H (upd H1 q o):=a.same (av.new o b)
theorem Step.aS(a:Step p H H1)(c:eG H p):bS H H1:=λb d e=>a.rest b _ e λz=>by
 subst z;obtain⟨a,h,_⟩:=c;rw[h]at e;cases e
theorem Step.ne{q:Addr}(c:eG H p)(b:H q=none):q≠p:=λz=>by
 subst z;obtain⟨a,h,_⟩:=c;rw[h]at b;cases b
theorem Step.over(s:av H0 H1)(a:H0 p=none)(st:Step p H1 H2):av H0 H2:=λb o e=>st.rest b o (s b o e) (au e a)
theorem eG.upd{q:Addr}(h:eG H p)(b:p≠q):eG (upd H q o) p:=by
 obtain⟨a,e,h⟩:=h;calc⟨a,by rw[ay b];calc e,h⟩
abbrev me:Stmt:=top 10
def iP:Sp:=λvs H Q _=>∃x t,vs=[x]/\Kd H x t/\Q (.bl (Z0 x)) H
theorem zJ(D:cZ K mg "is_whole" "is_whole" me ["thing"])(T:Tx K mg C CN CR F FD):Def P w K mg base "is_whole" 1 ["thing"] iP:=by
 have sc:aE ["thing"] ["thing"] (az me):=by walk_at "s"
 symm
 ·obtain⟨x,t,rfl,a,q⟩:=h;rfl
 ·nofun;obtain⟨x,t,rfl,a,q⟩:=h;ac_rfl;have d:=hr.units;walk_at "xf";walk_at "rd";nofun;obtain⟨b,c,d,e,g⟩:=Pj (K:=K) a;ac_rfl;refine cF t b a.ty d ?_;rw[g] at q
  cases b
  ·rw[if_neg Bool.false_ne_true];exact q
  ·rw[if_pos rfl];calc⟨t,c,a.ty,e,q⟩
abbrev kx:Stmt:=top 11
def cp:Sp:=λvs H Q _=>∃x t a b,vs=[x,.int a,.int b]/\Kd H x t/\Q (.bl (inR a b x)) H
theorem xG(D:cZ K mg "is_within" "is_within" kx ["thing","low","beyond"])(T:Tx K mg C CN CR F FD)(j:Def P w K mg base "is_whole" 1 ["thing"] iP):Def P w K mg base "is_within" 2 ["thing","low","beyond"] cp:=by
  have sc:aE ["thing","low","beyond"] ["thing","low","beyond"] (az kx):=by walk_at "s"
  symm
  · obtain⟨x,t,a,b,rfl,g,q⟩:=h;rfl
  · nofun;obtain⟨x,t,a,b,rfl,g,q⟩:=h;ac_rfl;have k:=hr.units;refine⟨_,(ao (aI (fE (aM j hr (ag (aq 0) aa)) (ic (wC zi gK (aq 1) (aq 0) (aq 2)))))),?_⟩;walk_at "rd";refine cF x t rfl g ?_
    cases g<;>first
      | (rename_i i
         show ∃c,V.bl true=.bl c/\_;calc⟨true,rfl,?_⟩;rw[if_pos rfl];walk_at "rd";by_cases d:a<=i
         · rw[if_pos (by simpa using d)];have e:inR a b (.int i)=decide (i < b):=by simp[inR,d]
           rw[e]at q;exact q
         · rw[if_neg (by simpa using d)];have e:inR a b (.int i)=false:=by simp[inR,d]
           rw[e] at q;calc q)
      | (show ∃c,V.bl false=.bl c/\_
         calc⟨false,rfl,?_⟩;rw[if_neg Bool.false_ne_true];calc q)
abbrev rT:Stmt:=top 47
def GW(K:W.Frag):Sp:=λvs H Q _=>∃(a:Addr) (ns:List Int) (k:Int),vs=[.ref a,.int k]/\aR K H a (ns.map V.int)/\0<=k/\∀c,Q (.int c) H
theorem GX(D:cZ K mg "_law_at" "_law_at" rT ["_law_script","_law_k"])(T:Tx K mg C CN CR F FD):Def P w K mg base "_law_at" 1 ["_law_script","_law_k"] (GW K):=by
 have sc:aE ["_law_script","_law_k"] ["_law_script","_law_k"] (az rT):=by walk_at "s"
 symm
 ·obtain⟨a,ns,k,rfl,b,c,q⟩:=h;rfl
 ·nofun;obtain⟨a,ns,k,rfl,b,c,q⟩:=h;ac_rfl;have e:=hr.units;refine⟨_,(aj (aT (aC gK (aq 1) (bg aP rfl T.b4 U' (ag (aq 0) aa)) (aH _)) (ao (aI (ak e (aq 0) (aq 1)))) aJ)
   (ao (aI ai))),?_⟩
  walk_at "rd";refine bE _ (.inl ⟨_,b,rfl⟩) ?_;rw[List.length_map];by_cases d:k<(ns.length:Int)
  ·rw[if_pos (by simpa using d)];obtain⟨n,rfl⟩:=aaq c;have e:n < ns.length:=by lia
   exact⟨_,.int ns[n],.inl b,aA (by rw[List.getElem?_map,cE e];rfl),q _⟩
  ·rw[if_neg (by simpa using d)];calc q _
abbrev oR:Stmt:=top 48
def GY:Sp:=λvs H Q _=>∃n:Int,vs=[.int n]/\∀(p:Addr) (xs:List Int),H p=none->1<=xs.length->Q (.ref p) (upd H p (.lst (xs.map V.int)))
theorem CZ(D:cZ K mg "_law_pot" "_law_pot" oR ["_law_cell"])(T:Tx K mg C CN CR F FD):Def P w K mg base "_law_pot" 1 ["_law_cell"] GY:=by
 have sc:aE ["_law_cell","_law_number","_law_pot_here","_law_k"] ["_law_cell"] (az oR):=by walk_at "s"
 symm
 ·obtain⟨n,rfl,q⟩:=h;rfl
 ·nofun;obtain⟨n,rfl,q⟩:=h;ac_rfl;have c:=hr.units;refine⟨_,(aj (ba (i:=1) sc.nd rfl (by grind) (aU cR (aU cK (aU eP (aq 0) ai) ai) ai))
   (aj (ba (i:=2) sc.nd rfl (by grind) (bR (ag ai aa)))
   (aj (fH PassesOwn.never rfl (de rfl T.eW (ag ai aa)) (bb (i:=3) sc.nd rfl (by grind))
   (aj (ba (i:=1) sc.nd rfl (by grind) (aU cK (aU cR (aU cR (aU lx (aq 1) (aq 1)) (aU lx ai (aq 1))) (aq 3)) ai))
   (ao (fG (aU cR (aU lx (ak c (aq 2) ai) ai) (aq 1)) (iT (aq 2) ai d9)))))
   (aj (aT (PW.pt (pw_and (aC (aV c) (aU cK (aq 0) ai) ai (aH _)) (pw_and1 (aC (gD c) (aU eP (aq 0) ai) ai (aH _))))) (ao (cj (dD oj qA qB ck (aq 2) (ag (aU eP (aq 0) ai) aa)))) aJ)
   (ao (aI (aq 2))))))),?_⟩
  right;have d:Fl n 2:=⟨by decide,by decide⟩
  calc gN d (by decide) ?_;right;calc⟨by show 1<=sizeLine;decide,λp e=>?_⟩;have c:=aaE (n/2) (b:=2147483629) (by decide);have c:=aaC (n/2) (b:=2147483629) (by decide);refine⟨40,rfl,by decide,by decide,jw (n:=40) (λi σ H'=>∃(u a:Int) (z:Option V),0<=u/\u<2147483648/\σ=[some (.int n),some (.int u),some (.ref p),z]/\H'=upd H p (.lst [.int a])) ?_ ?_ ?_⟩
  ·exact⟨_,0,none,by lia,by lia,rfl,rfl⟩
  ·intro i σ H' o k;nofun;obtain⟨u,a,z,g,l,rfl,rfl⟩:=k;ac_rfl;right;calc⟨.inl ⟨by lia,by lia⟩,?_⟩;right;calc gN (.inl ⟨by lia,by lia⟩) (by decide) ?_;right;calc bC af (aA (j:=0) rfl) ?_;right;calc⟨.inr ⟨by decide,by decide⟩,?_⟩;right;calc cF _ 0 af rfl ?_;right;have c:=aaE (u*u+48271*u+(0+(i:Int))) (b:=2147483647) (by decide);have k:=aaC (u*u+48271*u+(0+(i:Int))) (b:=2147483647) (by decide);exact⟨_,_,_,c,by lia,⟨rfl,rfl⟩,qC⟩
  ·intro σ H' m;nofun;obtain⟨u,a,z,g,l,rfl,rfl⟩:=m;ac_rfl;right;calc⟨by decide,?_⟩;right;split
   ·calc⟨d,?_⟩;right;split
    ·calc gN (.inl ⟨rfl,_,aR.of af⟩) d ?_;right;calc hX _ af (aG (by simp)) ?_;right;rw[qC];exact q p [a,n/2] e (by simp)
    ·right;exact q p [a] e (by simp)
   ·right;calc q p [a] e (by simp)
abbrev ky:Stmt:=top 49
def jH:Sp:=λvs H Q _=>∃(p:Addr) (m:Int),vs=[.ref p,.int m]/\eG H p/\0<m/\m.natAbs.log2<9000/\∀d H',0<=d->d<m->Step p H H'->Q (.int d) H'
theorem xI(D:cZ K mg "_law_digit" "_law_digit" ky ["_law_pot_here","_law_many"])(T:Tx K mg C CN CR F FD):Def P w K mg base "_law_digit" 1 ["_law_pot_here","_law_many"] jH:=by
 have sc:aE ["_law_pot_here","_law_many","_law_digit_here"] ["_law_pot_here","_law_many"] (az ky):=by walk_at "s"
 symm
 ·obtain⟨p,m,rfl,k,g,r,q⟩:=h;rfl
 ·nofun;obtain⟨p,m,rfl,k,g,r,q⟩:=h;ac_rfl;have j:=hr.units;refine⟨_,(aj (ba (i:=2) sc.nd rfl (by grind) (aU cK (ak j (aq 0) (ki ig ai)) (aq 1)))
   (aj (fG (aU eP (ak j (aq 0) (ki ig ai)) (aq 1)) (iT (aq 0) (ki ig ai) d9))
   (aj (aT (PW.pt (pw_and (aC (aV j) (ak j (aq 0) (ki ig ai)) ai (aH _)) (pw_and1 (aC oM (bg aP rfl T.b4 U' (ag (aq 0) aa)) ai (aH _))))) (ao (cj (OE oj PySem.F.slot_list_pop PySem.F.type_list_pop OG (aq 0)))) aJ)
   (ao (aI (aq 2)))))),?_⟩
  nofun;obtain⟨l,c,t⟩:=id k;obtain⟨ys,z,rfl⟩:∃ys z,l=ys++[z]:=⟨l.dropLast,l.getLast (by intro e;rw[e]at t;simp at t),(List.dropLast_concat_getLast _).symm⟩
  rw[List.map_append]at c
  replace c:H p=some (.lst (ys.map V.int++[.int z])):=c
  ac_rfl;have d:Step p H H:=Step.refl k;right;calc cF _ _ (.inl (aR.of c)) jz ?_;right;calc⟨g,?_⟩;right;calc cF _ _ (.inl (aR.of c)) jz ?_;right;calc⟨⟨g,r⟩,?_⟩;right;calc cF _ _ c xF ?_;rw[GV];calc cF _ _ (.inl (aR.of af)) jz ?_;have n:=aaE z (b:=m) (by lia);have o:=aaC z g;have u:Step p H (upd H p (.lst (ys.map V.int++[.int (z/m)]))):=by
   have:=d.set (ys++[z/m]) (by simp);rw[List.map_append]at this;exact this
  right;split
  ·calc bE _ (.inl ⟨_,aR.of af,rfl⟩) ?_;right;split
   ·rename_i a;have a:1<=ys.length:=by
     simp at a;lia
    calc⟨.inl ⟨rfl,_,aR.of af⟩,?_⟩;calc⟨p,_,.int (z/m),rfl,rfl,af,by simp,?_⟩;right;rw[List.dropLast_concat,qC];exact q _ _ n o (d.set ys a)
   ·right;exact q _ _ n o u
  ·right;calc q _ _ n o u
theorem zK:EK 10 60:=⟨by decide,by decide,by decide +kernel⟩
theorem PF:EK 10 12:=⟨by decide,by decide,by decide +kernel⟩
theorem PH:EL 2 (10^Int.toNat 60):=.inl ⟨by decide +kernel,by decide +kernel⟩
theorem UJ:(0:Int)<2*10^Int.toNat 60-1:=by decide +kernel
theorem UK:(2*10^Int.toNat 60-1:Int).natAbs.log2<9000:=by decide +kernel
theorem PJ:(0:Int)<10^Int.toNat 60:=by decide +kernel
theorem PK:(10^Int.toNat 60:Int).natAbs.log2<9000:=by decide +kernel
theorem UL:(0:Int)<10^Int.toNat 12-1:=by decide +kernel
theorem PM:(10^Int.toNat 12-1:Int).natAbs.log2<9000:=by decide +kernel
theorem dig{m:Int}{E:XK}(a:eG H p)(b:0<m)(c:m.natAbs.log2<9000)(q:∀d H',0<=d->d<m->Step p H H'->Q (.int d) H'):jH [.ref p,.int m] H Q E:=⟨p,m,rfl,a,b,c,q⟩
abbrev mf:Stmt:=top 16
def GZ:Sp:=λvs H Q _=>∃x m n d,vs=[x,.int m]/\HD H n x d/\∀H',av H H'->Q (.bl (CL m d)) H'
theorem KS{K:W.Frag}{H:Hp}{n:Nat}{x:V}{d:DV}(h:HD H n x d)(a:∀c,d≠.tup c):∃t,gb K H x t/\W.kitOne K t (.type "tuple")=some false:=by
 cases h with
 |bD=>calc⟨_,.bD,rfl⟩
 |bl b=>calc⟨_,.bl b,rfl⟩
 |int i=>calc⟨_,.int i,rfl⟩
 |str x=>calc⟨_,.str x,rfl⟩
 |tup e=>calc absurd rfl (a _)
 |lst e=>calc⟨_,.lst e,rfl⟩
 |dict e=>calc⟨_,.dK e,rfl⟩
theorem KU{K:W.Frag}{H:Hp}{n:Nat}{x:V}{d:DV}(h:HD H n x d)(a:∀s,d≠.str s):∃t,gb K H x t/\W.kitOne K t (.type "str")=some false:=by
 cases h with
 |bD=>calc⟨_,.bD,rfl⟩
 |bl b=>calc⟨_,.bl b,rfl⟩
 |int i=>calc⟨_,.int i,rfl⟩
 |str x=>calc absurd rfl (a _)
 |tup e=>calc⟨_,.tup e,rfl⟩
 |lst e=>calc⟨_,.lst e,rfl⟩
 |dict e=>calc⟨_,.dK e,rfl⟩
theorem KW{m:Int}{d:DV}(b:∀a,d≠.tup a):CL m d=false:=by
 cases d with
 |tup a=>calc absurd rfl (b a)
 |_=>rfl
theorem G8{m:Int}{d:DV}{r:List DV}(a:∀s,d≠.str s):CL m (.tup (d::r))=false:=by
 cases d with
 |str s=>calc absurd rfl (a s)
 |_=>rfl
theorem zL(D:cZ K mg "is_value" "is_value" mf ["thing","many"])(T:Tx K mg C CN CR F FD)(W:Def P w K mg base "is_whole" 1 ["thing"] iP)(X:Def P w K mg base "is_within" 2 ["thing","low","beyond"] cp):Def P w K mg base "is_value" 3 ["thing","many"] GZ:=by
 have sc:aE ["thing","many","word"] ["thing","many"] (az mf):=by walk_at "s"
 symm
 ·obtain⟨x,m,n,d,rfl,L,q⟩:=h;rfl
 ·nofun;obtain⟨x,m,n,d,rfl,L,q⟩:=h;ac_rfl;have k:=hr.units;refine⟨_,(aj (aT (PW.pt (pw_or (bV (bz (bg dC rfl T.bq yK (ag (aq 0) (ag (dB (v:=.ty "tuple") rfl T.cB sR rfl) aa))))) (pw_or (aC (aV k) (bg aP rfl T.b4 U' (ag (aq 0) aa)) ai (aH _)) (pw_or1 (bV (bz (bg dC rfl T.bq yK (ag (ak k (aq 0) ai) (ag (dB (v:=.ty "str") rfl T.Bv PyProof.Rows.boot_str rfl) aa))))))))) (ao (aI gH)) aJ)
   (aj (ba (i:=2) sc.nd rfl (by grind) (ak k (aq 0) ai))
   (aj (aT (aC Fs (aq 2) (bQ (ag aD (ag aD (ag aD aa)))) (by with_unfolding_all rfl)) (ao (aI (gB (aV k) (bg aP rfl T.b4 U' (ag (aq 0) aa)) ai (aH _)))) aJ)
   (aj (aT (aC (gD k) (bg aP rfl T.b4 U' (ag (aq 0) aa)) ai (aH _)) (ao (aI gH)) aJ)
   (aj (aT (aC (aV k) (aq 2) aD (aH _)) (ao (aI (aM W hr (ag (ak k (aq 0) ai) aa)))) aJ)
   (ao (aI (fE (gB (aV k) (aq 2) aD (aH _)) (ic (aM X hr (ag (ak k (aq 0) ai) (ag ai (ag (aq 1) aa))))))))))))),?_⟩
  walk_at "rd";by_cases k:∀l,d≠.tup l
  ·obtain⟨t,o,M⟩:=KS (K:=K) L k;calc cF t false o M ?_;rw[KW k]at q;exact q H (av.refl H)
  ·have:∃l,d=.tup l:=Classical.byContradiction λz=>k λl e=>z ⟨l,e⟩;obtain⟨l,rfl⟩:=this
   cases L with
   | @tup n a Y _ B N S=>
    refine⟨.type "tuple",true,.tup B,rfl,?_⟩;simp only[Bool.not_true,Bool.false_eq_true,if_false];refine bE _ (.inr ⟨_,bM.of B,rfl⟩) ?_;right;rcases l with _|⟨O,b⟩<;>rcases Y with _|⟨Z,G⟩
    ·exact q H (av.refl H)
    ·cases N
    ·cases N
    ·skip
     rw[if_neg (by simp;lia)];calc cF _ _ (.inr (bM.of B)) (aA (j:=0) rfl) ?_;have U:=S 0 Z O rfl rfl;by_cases k:∀s,O≠.str s
     ·obtain⟨t,o,M⟩:=KU (K:=K) U k;calc cF t false o M ?_;rw[G8 k]at q;exact q H (av.refl H)
     ·have:∃s,O=.str s:=Classical.byContradiction λz=>k λl e=>z ⟨l,e⟩;nofun;obtain⟨g,rfl⟩:=this;obtain rfl:=U.bO;ac_rfl;refine⟨.type "str",true,.str _,rfl,?_⟩;simp only[Bool.not_true,Bool.false_eq_true,if_false];refine cF _ _ (.inr (bM.of B)) (aA (j:=0) rfl) ?_;right;refine⟨by decide,λp k=>?_⟩;have r:av H (upd H p (.tup [.str "letter",.str "way",.str "first"])):=av.new _ k;have I:=r _ _ B;refine Pt _ (.inr (bM.of af)) rfl rfl ?_;right;have u:G.length=b.length:=by simpa using N
      by_cases J:AX (.str g) rN=true
      ·have R:CL m (.tup (.str g::b))=decide (b.length=0):=by
        show(if AX (.str g) rN=true then decide (b.length=0) else _)=_;rw[if_pos J]
       rw[if_pos (show AX (.str g) [.str "letter",.str "way",.str "first"]=true from J)];refine bE _ (.inr ⟨_,bM.of I,rfl⟩) ?_;right;have e:decide (((G.length+1:Nat):Int)=1)=decide (b.length=0):=by
        rw[u];by_cases z:b.length=0
        ·rw[decide_eq_true z,decide_eq_true (by lia)]
        ·rw[decide_eq_false z,decide_eq_false (by lia)]
       rw[R]at q;have c:=q _ r;rw[<-e]at c;exact c
      ·have R:CL m (.tup (.str g::b))=Kv g m b:=by
        show(if AX (.str g) rN=true then decide (b.length=0) else _)=_;rw[if_neg J]
       rw[if_neg (show ¬AX (.str g) [.str "letter",.str "way",.str "first"]=true from J)];refine bE _ (.inr ⟨_,bM.of I,rfl⟩) ?_;right;rw[R]at q;rcases b with _|⟨z,_|⟨z',b⟩⟩<;>rcases G with _|⟨y,_|⟨k,G⟩⟩
       ·rw[if_pos (by simp)];exact q _ r
       ·cases u
       ·cases u
       ·cases u
       ·skip
        rw[if_neg (by simp)];have o:=(S 1 y z rfl rfl).same r;obtain⟨t,l⟩:=Ua o;by_cases b:g="is"
        ·rw[if_pos (by simpa using b)];calc⟨_,_,.inr (bM.of I),rfl,y,t,rfl,l,?_⟩;have c:=q _ r;simp only[Kv,if_pos b]at c;rw[Pl o];exact c
        ·rw[if_neg (by simpa using b)];have c:=q _ r;simp only[Kv,if_neg b] at c;by_cases k:g="number"
         ·rw[if_pos (by simpa using k)];calc⟨_,_,.inr (bM.of I),rfl,y,t,0,m,rfl,l,?_⟩;rw[decide_eq_true k,Bool.true_and]at c;rw[Pm o];exact c
         ·rw[if_neg (by simpa using k)];rw[decide_eq_false k,Bool.false_and]at c;exact c
       ·simp at u
       ·cases u
       ·simp at u
       ·rw[if_pos (by simp;lia)];calc q _ r
abbrev oS:Stmt:=top 12
def mh:Sp:=λvs H Q _=>∃(a:Addr) (xs:List V) (b c:Int),vs=[.ref a,.int b,.int c]/\(H a=some (.lst xs)\/H a=some (.tup xs))/\∀H',av H H'->Q (.bl (decide (b<=(xs.length:Int))&&decide ((xs.length:Int)<=c))) H'
theorem C8(D:cZ K mg "is_list" "is_list" oS ["things","least","most"])(T:Tx K mg C CN CR F FD):Def P w K mg base "is_list" 1 ["things","least","most"] mh:=by
 have sc:aE ["things","least","most"] ["things","least","most"] (az oS):=by walk_at "s"
 symm
 ·obtain⟨a,d,g,i,rfl,b,q⟩:=h;rfl
 ·nofun;obtain⟨a,d,g,i,rfl,b,q⟩:=h;ac_rfl;have i:=hr.units;refine⟨_,(ao (aI (fE (bg dC rfl T.bq yK (ag (aq 0) (ag (bQ (ag (dB (v:=.ty "list") rfl T.fe AB rfl) (ag (dB (v:=.ty "tuple") rfl T.cB sR rfl) aa))) aa))) (ic (wC zi zi (aq 1) (bg aP rfl T.b4 U' (ag (aq 0) aa)) (aq 2)))))),?_⟩;right;refine⟨dq,λp i=>?_⟩;have c:av H (upd H p (.tup [.ty "list",.ty "tuple"])):=av.new _ i;have e:∃t,gb K (upd H p (.tup [.ty "list",.ty "tuple"])) (.ref a) t/\W.kitAny K t [.type "list",.type "tuple"]=some true/\EN K (.ref a) (upd H p (.tup [.ty "list",.ty "tuple"])) d.length:=by
   rcases b with b|b
   ·exact⟨_,.lst (c _ _ b),rfl,.inl ⟨_,aR.of (c _ _ b),rfl⟩⟩
   ·exact⟨_,.tup (c _ _ b),rfl,.inr ⟨_,bM.of (c _ _ b),rfl⟩⟩
  obtain⟨t,i,j,k⟩:=e;calc Uv t true _ _ i af rfl j ?_;rw[if_pos rfl];calc bE _ k ?_;have b:=q _ c;by_cases h:g<=(d.length:Int)
  ·rw[if_pos (by simpa using h)];rw[decide_eq_true h,Bool.true_and]at b;exact b
  ·rw[if_neg (by simpa using h)];rw[decide_eq_false h,Bool.false_and]at b;calc b
abbrev oU:Stmt:=top 22
def By(K:W.Frag):Sp:=λvs H Q _=>∃d:bF,vs=[.str d.word]/\∀p,bM K H p (d.sX.map V.str)->Q (.ref p) H
theorem C9(D:cZ K mg "form_of" "form_of" oU ["word"])(T:Tx K mg C CN CR F FD):Def P w K mg base "form_of" 1 ["word"] (By K):=by
 have sc:aE ["word"] ["word"] (az oU):=by walk_at "s"
 symm
 ·obtain⟨d,rfl,q⟩:=h;rfl
 ·nofun;obtain⟨d,rfl,q⟩:=h;ac_rfl;have a:=hr.units;calc⟨_,(ao (aI (Kj T.Bx rfl T.Bw (ag (aq 0) aa)))),?_⟩;obtain⟨p,a,b⟩:=T.Mz d;show Q ((PyProof.Rows.KTD.datumAt d.word FD).getD .bD) H;rw[a];calc q p (b H)
abbrev oV:Stmt:=top 23
inductive jT(H:Hp)(m:Int):V->Str->Prop
 |value {n x v}:HT H n x (Val.dv v)->v.ok m->jT H m x "value"
 |number {i}:0<=i->i<m->jT H m (.int i) "number"
 |many {i}:1<=i->i<25->jT H m (.int i) "many"
 |way {i}:0<=i->jT H m (.int i) "way"
theorem jT.same{H H':Hp}{m:Int}{x:V}{w:Str}(s:av H H')(h:jT H m x w):jT H' m x w:=by
 cases h with
 |value a b=>calc .value (a.aK s.aS) b
 |number a b=>calc .number a b
 |many a b=>calc .many a b
 |way a=>calc .way a
def Bz:Sp:=λvs H Q _=>∃x w m,vs=[x,.str w,.int m]/\jT H m x w/\∀H',av H H'->Q (.bl true) H'
theorem Dc(D:cZ K mg "is_part" "is_part" oV ["thing","sort","many"])(T:Tx K mg C CN CR F FD)(d:Def P w K mg base "is_value" 3 ["thing","many"] GZ)(g:Def P w K mg base "is_whole" 1 ["thing"] iP)(b:Def P w K mg base "is_within" 2 ["thing","low","beyond"] cp):Def P w K mg base "is_part" 4 ["thing","sort","many"] Bz:=by
 have sc:aE ["thing","sort","many"] ["thing","sort","many"] (az oV):=by walk_at "s"
 symm
 ·obtain⟨x,w,m,rfl,c,q⟩:=h;rfl
 ·nofun;obtain⟨x,w,m,rfl,c,q⟩:=h;ac_rfl;have a:=hr.units;refine⟨_,(aj (aT (aC (aV a) (aq 1) aD (aH _)) (ao (aI (aM d hr (ag (aq 0) (ag (aq 2) aa))))) aJ)
   (aj (aT (aC (aV a) (aq 1) aD (aH _)) (ao (aI (aM b hr (ag (aq 0) (ag ai (ag (aq 2) aa)))))) aJ)
   (aj (aT (aC (aV a) (aq 1) aD (aH _)) (ao (aI (aM b hr (ag (aq 0) (ag ai (ag (aU cR (fM T.dS rfl) ai) aa)))))) aJ)
   (ao (aI (fE (aM g hr (ag (aq 0) aa)) (ic (gB OV (aq 0) ai (aH _))))))))),?_⟩
  right
  cases c with
  | @value n x v a b=>
   rw[if_pos (by decide +kernel)];calc fS x m n _ rfl a.hd (λH' s=>?_);rw[Pn b];calc q H' s
  | @number i a b=>
   rw[if_neg (by decide +kernel),if_pos (by decide +kernel)];calc fS (.int i) _ 0 m rfl (.int i) ?_;have e:inR 0 m (.int i)=true:=by simp[inR,a,b]
   rw[e];calc q H (av.refl H)
  | @many i a b=>
   rw[if_neg (by decide +kernel),if_neg (by decide +kernel),if_pos (by decide +kernel)];calc fS (.int i) _ 1 _ rfl (.int i) ?_;have e:inR 1 (24+1) (.int i)=true:=by simp[inR,a];lia
   rw[e];calc q H (av.refl H)
  | @way i a=>
   rw[if_neg (by decide +kernel),if_neg (by decide +kernel),if_neg (by decide +kernel)];calc⟨.int i,_,rfl,.int i,true,rfl,?_⟩;rw[if_pos rfl];have e:decide ((0:Int)<=i)=true:=decide_eq_true a;right;rw[e];calc q H (av.refl H)
abbrev oW:Stmt:=top 24
theorem aaj{x:V}{a:List V}:eJ (x::a) (some 1) none=a:=by
 unfold eJ;have e:HT.eE (x::a).length 0 (some 1)=1:=by
  show(if (1:Int)<0 then((1:Int)+((x::a).length:Int)).toNat else min (1:Int).toNat (x::a).length)=1;rw[if_neg (by decide)];show min 1 (a.length+1)=1;lia
 rw[e];show List.take ((x::a).length-1) a=a;simp
theorem zM{H:Hp}{n:Nat}{x:V}{d:bF}{m:Int}(h:HT H n x d.dv)(f:d.ok m):∃a q,x=.ref a/\H a=some (.tup (.str d.word::q))/\q.length=d.sX.length/\∀(i:Nat) p s,q[i]?=some p->d.sX[i]?=some s->jT H m p s:=by
 cases d with
 |set i v=>
  nofun;obtain⟨a,u,y,z,k,rfl,e,g,l,o⟩:=bX h;obtain rfl:=g.bO;obtain rfl:=l.bN;ac_rfl;refine sZ a _ rfl e rfl (λj p s b c=>?_)
  match j,b,c with
  |0,b,c=>cases b;cases c;calc .number f.1 f.2.1
  |1,b,c=>cases b;cases c;calc .value o f.2.2
 |add i v=>
  nofun;obtain⟨a,u,y,z,k,rfl,e,g,l,o⟩:=bX h;obtain rfl:=g.bO;obtain rfl:=l.bN;ac_rfl;refine sZ a _ rfl e rfl (λj p s b c=>?_)
  match j,b,c with
  |0,b,c=>cases b;cases c;calc .number f.1 f.2.1
  |1,b,c=>cases b;cases c;calc .value o f.2.2
 |times i v=>
  nofun;obtain⟨a,u,y,z,k,rfl,e,g,l,o⟩:=bX h;obtain rfl:=g.bO;obtain rfl:=l.bN;ac_rfl;refine sZ a _ rfl e rfl (λj p s b c=>?_)
  match j,b,c with
  |0,b,c=>cases b;cases c;calc .number f.1 f.2.1
  |1,b,c=>cases b;cases c;calc .value o f.2.2
 |put v=>
  nofun;obtain⟨a,u,y,k,rfl,e,g,l⟩:=cy h;obtain rfl:=g.bO;ac_rfl;refine sZ a _ rfl e rfl (λj p s b c=>?_)
  match j,b,c with
  |0,b,c=>cases b;cases c;calc .value l f
 |drop=>
  nofun;obtain⟨a,u,k,rfl,e,g⟩:=gf h;obtain rfl:=g.bO;ac_rfl;calc⟨a,_,rfl,e,rfl,λj p s b c=>by simp at b⟩
 |send j v=>
  nofun;obtain⟨a,u,y,z,k,rfl,e,g,l,o⟩:=bX h;obtain rfl:=g.bO;obtain rfl:=l.bN;ac_rfl;refine sZ a _ rfl e rfl (λj p s b c=>?_)
  match j,b,c with
  |0,b,c=>cases b;cases c;calc .way f.1
  |1,b,c=>cases b;cases c;calc .value o f.2
 |say v=>
  nofun;obtain⟨a,u,y,k,rfl,e,g,l⟩:=cy h;obtain rfl:=g.bO;ac_rfl;refine sZ a _ rfl e rfl (λj p s b c=>?_)
  match j,b,c with
  |0,b,c=>cases b;cases c;calc .value l f
 |skip v w i=>
  nofun;obtain⟨a,u,y,z,t,k,rfl,e,g,l,o,r⟩:=jQ h;obtain rfl:=g.bO;obtain rfl:=r.bN;ac_rfl;refine sZ a _ rfl e rfl (λj p s b c=>?_)
  match j,b,c with
  |0,b,c=>cases b;cases c;calc .value l f.1
  |1,b,c=>cases b;cases c;calc .value o f.2.1
  |2,b,c=>cases b;cases c;calc .many f.2.2.1 f.2.2.2
theorem zN:d.sX.length<=3:=by cases d<;>simp[bF.sX]
def uB:Sp:=λvs H Q _=>∃x m n d,vs=[x,.int m]/\HT H n x (bF.dv d)/\d.ok m/\∀H',av H H'->Q (.bl true) H'
theorem Dd(D:cZ K mg "is_deed" "is_deed" oW ["thing","many"])(T:Tx K mg C CN CR F FD)(l:Def P w K mg base "form_of" 1 ["word"] (By K))(S:Def P w K mg base "is_part" 4 ["thing","sort","many"] Bz):Def P w K mg base "is_deed" 5 ["thing","many"] uB:=by
 have sc:aE ["thing","many","form"] ["thing","many"] (az oW):=by walk_at "s"
 symm
 ·obtain⟨x,m,n,d,rfl,L,M,q⟩:=h;rfl
 ·nofun;obtain⟨x,m,n,d,rfl,L,M,q⟩:=h;ac_rfl;have k:=hr.units;refine⟨_,(aj (aT (PW.pt (pw_or (bV (bz (bg dC rfl T.bq yK (ag (aq 0) (ag (dB (v:=.ty "tuple") rfl T.cB sR rfl) aa))))) (pw_or (aC (aV k) (bg aP rfl T.b4 U' (ag (aq 0) aa)) ai (aH _)) (pw_or1 (bV (bz (bg dC rfl T.bq yK (ag (ak k (aq 0) ai) (ag (dB (v:=.ty "str") rfl T.Bv PyProof.Rows.boot_str rfl) aa))))))))) (ao (aI gH)) aJ)
   (aj (ba (i:=2) sc.nd rfl (by grind) (aM l hr (ag (ak k (aq 0) ai) aa)))
   (aj (aT (PW.pt (pw_or (aC vn (aq 2) iS (aH _)) (pw_or1 (aC (gD k) (bg aP rfl T.b4 U' (ag (aq 0) aa)) (aU cR (bg aP rfl T.b4 U' (ag (aq 2) aa)) ai) (aH _))))) (ao (aI gH)) aJ)
   (ao (aI (bg (jA rfl) rfl T.uz Sm (ag (dE (N':=["part","sort","many"]) (ix:=[none,none,some 1]) (FX rfl T.GP (ag (vD (aq 0) (lj ai) qG) (ag (aq 2) aa))) (λ_ _ _ _=>(lA (K:=K) rfl (i:=0) (j:=1) rfl (show(["part","sort","many"]:List Str).Nodup by decide +kernel) rfl rfl (by grind) (by grind))) oq (λ_ _ _ _=>(aM S hr (ag (aq 0) (ag (aq 1) (ag (aq 2) aa)))))) aa))))))),?_⟩
  nofun;obtain⟨a,g,rfl,k,l,U⟩:=zM L M;ac_rfl;have S:=zN (d:=d);right;calc cF _ true (.tup k) rfl ?_;simp only[Bool.not_true,Bool.false_eq_true,if_false];calc bE _ (.inr ⟨_,bM.of k,rfl⟩) ?_;rw[if_neg (by simp;lia)];calc⟨_,.str d.word,.inr (bM.of k),aA (j:=0) rfl,_,true,.str _,rfl,?_⟩;simp only[Bool.not_true,Bool.false_eq_true,if_false];calc⟨_,.str d.word,.inr (bM.of k),aA (j:=0) rfl,d,rfl,λp L=>?_⟩;right;rw[if_neg Bool.false_ne_true];calc⟨_,.inr ⟨_,bM.of k,rfl⟩,_,.inr ⟨_,L,rfl⟩,?_⟩;rw[if_neg (by simp[l])];calc bT ?_;right;calc .inr ⟨_,k,λM H2 G r=>?_⟩;rw[aaj]at r;have y:=G.Rc L;calc fS false false _ _ (Sq.t r) y (λD N=>?_);refine bx (J:=XA false false K M p) (n:=g.length) (λi ys H'=>ys=List.replicate i (V.bl true)/\av H2 H') (P' (aG (by lia))) ⟨rfl,av.new _ N⟩ ?_ ?_ ?_ ?_
  ·rintro i ys H' I ⟨_,c⟩;exact⟨g,d.sX.map V.str,g[i],.str (d.sX[i]'(by lia)),Sq.t (c _ _ r),c.Rc y,cE I,by rw[List.getElem?_map,cE (by lia)];rfl⟩
  ·rintro ys H' ⟨_,c⟩;exact⟨g,d.sX.map V.str,Sq.t (c _ _ r),c.Rc y,.inl rfl⟩
  ·intro i ys H' I B O W x H4 X;nofun;obtain⟨rfl,c⟩:=W;obtain⟨T,Y,rfl,Z⟩:=X;obtain⟨u,v,e1,R,rfl⟩:=Z g (d.sX.map V.str) (Sq.t (c _ _ r)) (c.Rc y);rw[List.getElem?_map]at R;obtain⟨z,ez,rfl⟩:=Option.map_eq_some_iff.mp R;ac_rfl;have k:av H' (upd H' T (.tup [u,.str z])):=av.new _ Y;calc yG (bM.of af) ⟨Ext.set (Ext.set (Ext.refl _) rfl) rfl,?_⟩;right;rw[if_pos trivial];calc aae u z m rfl ((U i u z e1 ez).same (G.trans (c.trans k))) (λn l=>?_);have r:n D=some (.lst (List.replicate i (V.bl true))):=l _ _ (k _ _ B);calc cn r O I (P' (aG (by lia))) ⟨jC _ _,λb o e=>?_⟩;rw[ay (au e N)];exact l _ _ (k _ _ (c _ _ e))
  ·rintro ys H' B O ⟨rfl,c⟩;right;rw[oP] at B;calc bE _ (aR.of B) ?_;have e:(List.replicate g.length true).all id=true:=by simp
   rw[e];calc q _ (G.trans c)
abbrev iW:Stmt:=top 30
def LT(H:Hp)(a:Addr)(xs:List V):Prop:=H a=some (.lst xs)\/H a=some (.tup xs)
theorem LT.same{xs:List V}(s:av H H')(h:LT H a xs):LT H' a xs:=h.elim (λz=>.inl (s _ _ z)) (λz=>.inr (s _ _ z))
theorem jI{K:W.Frag}(h:LT H a ys)(q:∀p H',av H H'->H' p=some (.tup ys)->Q (.ref p) H'):vo K [.ref a] H Q:=by
 rcases h with h|h
 ·exact .inl ⟨_,aR.of h,λl b=>q l _ (av.new _ b) af⟩
 ·calc .inr ⟨_,bM.of h,q a H (av.refl H) h⟩
def rV:Sp:=λvs H Q _=>∃(a:Addr) (ns:List Int) (c b M:Int),vs=[.ref a,.int c,.int b,.int M]/\LT H a (ns.map V.int)/\c<=(ns.length:Int)/\(ns.length:Int)<=b/\b<=100/\(∀z∈ns,0<=z/\z<M)/\∀H',av H H'->Q (.bl true) H'
theorem tf(D:cZ K mg "are_counted" "are_counted" iW ["things","least","most","modulus"])(T:Tx K mg C CN CR F FD)(L:Def P w K mg base "is_list" 1 ["things","least","most"] mh)(N:Def P w K mg base "is_within" 2 ["thing","low","beyond"] cp):Def P w K mg base "are_counted" 3 ["things","least","most","modulus"] rV:=by
 have sc:aE ["things","least","most","modulus"] ["things","least","most","modulus"] (az iW):=by walk_at "s"
 symm
 ·obtain⟨a,ns,B,G,M,rfl,g,I,m,v,y,q⟩:=h;rfl
 ·nofun;obtain⟨a,ns,B,G,M,rfl,g,I,m,v,y,q⟩:=h;ac_rfl;have v:=hr.units;refine⟨_,(ao (aI (fE (aM L hr (ag (aq 0) (ag (aq 1) (ag (aq 2) aa)))) (ic (bg (jA rfl) rfl T.uz Sm (ag (dE (N':=["thing","modulus"]) (ix:=[none,some 3]) (cu (pv 0)) (λ_ _ _ _=>(bb (i:=0) (show(["thing","modulus"]:List Str).Nodup by decide +kernel) rfl (by grind))) oq (λ_ _ _ _=>(aM N hr (ag (aq 0) (ag ai (ag (aq 1) aa)))))) aa)))))),?_⟩;right;refine fS a _ B G rfl g (λH1 k=>?_);rw[List.length_map,decide_eq_true I,decide_eq_true m];show ∃c,V.bl true=.bl c/\_;refine bE true rfl ?_;rw[if_pos rfl];refine bT ?_;right;rcases g with g | g
  ·calc .inl ⟨⟨_,aR.of (k _ _ g)⟩,λD p=>?_⟩;refine bx (J:=u7 K a) (n:=ns.length) (λi ys H'=>ys=List.replicate i (V.bl true)/\av H1 H') (P' (aG (by lia))) ⟨rfl,av.new _ p⟩ ?_ ?_ ?_ ?_
   ·rintro i ys H' j ⟨_,d⟩;exact⟨_,.int ns[i],aR.of (d _ _ (k _ _ g)),by rw[List.getElem?_map,cE j];rfl⟩
   ·rintro ys H' ⟨_,d⟩;exact⟨_,aR.of (d _ _ (k _ _ g)),by simp⟩
   ·intro i ys H' j l r O x R S;nofun;obtain⟨rfl,d⟩:=O;obtain⟨rfl,z⟩:=S;have t:=z _ (aR.of (d _ _ (k _ _ g)));rw[List.getElem?_map,cE j] at t;obtain rfl:=Option.some.inj t;ac_rfl;walk_at "xg";right;rw[if_pos trivial];refine fS (.int ns[i]) _ 0 M rfl (.int _) ?_;have u:=y ns[i] (aai j);have e:inR 0 M (.int ns[i])=true:=by simp[inR,u.1,u.2]
    rw[e];calc cn l r j (P' (aG (by lia))) ⟨jC _ _,λb o e=>?_⟩;rw[ay (au e p)];exact d _ _ e
   ·rintro ys H' l r ⟨rfl,d⟩;right;rw[oP] at l;calc bE _ (aR.of l) ?_;have e:(List.replicate ns.length true).all id=true:=by simp
    rw[e];exact q _ (k.trans d)
  ·calc .inr ⟨⟨_,bM.of (k _ _ g)⟩,λD p=>?_⟩;refine bx (J:=Sx K a) (n:=ns.length) (λi ys H'=>ys=List.replicate i (V.bl true)/\av H1 H') (P' (aG (by lia))) ⟨rfl,av.new _ p⟩ ?_ ?_ ?_ ?_
   ·rintro i ys H' j ⟨_,d⟩;exact⟨_,.int ns[i],bM.of (d _ _ (k _ _ g)),by rw[List.getElem?_map,cE j];rfl⟩
   ·rintro ys H' ⟨_,d⟩;exact⟨_,bM.of (d _ _ (k _ _ g)),by simp⟩
   ·intro i ys H' j l r U x R W;nofun;obtain⟨rfl,d⟩:=U;obtain⟨rfl,z⟩:=W;have t:=z _ (bM.of (d _ _ (k _ _ g)));rw[List.getElem?_map,cE j] at t;obtain rfl:=Option.some.inj t;ac_rfl;walk_at "xg";right;rw[if_pos trivial];refine fS (.int ns[i]) _ 0 M rfl (.int _) ?_;have u:=y ns[i] (aai j);have e:inR 0 M (.int ns[i])=true:=by simp[inR,u.1,u.2]
    rw[e];calc cn l r j (P' (aG (by lia))) ⟨jC _ _,λb o e=>?_⟩;rw[ay (au e p)];exact d _ _ e
   ·rintro ys H' l r ⟨rfl,d⟩;right;rw[oP] at l;calc bE _ (aR.of l) ?_;have e:(List.replicate ns.length true).all id=true:=by simp
    rw[e];calc q _ (k.trans d)
abbrev gh:Stmt:=top 31
def BA:Sp:=λvs H Q _=>∃(M:Int) (b c ad:Addr) (ns a:List Int) (xs:List V),vs=[.int M,.ref b,.ref c,.ref ad]/\2<=M/\M<=1000000000000/\LT H b (ns.map V.int)/\LT H c (a.map V.int)/\LT H ad xs/\1<=ns.length/\ns.length<=4/\a.length<=12/\(∀z∈ns,0<=z/\z<M)/\(∀z∈a,0<=z/\z<M)/\∀H',av H H'->Q .bD H'
theorem o7(D:cZ K mg "refuse_machine" "refuse_machine" gh ["modulus","numbers","row","deeds"])(T:Tx K mg C CN CR F FD)(c:Def P w K mg base "are_counted" 3 ["things","least","most","modulus"] rV)(u:Def P w K mg base "is_within" 2 ["thing","low","beyond"] cp):Def P w K mg base "refuse_machine" 4 ["modulus","numbers","row","deeds"] BA:=by
 have sc:aE ["modulus","numbers","row","deeds"] ["modulus","numbers","row","deeds"] (az gh):=by walk_at "s"
 symm
 ·obtain⟨M,d,g,ad,ns,a,x,rfl,i,y,j,k,l,B,G,I,m,n,q⟩:=h;rfl
 ·nofun;obtain⟨M,d,g,ad,ns,a,x,rfl,i,y,j,k,l,B,G,I,m,n,q⟩:=h;ac_rfl;have x:=hr.units;refine⟨_,(aj (aT (bV (bz (aM u hr (ag (aq 0) (ag ai (ag (aU cR (fM T.dH rfl) ai) aa)))))) (ao dY) aJ)
   (aj (aT (bV (bz (aM c hr (ag (aq 1) (ag ai (ag (fM T.dI rfl) (ag (aq 0) aa))))))) (ao dY) aJ)
   (aj (aT (bV (bz (aM c hr (ag (aq 2) (ag ai (ag (fM T.ff rfl) (ag (aq 0) aa))))))) (ao dY) aJ)
   (ao (aT (bV (bz (bg dC rfl T.bq yK (ag (aq 3) (ag (bQ (ag (dB (v:=.ty "list") rfl T.fe AB rfl) (ag (dB (v:=.ty "tuple") rfl T.cB sR rfl) aa))) aa))))) (ao dY) aJ))))),?_⟩
  right;calc fS (.int M) _ 2 _ rfl (.int M) ?_;have e:inR 2 (1000000000000+1) (.int M)=true:=by simp[inR,i];lia
  rw[e];right;rw[if_neg (by decide)];calc Ux d ns 1 4 M rfl j (by lia) (by lia) (by decide) m (λH1 b=>?_);right;rw[if_neg (by decide)];calc Ux g a 0 12 M rfl (k.same b) (by lia) (by lia) (by decide) n (λH2 o=>?_);right;rw[if_neg (by decide)];calc⟨dq,λp a=>?_⟩;have r:av H2 (upd H2 p (.tup [.ty "list",.ty "tuple"])):=av.new _ a;have J:∃t,gb K (upd H2 p (.tup [.ty "list",.ty "tuple"])) (.ref ad) t/\W.kitAny K t [.type "list",.type "tuple"]=some true:=by
   rcases l.same (b.trans (o.trans r)) with z|z
   ·exact⟨_,.lst z,rfl⟩
   ·exact⟨_,.tup z,rfl⟩
  obtain⟨t,a,c⟩:=J;calc Uv t true _ _ a af rfl c ?_;right;rw[if_neg (by decide)];calc q _ (b.trans (o.trans r))
abbrev il:Stmt:=top 32
def DL(H:Hp)(n:Nat)(xs:List V)(a:List bF):Prop:=xs.length=a.length/\∀(i:Nat) x d,xs[i]?=some x->a[i]?=some d->HT H n x (bF.dv d)
theorem DL.aK{n:Nat}{xs:List V}{a:List bF}(s:bS H H')(h:DL H n xs a):DL H' n xs a:=⟨h.1,λi x d a b=>(h.2 i x d a b).aK s⟩
theorem DL.ht{n:Nat}{xs:List V}{b:List bF}(h:DL H n xs b)(e:H a=some (.tup xs)):HT H (n+1) (.ref a) (.tup (b.map bF.dv)):=by
 calc .tup e (by rw[List.length_map];calc h.1) λi u d f c=>?_;rw[List.getElem?_map]at c;obtain⟨dd,g,rfl⟩:=Option.map_eq_some_iff.mp c;calc h.2 i u dd f g
def BB:Sp:=λvs H Q _=>∃(a:Addr) (xs:List V) (b:List bF) (m:Int) (n:Nat),vs=[.ref a,.int m]/\LT H a xs/\DL H n xs b/\b.length<=24/\(∀d∈b,d.ok m)/\∀H',av H H'->Q .bD H'
theorem rW(D:cZ K mg "refuse_deeds" "refuse_deeds" il ["deeds","many"])(T:Tx K mg C CN CR F FD)(B:Def P w K mg base "is_deed" 5 ["thing","many"] uB):Def P w K mg base "refuse_deeds" 6 ["deeds","many"] BB:=by
 have sc:aE ["deeds","many","at","deed"] ["deeds","many"] (az il):=by walk_at "s"
 symm
 ·obtain⟨a,c,e,m,n,rfl,d,g,G,u,q⟩:=h;rfl
 ·nofun;obtain⟨a,c,e,m,n,rfl,d,g,G,u,q⟩:=h;ac_rfl;have G:=hr.units;refine⟨_,(ao (fH PassesOwn.never rfl (ly rfl T.eQ (ag (aq 0) aa)) (iV (i:=2) (j:=3) rfl sc.nd rfl rfl (by grind) (by grind))
   (ao (aT (PW.pt (pw_or (aC (aV G) (aq 2) (fM T.dS rfl) (aH _)) (pw_or1 (bV (bz (aM B hr (ag (aq 3) (ag (aq 1) aa)))))))) (ao dY) aJ)))),?_⟩
  rcases d with d|d
  ·calc Gz true c (Sq.l d) ?_;refine nE (xs:=c) (λi σ H'=>av H H'/\∃k o,σ=[some (.ref a),some (.int m),k,o]) ⟨av.refl H,none,none,rfl⟩ (λi σ H' ⟨b,_⟩=>Sq.l (b _ _ d)) ?_ ?_
   ·intro i x σ H1 T p I v;nofun;obtain⟨b,k,o,rfl⟩:=I;ac_rfl;have y:i < c.length:=(List.getElem?_eq_some_iff.mp p).1;have jE:i < e.length:=by rw[<-g.1];exact y
    have r:av H1 (upd H1 T (.tup [.int i,x])):=av.new _ v;calc yG (bM.of af) ?_;right;rw[if_neg (by simp;lia)];calc⟨x,m,n,e[i],rfl,(g.2 i x e[i] p (cE jE)).aK (b.trans r).aS,u _ (aai jE),λJ z=>?_⟩;right
    first|rw[if_neg (by decide)]|skip
    exact⟨b.trans (r.trans z),_,_,rfl,rfl⟩
   ·rintro σ H1 ⟨b,_⟩;exact q _ b
  ·calc Gz false c (Sq.t d) ?_;refine nE (xs:=c) (λi σ H'=>av H H'/\∃k o,σ=[some (.ref a),some (.int m),k,o]) ⟨av.refl H,none,none,rfl⟩ (λi σ H' ⟨b,_⟩=>Sq.t (b _ _ d)) ?_ ?_
   ·intro i x σ H1 T p L v;nofun;obtain⟨b,k,o,rfl⟩:=L;ac_rfl;have y:i < c.length:=(List.getElem?_eq_some_iff.mp p).1;have jE:i < e.length:=by rw[<-g.1];exact y
    have r:av H1 (upd H1 T (.tup [.int i,x])):=av.new _ v;calc yG (bM.of af) ?_;right;rw[if_neg (by simp;lia)];calc⟨x,m,n,e[i],rfl,(g.2 i x e[i] p (cE jE)).aK (b.trans r).aS,u _ (aai jE),λJ z=>?_⟩;right
    first|rw[if_neg (by decide)]|skip
    exact⟨b.trans (r.trans z),_,_,rfl,rfl⟩
   ·rintro σ H1 ⟨b,_⟩;calc q _ b
abbrev pb:Stmt:=(cf (top 36)).getD 0 (.Pass ⟨0,0,0,0⟩)
def Jl(M:Int)(st dd:V):List (Str×V):=bf "own_deeds" dd (bf "own_state" st (bf "own_modulus" (.int M) []))
theorem UM{M:Int}:(Jl M st dd).lookup ("own_modulus":Str)=some (.int M):=by
 unfold Jl;rw[bu,if_neg (by decide +kernel),bu,if_neg (by decide +kernel),bu,if_pos rfl]
theorem aal{M:Int}:(Jl M st dd).lookup ("own_state":Str)=some st:=by
 unfold Jl;rw[bu,if_neg (by decide +kernel),bu,if_pos rfl]
theorem UN{M:Int}:(Jl M st dd).lookup ("own_deeds":Str)=some dd:=by
 unfold Jl;rw[bu,if_pos rfl]
theorem BC{M:Int}(a:f≠"own_modulus")(b:f≠"own_state")(c:f≠"own_deeds"):(Jl M st dd).lookup f=none:=by
 unfold Jl;rw[bu,if_neg c,bu,if_neg b,bu,if_neg a];rfl
theorem bU{v:V}{a:List (Str×V)}{n:Nat}(h:a.length<n):(bf f v a).length<n+1:=by
 have:=kj f v a;lia
def ip(C:Addr)(H:Hp)(m:Addr)(M:Int)(ns a:List Int)(b:List bF):Prop:=∃c st dd,H m=some (.ins C c (Jl M st dd))/\HT H 2 st (yE ns a)/\HT H 4 dd (.tup (b.map bF.dv))
theorem ip.same{C:Addr}{M:Int}{a:List Int}{b:List bF}(s:av H H')(h:ip C H m M ns a b):ip C H' m M ns a b:=by
 obtain⟨a,st,dd,b,c,d⟩:=h;calc⟨a,st,dd,s _ _ b,c.aK s.aS,d.aK s.aS⟩
def BD(C:Addr):Sp:=λvs H Q _=>∃(x g:Addr) (M:Int) (e f ad:Addr) (ns a:List Int) (xs:List V) (c:List bF) (n:Nat),vs=[.ref x,.int M,.ref e,.ref f,.ref ad]/\H x=some (.ins C g [])/\2<=M/\M<=1000000000000/\LT H e (ns.map V.int)/\LT H f (a.map V.int)/\LT H ad xs/\1<=ns.length/\ns.length<=4/\a.length<=12/\
 (∀z∈ns,0<=z/\z<M)/\(∀z∈a,0<=z/\z<M)/\DL H n xs c/\n<=3/\c.length<=24/\(∀d∈c,d.ok ns.length)/\∀H',ip C H' x M ns a c->(∀b o,b≠x->H b=some o->H' b=some o)->Q .bD H'
theorem Df(D:CI K mg "Machine" C "Machine.__init__" pb ["self","modulus","numbers","row","deeds"])(T:Tx K mg C CN CR F FD)(iq:Def P w K mg base "refuse_deeds" 6 ["deeds","many"] BB)(gj:Def P w K mg base "refuse_machine" 4 ["modulus","numbers","row","deeds"] BA):xc P w K mg base "Machine" C 7 ["self","modulus","numbers","row","deeds"] (BD C):=by
 have sc:aE ["self","modulus","numbers","row","deeds"] ["self","modulus","numbers","row","deeds"] (az pb):=by walk_at "s"
 symm
 ·obtain⟨x,a,M,O,ar,ad,ns,g,v,ds,n,rfl,y,De,o8,B,R,m,MA,Rq,nN,hb,PQ,S,p,MB,aW,q⟩:=h;rfl
 ·nofun;obtain⟨x,a,M,O,ar,ad,ns,g,v,ds,n,rfl,y,De,o8,B,R,m,MA,Rq,nN,hb,PQ,S,p,MB,aW,q⟩:=h;ac_rfl;have p:=hr.units;refine⟨_,(aj (cj (aM gj hr (ag (aq 1) (ag (aq 2) (ag (aq 3) (ag (aq 4) aa))))))
   (aj (cj (aM iq hr (ag (aq 4) (ag (bg aP rfl T.b4 U' (ag (aq 2) aa)) aa))))
   (aj (fJ (aq 0) (aq 1) (fL rfl))
   (aj (fJ (aq 0) (bQ (ag (dZ cH rfl T.cB sR (ag (aq 2) aa)) (ag (dZ cH rfl T.cB sR (ag (aq 3) aa)) aa))) (fL rfl))
   (ao (fJ (aq 0) (dZ cH rfl T.cB sR (ag (aq 4) aa)) (fL rfl))))))),?_⟩
  try walk_at "rt"
  refine⟨M,O,ar,ad,ns,g,v,rfl,De,o8,B,R,m,MA,Rq,nN,hb,PQ,λH1 I=>?_⟩
  try walk_at "rt"
  have p:EN K (.ref O) H1 (ns.map V.int).length:=(B.same I).elim (λz=>.inl ⟨_,aR.of z,rfl⟩) (λz=>.inr ⟨_,bM.of z,rfl⟩);calc bE _ p ?_;calc aah ad v ds _ n rfl (m.same I) (S.aK I.aS) MB (by rw[List.length_map];calc aW) (λH2 O=>?_);have Jm:=I.trans O
  try walk_at "rt"
  have p:=Jm _ _ y;calc⟨x,C,a,[],rfl,p,T.cN,T.Mx,by decide,?_⟩;have r:∀{b:Addr} {ys:List V},LT H b ys->b≠x:=λh z=>by
   subst z;rcases h with h|h<;>(rw[y]at h;cases h)
  have U:∀b o,b≠x->H b=some o->upd H2 x (.ins C a (bf "own_modulus" (.int M) [])) b=some o:=λb o d e=>by rw[ay d];exact Jm _ _ e
  have t:∀{b:Addr} {ys:List V},LT H b ys->LT (upd H2 x (.ins C a (bf "own_modulus" (.int M) []))) b ys:=λh=>by
   have i:=r h;exact h.elim (λz=>.inl (U _ _ i z)) (λz=>.inr (U _ _ i z))
  have u:upd H2 x (.ins C a (bf "own_modulus" (.int M) [])) x=some (.ins C a (bf "own_modulus" (.int M) [])):=af;generalize MC:upd H2 x (.ins C a (bf "own_modulus" (.int M) []))=G2 at *
  try walk_at "rt"
  refine jI (t B) λJ p s3 vK=>?_
  try walk_at "rt"
  refine jI ((t R).same s3) λL W s4 ou=>?_
  try walk_at "rt"
  calc⟨dq,λc p=>?_⟩;have X:=av.new (.tup [.ref J,.ref L]) p;have j:=s3.trans (s4.trans X)
  try walk_at "rt"
  calc qk x C a _ rfl (j _ _ u) T.cN T.PD (bU (n:=999) (by decide)) ?_;have Y:HT (upd W c (.tup [.ref J,.ref L])) 2 (.ref c) (yE ns g):=c9 af (nI (X _ _ (s4 _ _ vK))) (nI (X _ _ ou));have Z:=j _ _ u;have N:∀b o,b≠x->H b=some o->upd W c (.tup [.ref J,.ref L]) b=some o:=λb o d e=>j _ _ (U b o d e);generalize hG:upd W c (.tup [.ref J,.ref L])=G at *;have tG:bS H G:=λb ys e=>N b _ (λz=>by subst z;rw[y]at e;cases e) e;have t6:bS G (upd G x (.ins C a (bf "own_state" (.ref c) (bf "own_modulus" (.int M) [])))):=(bS.refl G).upd λys e=>by rw[Z]at e;cases e
  have e6:LT (upd G x (.ins C a (bf "own_state" (.ref c) (bf "own_modulus" (.int M) [])))) ad v:=by
   have i:=r m;exact m.elim (λz=>.inl (by rw[ay i];calc N _ _ i z)) (λz=>.inr (by rw[ay i];calc N _ _ i z))
  have n6:∀b o,b≠x->H b=some o->upd G x (.ins C a (bf "own_state" (.ref c) (bf "own_modulus" (.int M) []))) b=some o:=λb o d e=>by rw[ay d];exact N b o d e
  have k:upd G x (.ins C a (bf "own_state" (.ref c) (bf "own_modulus" (.int M) []))) x=some (.ins C a (bf "own_state" (.ref c) (bf "own_modulus" (.int M) []))):=af;generalize PR:upd G x (.ins C a (bf "own_state" (.ref c) (bf "own_modulus" (.int M) [])))=G6 at *
  try walk_at "rt"
  refine jI e6 λt4 H7 l zP=>?_
  try walk_at "rt"
  calc qk x C a _ rfl (l _ _ k) T.cN T.My (bU (n:=999) (bU (n:=998) (by decide))) ?_;have ne4:t4≠x:=λz=>by subst z;rw[l _ _ k]at zP;cases zP
  have t8:bS H7 (upd H7 x (.ins C a (Jl M (.ref c) (.ref t4)))):=(bS.refl _).upd λys e=>by rw[l _ _ k]at e;cases e
  refine q _ ⟨a,.ref c,.ref t4,af,(Y.aK t6).aK (l.aS.trans t8),?_⟩ λb o d e=>?_
  ·calc HT.mono (n:=n+1) ?_ (by lia);calc DL.ht (S.aK (tG.trans (t6.trans (l.aS.trans t8)))) ?_;rw[ay ne4];exact zP
  ·rw[ay d];calc l _ _ (n6 b o d e)
abbrev nO:Stmt:=(cf (top 36)).getD 1 (.Pass ⟨0,0,0,0⟩)
theorem zQ:aE ["self"] ["self"] (az nO):=by walk_at "s"
abbrev eB:Stmt:=(cf (top 36)).getD 2 (.Pass ⟨0,0,0,0⟩)
def Hc(C:Addr):Sp:=λvs H Q _=>∃(m:Addr) (M:Int) (ns a:List Int) (b:List bF),vs=[.ref m]/\ip C H m M ns a b/\∀st,HT H 2 st (yE ns a)->Q st H
theorem ke(D:gL K C "first_state" "Machine.first_state" eB ["self"])(T:Tx K mg C CN CR F FD):d7 P w K mg base C "first_state" 1 ["self"] (Hc C):=by
 have sc:aE ["self"] ["self"] (az eB):=by walk_at "s"
 symm
 ·obtain⟨m,M,ns,a,e,rfl,⟨b,st,dd,c,d,g⟩,q⟩:=h;rfl
 ·nofun;obtain⟨m,M,ns,a,e,rfl,⟨b,st,dd,c,d,g⟩,q⟩:=h;ac_rfl;have a:=hr.units;calc⟨_,(ao (aI (bP (aq 0) rfl))),?_⟩;calc⟨m,C,b,_,_,rfl,c,T.cN,T.PD,aal,q _ d⟩
theorem UO{H:Hp}{n:Nat}{x:V}{b:List bF}(h:HT H (n+1) x (.tup (b.map bF.dv))):∃a xs,x=.ref a/\H a=some (.tup xs)/\DL H n xs b:=by
 cases h with
 | @tup _ a xs _ e l i=>
  calc⟨a,xs,rfl,e,by simpa using l,λj x d b c=>i j x _ b ?_⟩;rw[List.getElem?_map,c];rfl
def gY(H:Hp)(n:Nat)(ys:List V)(es:List DV):Prop:=ys.length=es.length/\∀(i:Nat) y e,ys[i]?=some y->es[i]?=some e->HT H n y e
theorem gY.nil{n:Nat}:gY H n [] []:=⟨rfl,λi y e h=>by simp at h⟩
theorem gY.aK{n:Nat}(h:gY H n ys es)(t:bS H H'):gY H' n ys es:=⟨h.1,λi y e a b=>(h.2 i y e a b).aK t⟩
theorem gY.snoc{n:Nat}{y:V}{e:DV}(h:gY H n ys es)(g:HT H n y e):gY H n (ys++[y]) (es++[e]):=by
 calc⟨by simp[h.1],λi c f a b=>?_⟩;by_cases c:i<ys.length
 ·rw[List.getElem?_append_left c]at a;rw[List.getElem?_append_left (by rw[<-h.1];calc c)]at b;exact h.2 i _ _ a b
 ·rw[List.getElem?_append_right (by lia)] at a;rw[List.getElem?_append_right (by rw[<-h.1];lia),<-h.1] at b
  cases d:i-ys.length with
  |zero=>rw[d]at a b;cases a;cases b;calc g
  |succ k=>rw[d]at a;simp at a
theorem gY.dl{n:Nat}{xs:List V}{a:List bF}(h:gY H n xs (a.map bF.dv)):DL H n xs a:=⟨by simpa using h.1,λi x d a b=>h.2 i x _ a (by rw[List.getElem?_map,b];rfl)⟩
abbrev rX:Stmt:=top 42
abbrev Rr(C:Addr)(H:Hp)(m:Addr)(d:MD):Prop:=ip C H m d.M d.ns d.row d.ds
def lL(w:Int×Int×Str):DV:=.tup [.int w.1,.int w.2.1,.str w.2.2]
def ql(l:Int×Int):DV:=.tup [.int l.1,.int l.2]
def uC(m:Int)(w:Int×Int×Str):Prop:=0<=w.1/\w.1<m/\0<=w.2.1/\w.2.1<m/\(w.2.2="row"\/w.2.2="heap")
def uD(m:Int)(l:Int×Int):Prop:=0<=l.1/\l.1<m/\1-1000000000000000000000000000000000000000000000000000000000000<=l.2/\l.2<1000000000000000000000000000000000000000000000000000000000000
def xM:Sp:=λvs H Q _=>∃(x:V) (n:Nat) (a b:Int) (c:Str) (m:Int),vs=[x,.int m]/\HT H n x (lL (a,b,c))/\uC m (a,b,c)/\∀H',av H H'->Q (.bl true) H'
theorem Hd(D:cZ K mg "is_way" "is_way" rX ["thing","many"])(T:Tx K mg C CN CR F FD)(l:Def P w K mg base "is_within" 2 ["thing","low","beyond"] cp):Def P w K mg base "is_way" 3 ["thing","many"] xM:=by
 have sc:aE ["thing","many"] ["thing","many"] (az rX):=by walk_at "s"
 symm
 ·obtain⟨x,n,c,d,g,m,rfl,o,r,q⟩:=h;rfl
 ·nofun;obtain⟨x,n,c,d,g,m,rfl,o,r,q⟩:=h;ac_rfl;have i:=hr.units;refine⟨_,(aj (aT (PW.pt (pw_or (bV (bz (bg dC rfl T.bq yK (ag (aq 0) (ag (dB (v:=.ty "tuple") rfl T.cB sR rfl) aa))))) (pw_or (aC (gD i) (bg aP rfl T.b4 U' (ag (aq 0) aa)) ai (aH _)) (pw_or1 (bV (bz (bg dC rfl T.bq yK (ag (ak i (aq 0) ai) (ag (dB (v:=.ty "str") rfl T.Bv PyProof.Rows.boot_str rfl) aa))))))))) (ao (aI gH)) aJ)
   (ao (aI (fE (aM l hr (ag (ak i (aq 0) ai) (ag ai (ag (aq 1) aa)))) (fE (aM l hr (ag (ak i (aq 0) ai) (ag ai (ag (aq 1) aa)))) (ic (gB Fs (ak i (aq 0) ai) (bQ (ag aD (ag aD aa))) (by with_unfolding_all rfl)))))))),?_⟩
  nofun;obtain⟨a,G,I,J,k,rfl,b,t,u,y⟩:=bX o;obtain rfl:=t.bN;obtain rfl:=u.bN;obtain rfl:=y.bO
  replace b:H a=some (.tup [.int c,.int d,.str g]):=b
  obtain⟨i,k,l,n,z⟩:0<=c/\c<m/\0<=d/\d<m/\(g="row"\/g="heap"):=r;ac_rfl;right;refine cF _ true (.tup b) rfl ?_;simp only[Bool.not_true,Bool.false_eq_true,if_false];refine bE _ (.inr ⟨_,bM.of b,rfl⟩) ?_;rw[if_neg (by simp)];refine⟨_,_,.inr (bM.of b),aA (j:=2) rfl,_,true,.str _,rfl,?_⟩;simp only[Bool.not_true,Bool.false_eq_true,if_false];right;refine cF _ _ (.inr (bM.of b)) (aA (j:=0) rfl) ?_;refine fS (.int c) _ 0 m rfl (.int c) ?_;rw[show inR 0 m (.int c)=true by simp[inR,i,k]];right;rw[if_pos trivial];refine cF _ _ (.inr (bM.of b)) (aA (j:=1) rfl) ?_;refine fS (.int d) _ 0 m rfl (.int d) ?_;rw[show inR 0 m (.int d)=true by simp[inR,l,n]];right;rw[if_pos trivial];refine sZ _ _ (.inr (bM.of b)) (aA (j:=2) rfl) dq (λp B=>?_);refine Pt _ (.inr (bM.of af)) rfl rfl ?_;have e:AX (.str g) [.str "row",.str "heap"]=true:=by
   rcases z with rfl|rfl<;>decide +kernel
  rw[e];calc q _ (av.new _ B)
abbrev kB:Stmt:=top 43
def xN:Sp:=λvs H Q _=>∃(x:V) (n:Nat) (a b:Int) (m:Int),vs=[x,.int m]/\HT H n x (ql (a,b))/\uD m (a,b)/\Q (.bl true) H
theorem xO(D:cZ K mg "is_letter" "is_letter" kB ["thing","many"])(T:Tx K mg C CN CR F FD)(g:Def P w K mg base "is_within" 2 ["thing","low","beyond"] cp):Def P w K mg base "is_letter" 3 ["thing","many"] xN:=by
 have sc:aE ["thing","many"] ["thing","many"] (az kB):=by walk_at "s"
 symm
 ·obtain⟨x,n,b,c,m,rfl,i,l,q⟩:=h;rfl
 ·nofun;obtain⟨x,n,b,c,m,rfl,i,l,q⟩:=h;ac_rfl;have e:=hr.units;refine⟨_,(aj (aT (PW.pt (pw_or (bV (bz (bg dC rfl T.bq yK (ag (aq 0) (ag (dB (v:=.ty "tuple") rfl T.cB sR rfl) aa))))) (pw_or1 (aC (gD e) (bg aP rfl T.b4 U' (ag (aq 0) aa)) ai (aH _))))) (ao (aI gH)) aJ)
   (ao (aI (fE (aM g hr (ag (ak e (aq 0) ai) (ag ai (ag (aq 1) aa)))) (ic (aM g hr (ag (ak e (aq 0) ai) (ag (aU e9 ai (fM T.dU rfl)) (ag (fM T.dU rfl) aa))))))))),?_⟩
  nofun;obtain⟨a,r,t,k,rfl,d,o,p⟩:=cy i;obtain rfl:=o.bN;obtain rfl:=p.bN
  replace d:H a=some (.tup [.int b,.int c]):=d
  obtain⟨e,g,i,k⟩:0<=b/\b<m/\1-1000000000000000000000000000000000000000000000000000000000000<=c/\c<1000000000000000000000000000000000000000000000000000000000000:=l;ac_rfl;right;calc cF _ true (.tup d) rfl ?_;simp only[Bool.not_true,Bool.false_eq_true,if_false];calc bE _ (.inr ⟨_,bM.of d,rfl⟩) ?_;rw[if_neg (by simp)];right;calc cF _ _ (.inr (bM.of d)) (aA (j:=0) rfl) ?_;calc fS (.int b) _ 0 m rfl (.int b) ?_;rw[show inR 0 m (.int b)=true by simp[inR,e,g]];right;rw[if_pos trivial];calc cF _ _ (.inr (bM.of d)) (aA (j:=1) rfl) ?_;calc fS (.int c) _ _ _ rfl (.int c) ?_;rw[show inR (1-1000000000000000000000000000000000000000000000000000000000000) 1000000000000000000000000000000000000000000000000000000000000 (.int c)=true by simp only[inR,decide_eq_true i,decide_eq_true k,Bool.and_self]];calc q
abbrev jU:Stmt:=top 44
def BE(C:Addr):Sp:=λvs H Q _=>∃(d e f:Addr) (a:List Addr) (b c:List V) (ws:List (Int×Int×Str)) (ls:List (Int×Int)),vs=[.ref d,.ref e,.ref f]/\H d=some (.lst (a.map V.ref))/\H e=some (.lst b)/\H f=some (.lst c)/\1<=a.length/\a.length<=5/\b.length<=10/\c.length<=20/\(∀m∈a,∃g h,H m=some (.ins C g h))/\gY H 1 b (ws.map lL)/\gY H 1 c (ls.map ql)/\(∀w∈ws,uC a.length w)/\(∀l∈ls,uD b.length l)/\∀H',av H H'->Q .bD H'
theorem vM(D:cZ K mg "refuse_net" "refuse_net" jU ["machines","ways","letters"])(T:Tx K mg C CN CR F FD)(kC:Def P w K mg base "is_letter" 3 ["thing","many"] xN)(R:Def P w K mg base "is_list" 1 ["things","least","most"] mh)(rY:Def P w K mg base "is_way" 3 ["thing","many"] xM):Def P w K mg base "refuse_net" 4 ["machines","ways","letters"] (BE C):=by
 have sc:aE ["machines","ways","letters"] ["machines","ways","letters"] (az jU):=by walk_at "s"
 symm
 ·obtain⟨S,U,W,l,y,z,ws,ls,rfl,I,X,Ea,Jo,Jp,vN,xP,UP,Y,Z,KY,uk,q⟩:=h;rfl
 ·nofun;obtain⟨S,U,W,l,y,z,ws,ls,rfl,I,X,Ea,Jo,Jp,vN,xP,UP,Y,Z,KY,uk,q⟩:=h;ac_rfl;have hu:=hr.units;refine⟨_,(aj (aT (PW.pt (pw_or (bV (bz (aM R hr (ag (aq 0) (ag ai (ag (fM T.df rfl) aa)))))) (pw_or1 (bV (bz (bg (jA rfl) rfl T.uz Sm (ag (dE (N':=["one"]) (ix:=[none]) (cu (pv 0)) (λ_ _ _ _=>(bb (i:=0) (show(["one"]:List Str).Nodup by decide +kernel) rfl (by grind))) oq (λ_ _ _ _=>(bg (Gw (K:=K) rfl) rfl T.bq yK (ag (aq 0) (ag (qF (v:=.ref C) rfl T.uA rfl) aa))))) aa))))))) (ao dY) aJ)
   (aj (aT (PW.pt (pw_or (bV (bz (aM R hr (ag (aq 1) (ag ai (ag (fM T.fu rfl) aa)))))) (pw_or1 (bV (bz (bg (jA rfl) rfl T.uz Sm (ag (dE (N':=["way","machines"]) (ix:=[none,some 0]) (cu (pv 1)) (λ_ _ _ _=>(bb (i:=0) (show(["way","machines"]:List Str).Nodup by decide +kernel) rfl (by grind))) oq (λ_ _ _ _=>(aM rY hr (ag (aq 0) (ag (bg (rG (K:=K) rfl) rfl T.b4 U' (ag (aq 1) aa)) aa))))) aa))))))) (ao dY) aJ)
   (ao (aT (PW.pt (pw_or (bV (bz (aM R hr (ag (aq 2) (ag ai (ag (fM T.dJ rfl) aa)))))) (pw_or1 (bV (bz (bg (jA rfl) rfl T.uz Sm (ag (dE (N':=["letter","ways"]) (ix:=[none,some 1]) (cu (pv 2)) (λ_ _ _ _=>(bb (i:=0) (show(["letter","ways"]:List Str).Nodup by decide +kernel) rfl (by grind))) oq (λ_ _ _ _=>(aM kC hr (ag (aq 0) (ag (bg (rG (K:=K) rfl) rfl T.b4 U' (ag (aq 1) aa)) aa))))) aa))))))) (ao dY) aJ)))),?_⟩
  have R:(l.map V.ref).length<=5:=by simpa using Jp
  right;calc fS S _ 1 _ rfl (.inl I) (λH1 s1=>?_);rw[show(decide ((1:Int)<=((l.map V.ref).length:Int))&&decide (((l.map V.ref).length:Int)<=5))=true by simp;lia];right
  try simp only[Bool.not_true,Bool.false_eq_true,if_false]
  have L:=s1 _ _ I;calc bT ?_;right;calc .inl ⟨⟨_,aR.of L⟩,λD p=>?_⟩;refine bx (J:=u7 K S) (n:=(l.map V.ref).length) (λi zs H'=>zs=List.replicate i (V.bl true)/\av H1 H') (P' (aG (by lia))) ⟨rfl,av.new _ p⟩ ?_ ?_ ?_ ?_
  ·rintro i zs H' c ⟨_,k⟩;exact⟨_,(l.map V.ref)[i],aR.of (k _ _ L),cE c⟩
  ·rintro zs H' ⟨_,k⟩;exact⟨_,aR.of (k _ _ L),L' _⟩
  ·intro i zs H' c a d jF x M jG;nofun;obtain⟨rfl,k⟩:=jF;obtain⟨rfl,B⟩:=jG;ac_rfl;have G:=B _ (aR.of (k _ _ L));walk_at "xg";right;rw[if_pos trivial];have hxm:∃m,x=.ref m/\m∈l:=by
    have:=Y' G;nofun;obtain⟨m,hm,rfl⟩:=List.mem_map.mp this;ac_rfl;exact⟨m,rfl,hm⟩
   nofun;obtain⟨m,rfl,L⟩:=hxm;obtain⟨S,fs,R⟩:=UP m L;ac_rfl;calc aaf _ C _ true rfl (.ins (k _ _ (s1 _ _ R)) T.cN T.CW T.vI T.nM T.CY) T.i_k ?_;have r:=av.refl M;calc cn (r _ _ a) d c (P' (aG (by lia))) ⟨jC _ _,λb o e=>?_⟩;rw[ay (au e p)];exact r _ _ (k _ _ e)
  rintro zs H2 a d ⟨rfl,k⟩;right;rw[oP]at a;calc bE _ (aR.of a) ?_;have e:(List.replicate (l.map V.ref).length true).all id=true:=by simp
  rw[e];clear e a d;right
  try simp only[Bool.not_true,Bool.false_eq_true,if_false]
  have l:=s1.trans k;have L:=l _ _ X;right;calc fS U _ 0 _ rfl (.inl L) (λR k=>?_);rw[show(decide ((0:Int)<=(y.length:Int))&&decide ((y.length:Int)<=10))=true by simp;lia];right
  try simp only[Bool.not_true,Bool.false_eq_true,if_false]
  have N:=k _ _ L;have t:=l.trans k;calc bT ?_;right;calc .inl ⟨⟨_,aR.of N⟩,λD p=>?_⟩;refine bx (J:=u7 K U) (n:=y.length) (λi zs H'=>zs=List.replicate i (V.bl true)/\av R H') (P' (aG (by lia))) ⟨rfl,av.new _ p⟩ ?_ ?_ ?_ ?_
  ·rintro i zs H' c ⟨_,g⟩;exact⟨_,y[i],aR.of (g _ _ N),cE c⟩
  ·rintro zs H' ⟨_,g⟩;exact⟨_,aR.of (g _ _ N),L' _⟩
  ·intro i zs H' c a d oZ x M vJ;nofun;obtain⟨rfl,g⟩:=oZ;obtain⟨rfl,B⟩:=vJ;ac_rfl;have G:=B _ (aR.of (g _ _ N));walk_at "xg";right;rw[if_pos trivial];have k:i < ws.length:=by have:=Y.1;rw[List.length_map] at this;lia
   have hw:=(Y.2 i x (lL ws[i]) G (by rw[List.getElem?_map,cE k];rfl)).aK (t.trans g).aS;calc bE _ (.inl ⟨_,aR.of (g _ _ (t _ _ I)),rfl⟩) ?_;refine⟨x,1,ws[i].1,ws[i].2.1,ws[i].2.2,_,rfl,hw,?_,λl r=>?_⟩
   ·have:=KY ws[i] (aai k);simpa[uC] using this
   calc cn (r _ _ a) d c (P' (aG (by lia))) ⟨jC _ _,λb o e=>?_⟩;rw[ay (au e p)];exact r _ _ (g _ _ e)
  rintro zs H4 a d ⟨rfl,g⟩;right;rw[oP]at a;calc bE _ (aR.of a) ?_;have e:(List.replicate y.length true).all id=true:=by simp
  rw[e];clear e a d;right
  try simp only[Bool.not_true,Bool.false_eq_true,if_false]
  have k:=t.trans g;have l:=k _ _ Ea;right;calc fS W _ 0 _ rfl (.inl l) (λt g=>?_);rw[show(decide ((0:Int)<=(z.length:Int))&&decide ((z.length:Int)<=20))=true by simp;lia];right
  try simp only[Bool.not_true,Bool.false_eq_true,if_false]
  have O:=g _ _ l;have u:=k.trans g;calc bT ?_;right;calc .inl ⟨⟨_,aR.of O⟩,λD p=>?_⟩;refine bx (J:=u7 K W) (n:=z.length) (λi zs H'=>zs=List.replicate i (V.bl true)/\av t H') (P' (aG (by lia))) ⟨rfl,av.new _ p⟩ ?_ ?_ ?_ ?_
  ·rintro i zs H' c ⟨_,j⟩;exact⟨_,z[i],aR.of (j _ _ O),cE c⟩
  ·rintro zs H' ⟨_,j⟩;exact⟨_,aR.of (j _ _ O),L' _⟩
  ·intro i zs H' c a d vL x M xK;nofun;obtain⟨rfl,j⟩:=vL;obtain⟨rfl,B⟩:=xK;ac_rfl;have G:=B _ (aR.of (j _ _ O));walk_at "xg";right;rw[if_pos trivial];have g:i < ls.length:=by have:=Z.1;rw[List.length_map] at this;lia
   have hw:=(Z.2 i x (ql ls[i]) G (by rw[List.getElem?_map,cE g];rfl)).aK (u.trans j).aS;calc bE _ (.inl ⟨_,aR.of (j _ _ (u _ _ X)),rfl⟩) ?_;refine⟨x,1,ls[i].1,ls[i].2,_,rfl,hw,?_,?_⟩
   ·have:=uk ls[i] (aai g);simpa[uD] using this
   have r:=av.refl M;calc cn (r _ _ a) d c (P' (aG (by lia))) ⟨jC _ _,λb o e=>?_⟩;rw[ay (au e p)];exact r _ _ (j _ _ e)
  rintro zs H6 a d ⟨rfl,j⟩;right;rw[oP]at a;calc bE _ (aR.of a) ?_;have e:(List.replicate z.length true).all id=true:=by simp
  rw[e];clear e a d;right
  try simp only[Bool.not_true,Bool.false_eq_true,if_false]
  calc q _ (u.trans j)
abbrev kD:Stmt:=top 50
def xQ:Sp:=λvs H Q _=>∃p m,vs=[.ref p,.int m]/\eG H p/\0<m/\m<=4/\∀x v H',Step p H H'->HT H' 1 x (Val.dv v)->v.ok m->Q x H'
theorem xR(D:cZ K mg "_law_value" "_law_value" kD ["_law_pot_here","_law_many"])(T:Tx K mg C CN CR F FD)(u:Def P w K mg base "_law_digit" 1 ["_law_pot_here","_law_many"] jH):Def P w K mg base "_law_value" 2 ["_law_pot_here","_law_many"] xQ:=by
 have sc:aE ["_law_pot_here","_law_many","_law_kind"] ["_law_pot_here","_law_many"] (az kD):=by walk_at "s"
 symm
 ·obtain⟨p,m,rfl,G,I,J,q⟩:=h;rfl
 ·nofun;obtain⟨p,m,rfl,G,I,J,q⟩:=h;ac_rfl;have L:=hr.units;refine⟨_,(aj (ba (i:=2) sc.nd rfl (by grind) (aM u hr (ag (aq 0) (ag ai aa))))
   (aj (aT (aC gK (aq 2) ai (aH _)) (ao (aI (bQ (ag aD (ag (ak L (bR (ag (aU e9 (aM u hr (ag (aq 0) (ag ai aa))) ai) (ag (aU e9 (aM u hr (ag (aq 0) (ag (aU e9 (aU lx ai (aU nv ai ai)) ai) aa))) (aU e9 (aU nv ai ai) ai)) aa))) (aq 2)) aa))))) aJ)
   (aj (aT (aC gK (aq 2) ai (aH _)) (ao (aI (bQ (ag aD (ag (aM u hr (ag (aq 0) (ag (aq 1) aa))) aa))))) aJ)
   (ao (aI (ak L (bR (ag (bQ (ag aD aa)) (ag (bQ (ag aD aa)) (ag (bQ (ag aD aa)) (ag (bQ (ag aD aa)) aa))))) (aU e9 (aq 2) ai))))))),?_⟩
  right;calc ma p 8 rfl G (by decide +kernel) (by decide +kernel) (λd H1 h1 h2 st=>?_);right;split
  ·rename_i j;have j:d < 2:=by simpa using j
   calc ma p 9 rfl st.fX (by decide +kernel) (by decide +kernel) (λR H2 M J k=>?_);right;calc⟨zK,PH,dig k.fX UJ UK λd2 H3 h5 h6 N=>?_⟩;right;calc gN zK (by decide) (λl c=>?_);have y:d=0\/d=1:=by lia
   rcases y with rfl|rfl
   ·exact⟨_,_,.inl (aR.of af),rfl,by decide,λt n=>q _ (.is _) _ ((((st.trans k).trans N).new c).new n) (c9 af (.str _) (.int _)) trivial⟩
   ·exact⟨_,_,.inl (aR.of af),rfl,by decide,λt n=>q _ (.is _) _ ((((st.trans k).trans N).new c).new n) (c9 af (.str _) (.int _)) trivial⟩
  ·rename_i j;have j:¬d < 2:=by simpa using j
   split
   ·refine⟨p,m,rfl,st.fX,I,?_,λR H2 M z k=>?_⟩
    ·have:m=1\/m=2\/m=3\/m=4:=by lia
     rcases this with rfl|rfl|rfl|rfl<;>decide +kernel
    right;exact⟨by decide,λt n=>q _ (.number _) _ ((st.trans k).new n) (c9 af (.str _) (.int _)) ⟨M,z⟩⟩
   ·rename_i r;have r:¬d < 4:=by simpa using r
    calc⟨by decide,λa S=>⟨by decide,λb O=>⟨by decide,λe B=>⟨by decide,λg v=>⟨by decide,λl c=>?_⟩⟩⟩⟩⟩;have x:=((((st.new S (o:=.tup [.str "letter"])).new O (o:=.tup [.str "letter"])).new B (o:=.tup [.str "way"])).new v (o:=.tup [.str "first"])).new c (o:=.lst [.ref a,.ref b,.ref e,.ref g]);have y:d=4\/d=5\/d=6\/d=7:=by lia
    have U:=(av.new (H:=upd H1 a (.tup [.str "letter"])) (.tup [.str "letter"]) O) a _ af;have W:=(av.new (.tup [.str "way"]) B) _ _ U;have X:=(av.new (.tup [.str "first"]) v) _ _ W;have Y:=(av.new (.lst [.ref a,.ref b,.ref e,.ref g]) c) _ _ X;have Z:=(av.new (H:=upd (upd H1 a (.tup [.str "letter"])) b (.tup [.str "letter"])) (.tup [.str "way"]) B) b _ af;have k3:=(av.new (.tup [.str "first"]) v) _ _ Z;have k4:=(av.new (.lst [.ref a,.ref b,.ref e,.ref g]) c) _ _ k3;have l3:=(av.new (H:=upd (upd (upd H1 a (.tup [.str "letter"])) b (.tup [.str "letter"])) e (.tup [.str "way"])) (.tup [.str "first"]) v) e _ af;have l4:=(av.new (.lst [.ref a,.ref b,.ref e,.ref g]) c) _ _ l3;have m4:=(av.new (H:=upd (upd (upd (upd H1 a (.tup [.str "letter"])) b (.tup [.str "letter"])) e (.tup [.str "way"])) g (.tup [.str "first"])) (.lst [.ref a,.ref b,.ref e,.ref g]) c) g _ af;rcases y with rfl|rfl|rfl|rfl
    ·exact⟨_,_,.inl (aR.of af),rfl,q _ .lY _ x (rP Y (.str _)) trivial⟩
    ·exact⟨_,_,.inl (aR.of af),rfl,q _ .lY _ x (rP k4 (.str _)) trivial⟩
    ·exact⟨_,_,.inl (aR.of af),rfl,q _ .way _ x (rP l4 (.str _)) trivial⟩
    ·calc⟨_,_,.inl (aR.of af),rfl,q _ .first _ x (rP m4 (.str _)) trivial⟩
theorem aas{d:Int}(a:0<=d)(h:d<10):d=0\/d=1\/d=2\/d=3\/d=4\/d=5\/d=6\/d=7\/d=8\/d=9:=by
 have:∀n:Fin 10,((n.1:Nat):Int)=0\/((n.1:Nat):Int)=1\/((n.1:Nat):Int)=2\/((n.1:Nat):Int)=3\/((n.1:Nat):Int)=4\/((n.1:Nat):Int)=5\/((n.1:Nat):Int)=6\/((n.1:Nat):Int)=7\/((n.1:Nat):Int)=8\/((n.1:Nat):Int)=9:=by decide
 rw[<-Int.toNat_of_nonneg a];calc this ⟨d.toNat,by lia⟩
abbrev mn:Stmt:=top 51
theorem PU{H:Hp}{n:Nat}{a:Addr}{u v w z:V}{d d' f g:DV}(e:H a=some (.tup [u,v,w,z]))(h:HT H n u d)(h':HT H n v d')(j:HT H n w f)(k:HT H n z g):HT H (n+1) (.ref a) (.tup [d,d',f,g]):=by
 refine .tup e rfl λi x y b c=>?_
 match i,b,c with
 |0,b,c=>simp at b c;subst b c;calc h
 |1,b,c=>simp at b c;subst b c;calc h'
 |2,b,c=>simp at b c;subst b c;calc j
 |3,b,c=>simp at b c;subst b c;calc k
def xS:Sp:=λvs H Q _=>∃p m,vs=[.ref p,.int m]/\eG H p/\0<m/\m<=4/\∀x d H',Step p H H'->HT H' 2 x (bF.dv d)->d.ok m->Q x H'
theorem zR(D:cZ K mg "_law_deed" "_law_deed" mn ["_law_pot_here","_law_many"])(T:Tx K mg C CN CR F FD)(M:Def P w K mg base "_law_digit" 1 ["_law_pot_here","_law_many"] jH)(I:Def P w K mg base "_law_value" 2 ["_law_pot_here","_law_many"] xQ):Def P w K mg base "_law_deed" 3 ["_law_pot_here","_law_many"] xS:=by
 have sc:aE ["_law_pot_here","_law_many","_law_kind"] ["_law_pot_here","_law_many"] (az mn):=by walk_at "s"
 symm
 ·obtain⟨p,m,rfl,W,k,u,q⟩:=h;rfl
 ·nofun;obtain⟨p,m,rfl,W,k,u,q⟩:=h;ac_rfl;have N:=hr.units;refine⟨_,(aj (ba (i:=2) sc.nd rfl (by grind) (aM M hr (ag (aq 0) (ag ai aa))))
   (aj (aT (aC gK (aq 2) ai (aH _)) (ao (aI (bQ (ag (ak N (bR (ag aD (ag aD (ag aD aa)))) (aq 2)) (ag (aM M hr (ag (aq 0) (ag (aq 1) aa))) (ag (aM I hr (ag (aq 0) (ag (aq 1) aa))) aa)))))) aJ)
   (aj (aT (aC gK (aq 2) ai (aH _)) (ao (aI (bQ (ag aD (ag (aM M hr (ag (aq 0) (ag ai aa))) (ag (aM I hr (ag (aq 0) (ag (aq 1) aa))) aa)))))) aJ)
   (aj (aT (aC (aV N) (aq 2) ai (aH _)) (ao (aI (bQ (ag aD (ag (aM I hr (ag (aq 0) (ag (aq 1) aa))) aa))))) aJ)
   (aj (aT (aC (aV N) (aq 2) ai (aH _)) (ao (aI (bQ (ag aD (ag (aM I hr (ag (aq 0) (ag (aq 1) aa))) aa))))) aJ)
   (aj (aT (aC (aV N) (aq 2) ai (aH _)) (ao (aI (bQ (ag aD aa)))) aJ)
   (ao (aI (bQ (ag aD (ag (aM I hr (ag (aq 0) (ag (aq 1) aa))) (ag (aM I hr (ag (aq 0) (ag (aq 1) aa))) (ag (aU cR ai (aM M hr (ag (aq 0) (ag ai aa)))) aa))))))))))))),?_⟩
  right;calc ma p 10 rfl W (by decide +kernel) (by decide +kernel) (λd H1 I M st=>?_);have O:m.natAbs.log2<9000:=by
   have:m=1\/m=2\/m=3\/m=4:=by lia
   rcases this with rfl|rfl|rfl|rfl<;>decide +kernel
  have Z:d=0\/d=1\/d=2\/d=3\/d=4\/d=5\/d=6\/d=7\/d=8\/d=9:=aas (by assumption) (by assumption);rcases Z with rfl|rfl|rfl|rfl|rfl|rfl|rfl|rfl|rfl|rfl
  ·walk_at "go";refine⟨by decide,λl J=>?_⟩;have B:=st.new (o:=.lst [.str "set",.str "add",.str "times"]) J;refine bC af rfl ?_;refine dig B.fX k O λe L r y x=>?_;have b:=B.trans x;walk_at "go";refine ma p m rfl b.fX k u (λz v G c g j=>?_);walk_at "go";exact⟨by decide,λt a=>q _ (.set e v) _ ((b.trans c).new a) (lZ af (.str _) (.int _) (g.aK (av.new _ a).aS)) ⟨r,y,j⟩⟩
  ·walk_at "go";refine⟨by decide,λl J=>?_⟩;have B:=st.new (o:=.lst [.str "set",.str "add",.str "times"]) J;refine bC af rfl ?_;refine dig B.fX k O λe L r y x=>?_;have b:=B.trans x;walk_at "go";refine ma p m rfl b.fX k u (λz v G c g j=>?_);walk_at "go";exact⟨by decide,λt a=>q _ (.add e v) _ ((b.trans c).new a) (lZ af (.str _) (.int _) (g.aK (av.new _ a).aS)) ⟨r,y,j⟩⟩
  ·walk_at "go";refine⟨by decide,λl J=>?_⟩;have B:=st.new (o:=.lst [.str "set",.str "add",.str "times"]) J;refine bC af rfl ?_;refine dig B.fX k O λe L r y x=>?_;have b:=B.trans x;walk_at "go";refine ma p m rfl b.fX k u (λz v G c g j=>?_);walk_at "go";exact⟨by decide,λt a=>q _ (.times e v) _ ((b.trans c).new a) (lZ af (.str _) (.int _) (g.aK (av.new _ a).aS)) ⟨r,y,j⟩⟩
  ·walk_at "go";refine dig st.fX (by decide) (by decide +kernel) λe L r y x=>?_;have b:=st.trans x;right;refine ma p m rfl b.fX k u (λz v G c g j=>?_);right;exact⟨by decide,λt a=>q _ (.send e v) _ ((b.trans c).new a) (lZ af (.str _) (.int _) (g.aK (av.new _ a).aS)) ⟨r,j⟩⟩
  ·walk_at "go";refine dig st.fX (by decide) (by decide +kernel) λe L r y x=>?_;have b:=st.trans x;right;refine ma p m rfl b.fX k u (λz v G c g j=>?_);right;exact⟨by decide,λt a=>q _ (.send e v) _ ((b.trans c).new a) (lZ af (.str _) (.int _) (g.aK (av.new _ a).aS)) ⟨r,j⟩⟩
  ·walk_at "go";refine dig st.fX (by decide) (by decide +kernel) λe L r y x=>?_;have b:=st.trans x;right;refine ma p m rfl b.fX k u (λz v G c g j=>?_);right;exact⟨by decide,λt a=>q _ (.send e v) _ ((b.trans c).new a) (lZ af (.str _) (.int _) (g.aK (av.new _ a).aS)) ⟨r,j⟩⟩
  ·walk_at "go";refine ma p m rfl st.fX k u (λz v G c g j=>?_);walk_at "go";exact⟨by decide,λt a=>q _ (.say v) _ ((st.trans c).new a) (c9 af (.str _) (g.aK (av.new _ a).aS)) j⟩
  ·walk_at "go";refine ma p m rfl st.fX k u (λz v G c g j=>?_);walk_at "go";exact⟨by decide,λt a=>q _ (.put v) _ ((st.trans c).new a) (c9 af (.str _) (g.aK (av.new _ a).aS)) j⟩
  ·walk_at "go";exact⟨by decide,λt a=>q _ .drop _ (st.new a) (rP (n:=1) af (.str _)) trivial⟩
  ·walk_at "go";refine ma p m rfl st.fX k u (λz v G c g j=>?_);walk_at "go";have R:=st.trans c;refine ma p m rfl R.fX k u (λvy v2 b X S US=>?_);have U:=R.trans X;walk_at "go";refine dig U.fX (by decide) (by decide +kernel) λe b r y Y=>?_;walk_at "go";refine⟨by decide,λt a=>q _ (.skip v v2 (1+e)) _ ((U.trans Y).new a) ?_ ⟨j,US,by lia,by lia⟩⟩;have b:=(Y.aS U.fX).trans (av.new (.tup [.str "skip",z,vy,.int (1+e)]) a).aS;exact PU af (.str _) (g.aK ((X.aS R.fX).trans b)) (S.aK b) (.int _)
abbrev iY:Stmt:=top 52
theorem Step.free{p b:Addr}{H H':Hp}(st:Step p H H')(h:H' b=none):H b=none:=by
 cases e:H b with
 |none=>rfl
 |some o=>
  by_cases a:b=p
  ·subst a;obtain⟨x,c,_⟩:=st.fX;rw[h]at c;cases c
  ·rw[st.rest b o e a]at h;cases h
theorem He{m:Int}(a:0<m)(h:m<=1000000000000):m.natAbs.log2<9000:=(Nat.log2_lt (by lia)).mpr (aaS (show m.natAbs<=1000000000000 by lia) (by decide +kernel))
def mods(d:Int):List V:=[.int 2,.int 3,.int 7,.int 10,.int 97,.int (2+d)]
theorem K1{d k:Int}(b:0<=d)(a:d<10^Int.toNat 12-1)(c:0<=k)(f:k<6):∃z:Int,hJ (mods d) k=some (.int z)/\2<=z/\z<=1000000000000:=by
 have e:(10:Int)^Int.toNat 12=1000000000000:=by decide +kernel
 rw[e]at a;have:k=0\/k=1\/k=2\/k=3\/k=4\/k=5:=by lia
 rcases this with rfl|rfl|rfl|rfl|rfl|rfl
 ·exact⟨_,aA (j:=0) rfl,by decide,by decide⟩
 ·exact⟨_,aA (j:=1) rfl,by decide,by decide⟩
 ·exact⟨_,aA (j:=2) rfl,by decide,by decide⟩
 ·exact⟨_,aA (j:=3) rfl,by decide,by decide⟩
 ·exact⟨_,aA (j:=4) rfl,by decide,by decide⟩
 ·calc⟨_,aA (j:=5) rfl,by lia,by lia⟩
def xT:Sp:=λvs H Q _=>∃p,vs=[.ref p]/\eG H p/\∀t b c d xs M ns a e H',Step p H H'->H' t=some (.tup [.int M,.ref b,.ref c,.ref d])->H' b=some (.lst (ns.map V.int))->H' c=some (.lst (a.map V.int))->H' d=some (.lst xs)->gY H' 2 xs (e.map bF.dv)->H b=none->H c=none->H d=none->Good M ns a e->Q (.ref t) H'
theorem tm(D:cZ K mg "_law_machine" "_law_machine" iY ["_law_pot_here"])(T:Tx K mg C CN CR F FD)(mq:Def P w K mg base "_law_deed" 3 ["_law_pot_here","_law_many"] xS)(j:Def P w K mg base "_law_digit" 1 ["_law_pot_here","_law_many"] jH):Def P w K mg base "_law_machine" 4 ["_law_pot_here"] xT:=by
 have sc:aE ["_law_pot_here","_law_modulus","_law_many","_law_numbers","_law_row","_law_deeds"] ["_law_pot_here"] (az iY):=by walk_at "s"
 symm
 ·obtain⟨p,rfl,k,q⟩:=h;rfl
 ·nofun;obtain⟨p,rfl,k,q⟩:=h;ac_rfl;have l:=hr.units;refine⟨_,(aj (ba (i:=1) sc.nd rfl (by grind) (ak l (bR (ag ai (ag ai (ag ai (ag ai (ag ai (ag (aU cR ai (aM j hr (ag (aq 0) (ag (aU e9 (aU nv ai ai) ai) aa)))) aa))))))) (aM j hr (ag (aq 0) (ag ai aa)))))
   (aj (ba (i:=2) sc.nd rfl (by grind) (aU cR ai (aM j hr (ag (aq 0) (ag ai aa)))))
   (aj (ij (i:=3) sc.nd rfl (by grind) (N':=["_law_k","_law_pot_here","_law_modulus"]) (ix:=[none,some 0,some 1]) (de rfl T.eW (ag (aq 2) aa)) (λ_ _ _ _=>(bb (i:=0) (show(["_law_k","_law_pot_here","_law_modulus"]:List Str).Nodup by decide +kernel) rfl (by grind))) oq (λ_ _ _ _=>(aM j hr (ag (aq 1) (ag (aq 2) aa)))))
   (aj (ij (i:=4) sc.nd rfl (by grind) (N':=["_law_k","_law_pot_here","_law_modulus"]) (ix:=[none,some 0,some 1]) (de rfl T.eW (ag (aM j hr (ag (aq 0) (ag ai aa))) aa)) (λ_ _ _ _=>(bb (i:=0) (show(["_law_k","_law_pot_here","_law_modulus"]:List Str).Nodup by decide +kernel) rfl (by grind))) oq (λ_ _ _ _=>(aM j hr (ag (aq 1) (ag (aq 2) aa)))))
   (aj (ij (i:=5) sc.nd rfl (by grind) (N':=["_law_k","_law_pot_here","_law_many"]) (ix:=[none,some 0,some 2]) (de rfl T.eW (ag (aM j hr (ag (aq 0) (ag ai aa))) aa)) (λ_ _ _ _=>(bb (i:=0) (show(["_law_k","_law_pot_here","_law_many"]:List Str).Nodup by decide +kernel) rfl (by grind))) oq (λ_ _ _ _=>(aM mq hr (ag (aq 1) (ag (aq 2) aa)))))
   (ao (aI (bQ (ag (aq 1) (ag (aq 3) (ag (aq 4) (ag (aq 5) aa)))))))))))),?_⟩
  right;calc⟨PF,?_⟩;calc dig k UL PM λj H1 K2 PY T=>?_;right;calc⟨by decide,λl t=>?_⟩;have AG:=T.new (o:=.lst (mods j)) t;have Rt:l≠p:=Step.ne T.fX t;calc dig AG.fX (by decide) (by decide +kernel) λk H3 j l c=>?_;have k:=AG.trans c;obtain⟨M,T,De,o8⟩:=K1 K2 PY j l;right;calc bC (c.rest _ _ af Rt) T ?_;right;calc dig k.fX (by decide) (by decide +kernel) λm H4 Kb Jo qP=>?_;have N:=k.trans qP;right;calc bT ?_;right;calc gN (by lia) (by lia) (λD O=>?_);have y:D≠p:=Step.ne N.fX O;refine bx (J:=AF 0 (1+m).toNat) (n:=(1+m).toNat) (λi ys H'=>∃ns:List Int,ys=ns.map V.int/\ns.length=i/\Step p H4 H'/\(∀z∈ns,0<=z/\z<M)) (P' (aG (by lia))) ⟨[],rfl,rfl,(Step.refl N.fX).new O,λz r=>by simp at r⟩ (λi ys H' a _=>a) (λys H' _=>L' _) ?_ ?_
  ·intro i ys H' a B t jF x H2 jG;nofun;obtain⟨ns,rfl,G,st,hb⟩:=jF;obtain⟨rfl,rfl⟩:=jG;ac_rfl;walk_at "xg";right;rw[if_pos trivial];refine dig st.fX (by lia) (He (by lia) o8) λd H3 h3 h4 c=>?_;refine cn (c.rest _ _ B y) t a (P' (aG (by lia))) ⟨ns++[d],by simp,by simp[G],?_,λz r=>?_⟩
   ·exact⟨c.fX.upd (Ne.symm y),λb o e ne=>by rw[ay (au e O)];calc c.rest _ _ (st.rest _ _ e ne) ne⟩
   ·rcases List.mem_append.mp r with g | g
    ·exact hb z g
    ·simp at g;subst g;exact⟨h3,h4⟩
  intro ys H5 en hl5 oZ;nofun;obtain⟨ns,rfl,G,T,qm⟩:=oZ;ac_rfl;have fD:H D=none:=N.free O;have j:=N.trans T;calc bT ?_;right;calc dig j.fX (by decide) (by decide +kernel) λk O h60 h61 l=>?_;have R:=j.trans l;have en6:=l.rest _ _ en y;right;calc gN (by lia) (by lia) (λS U=>?_);have W:S≠p:=Step.ne R.fX U;refine bx (J:=AF 0 k.toNat) (n:=k.toNat) (λi ys H'=>∃ns:List Int,ys=ns.map V.int/\ns.length=i/\Step p O H'/\(∀z∈ns,0<=z/\z<M)) (P' (aG (by lia))) ⟨[],rfl,rfl,(Step.refl R.fX).new U,λz r=>by simp at r⟩ (λi ys H' a _=>a) (λys H' _=>L' _) ?_ ?_
  ·intro i ys H' a B t vJ x H2 vL;nofun;obtain⟨ns,rfl,G,st,hb⟩:=vJ;obtain⟨rfl,rfl⟩:=vL;ac_rfl;walk_at "xg";right;rw[if_pos trivial];refine dig st.fX (by lia) (He (by lia) o8) λd H3 h3 h4 c=>?_;refine cn (c.rest _ _ B W) t a (P' (aG (by lia))) ⟨ns++[d],by simp,by simp[G],?_,λz r=>?_⟩
   ·exact⟨c.fX.upd (Ne.symm W),λb o e ne=>by rw[ay (au e U)];calc c.rest _ _ (st.rest _ _ e ne) ne⟩
   ·rcases List.mem_append.mp r with g | g
    ·exact hb z g
    ·simp at g;subst g;exact⟨h3,h4⟩
  intro ys H7 er hl7 xK;nofun;obtain⟨row,rfl,c,j,PQ⟩:=xK;ac_rfl;have PZ:H S=none:=R.free U;have k:=R.trans j;have c:=j.rest _ _ en6 y;calc bT ?_;right;calc dig k.fX (by decide) (by decide +kernel) λl r t N g=>?_;have X:=k.trans g;have en8:=g.rest _ _ c y;have er8:=g.rest _ _ er W;right;calc gN (by lia) (by lia) (λI Y=>?_);have UX:I≠p:=Step.ne X.fX Y;have P0:H I=none:=X.free Y;refine bx (J:=AF 0 l.toNat) (n:=l.toNat) (λi ys H'=>∃u:List bF,gY H' 2 ys (u.map bF.dv)/\u.length=i/\(∀Z∈u,Z.ok (1+m))/\Step p r H') (P' (aG (by lia))) ⟨[],gY.nil,rfl,λZ tQ=>by simp at tQ,(Step.refl X.fX).new Y⟩ (λi ys H' a _=>a) (λys H' _=>L' _) ?_ ?_
  ·intro i ys H' a B xU K7 x H9 Qa;nofun;obtain⟨u,tj,L,Qb,v⟩:=K7;obtain⟨rfl,rfl⟩:=Qa;ac_rfl;walk_at "xg";right;rw[if_pos trivial];refine⟨p,1 + m,rfl,v.fX,by lia,by lia,λg dd c K8 BH UY=>?_⟩;have UZ:=K8.rest _ _ B UX;have t10:bS c (upd c I (.lst (ys++[g]))):=(bS.refl _).upd λzs e=>by rw[UZ] at e;cases e
   refine cn UZ xU a (P' (aG (by lia))) ⟨u++[dd],?_,by simp[L],?_,?_⟩
   ·rw[List.map_append];exact((tj.aK (K8.aS v.fX)).snoc BH).aK t10
   ·intro Z tQ;rcases List.mem_append.mp tQ with z | z
    ·exact Qb Z z
    ·simp at z;subst z;exact UY
   ·exact⟨K8.fX.upd (Ne.symm UX),λb o e ne=>by rw[ay (au e Y)];calc K8.rest _ _ (v.rest _ _ e ne) ne⟩
  intro ys H9 i a g;nofun;obtain⟨u,tj,L,Qb,v⟩:=g;ac_rfl;have c:=X.trans v;right;calc⟨by show 4<=sizeLine;decide,λt g=>?_⟩;have a:=av.new (.tup [.int M,.ref D,.ref S,.ref I]) g;calc q t D S I ys M ns row u _ (c.new g) af (a _ _ (v.rest _ _ en8 y)) (a _ _ (v.rest _ _ er8 W)) (a _ _ i) (tj.aK a.aS) fD PZ P0 ⟨De,o8,by lia,by lia,by lia,qm,PQ,by lia,λd j=>?_⟩;rw[G];have e:(((1+m).toNat:Nat):Int)=1+m:=by lia
  rw[e];calc Qb d j
theorem qo{l:List Int}(h:l.length=1):∃a,l=[a]:=List.length_eq_one_iff.mp h
theorem U1{l:List Int}(h:l.length=2):∃a b,l=[a,b]:=by
 rcases l with _|⟨a,_|⟨b,l⟩⟩
 ·cases h
 ·cases h
 ·cases List.length_eq_zero_iff.mp (Nat.succ.inj (Nat.succ.inj h));calc⟨a,b,rfl⟩
abbrev iZ:Stmt:=top 17
inductive uE(K:W.Frag)(vs:List V)(H:Hp)(Q:VK):Prop
 |mk (x:_) (st:_) (way:_) (said:_) (v:_) (ns:_) (row:_) (n:_) (h0:vs=[x,st,.int way,.int said]) (h1:HT H n x (Val.dv v)) (h2:xm K H st ns row) (h3:v.ok ns.length) (h4:Q (.int (rO ns row way said v)) H):uE K vs H Q
def xV(K:W.Frag):Sp:=λvs H Q _=>uE K vs H Q
theorem tq(D:cZ K mg "plain_worth" "plain_worth" iZ ["value","state","way","said"])(T:Tx K mg C CN CR F FD):Def P w K mg base "plain_worth" 1 ["value","state","way","said"] (xV K):=by
 have sc:aE ["value","state","way","said","word"] ["value","state","way","said"] (az iZ):=by walk_at "s"
 symm
 ·obtain⟨x,st,way,g,v,ns,k,n,rfl,l,B,t,q⟩:=h;rfl
 ·nofun;obtain⟨x,st,way,g,v,ns,k,n,rfl,l,B,t,q⟩:=h;ac_rfl;have b:=hr.units;refine⟨_,(aj (ba (i:=4) sc.nd rfl (by grind) (ak b (aq 0) ai))
   (aj (aT (aC (aV b) (aq 4) aD (aH _)) (ao (aI (ak b (aq 0) ai))) aJ)
   (aj (aT (aC (aV b) (aq 4) aD (aH _)) (ao (aI (ak b (ak b (aq 1) ai) (ak b (aq 0) ai)))) aJ)
   (aj (aT (aC (aV b) (aq 4) aD (aH _)) (ao (aI (aq 3))) aJ)
   (aj (aT (aC (aV b) (aq 4) aD (aH _)) (ao (aI (aq 2))) aJ)
   (ao (aI (Ez (aC oM (bg aP rfl T.b4 U' (ag (ak b (aq 1) ai) aa)) ai (aH _)) (ak b (ak b (aq 1) ai) ai) ai)))))))),?_⟩
  nofun;obtain⟨a,M,N,rfl,u,J,G⟩:=B;ac_rfl
  cases v with
  |is z=>
   nofun;obtain⟨p,m,L,o,rfl,c,d,y⟩:=cy l;obtain rfl:=d.bO;obtain rfl:=y.bN;ac_rfl;walk_at "jd";refine cF _ _ (.inr (bM.of c)) rfl ?_;walk_at "jd"
   try rw[if_pos (by decide +kernel)]
   calc⟨_,_,.inr (bM.of c),rfl,q⟩
  |number i=>
   nofun;obtain⟨p,m,L,o,rfl,c,d,y⟩:=cy l;obtain rfl:=d.bO;obtain rfl:=y.bN;obtain⟨j,rfl⟩:=aaq t.1;ac_rfl;have I:j<ns.length:=by have:=t.2;lia
   walk_at "jd";refine cF _ _ (.inr (bM.of c)) rfl ?_;walk_at "jd"
   try rw[if_neg (by decide +kernel)]
   left
   try rw[if_pos (by decide +kernel)]
   calc⟨_,_,.inr (bM.of u),rfl,_,_,.inr (bM.of c),rfl,?_⟩;calc⟨_,.int ns[j],J,aA (by rw[List.getElem?_map,cE I];rfl),?_⟩;have e:rO ns k way g (.number j)=ns[j]:=by
    show ns.getD (j:Int).toNat 0=ns[j];simp[List.getD_eq_getElem?_getD,cE I]
   rw[e]at q;calc q
  |lY=>
   nofun;obtain⟨p,m,o,rfl,c,d⟩:=gf l;obtain rfl:=d.bO;ac_rfl;walk_at "jd";refine cF _ _ (.inr (bM.of c)) rfl ?_;walk_at "jd"
   try rw[if_neg (by decide +kernel)]
   left
   try rw[if_neg (by decide +kernel)]
   left
   try rw[if_pos (by decide +kernel)]
   calc q
  |way=>
   nofun;obtain⟨p,m,o,rfl,c,d⟩:=gf l;obtain rfl:=d.bO;ac_rfl;walk_at "jd";refine cF _ _ (.inr (bM.of c)) rfl ?_;walk_at "jd"
   try rw[if_neg (by decide +kernel)]
   left
   try rw[if_neg (by decide +kernel)]
   left
   try rw[if_neg (by decide +kernel)]
   left
   try rw[if_pos (by decide +kernel)]
   calc q
  |first=>
   nofun;obtain⟨p,m,o,rfl,c,d⟩:=gf l;obtain rfl:=d.bO;ac_rfl;walk_at "jd";refine cF _ _ (.inr (bM.of c)) rfl ?_;walk_at "jd"
   try rw[if_neg (by decide +kernel)]
   left
   try rw[if_neg (by decide +kernel)]
   left
   try rw[if_neg (by decide +kernel)]
   left
   try rw[if_neg (by decide +kernel)]
   calc cF _ _ (.inr (bM.of u)) rfl ?_;refine bE _ (G.elim (λz=>.inl ⟨_,z,rfl⟩) (λz=>.inr ⟨_,z,rfl⟩)) ?_
   cases k with
   |nil=>
    left;rw[if_neg (by simp)];calc q
   |cons r b=>
    left;rw[if_pos (by simp)];calc⟨_,_,.inr (bM.of u),rfl,_,_,G,aA (j:=0) rfl,q⟩
abbrev mr:Stmt:=top 18
inductive uF(K:W.Frag)(vs:List V)(H:Hp)(Q:VK):Prop
 |mk (x:_) (st:_) (way:_) (said:_) (m:_) (v:_) (ns:_) (row:_) (n:_) (h0:vs=[x,st,.int way,.int said,.int m]) (h1:HT H n x (Val.dv v)) (h2:xm K H st ns row) (h3:v.ok ns.length) (h4:0<m) (h5:Q (.int (rO ns row way said v%m)) H):uF K vs H Q
def xW(K:W.Frag):Sp:=λvs H Q _=>uF K vs H Q
theorem zS(D:cZ K mg "worth_of" "worth_of" mr ["value","state","way","said","modulus"])(T:Tx K mg C CN CR F FD)(j:Def P w K mg base "plain_worth" 1 ["value","state","way","said"] (xV K)):Def P w K mg base "worth_of" 2 ["value","state","way","said","modulus"] (xW K):=by
 have sc:aE ["value","state","way","said","modulus"] ["value","state","way","said","modulus"] (az mr):=by walk_at "s"
 symm
 ·obtain⟨x,st,b,a,m,v,ns,c,n,rfl,d,e,g,i,q⟩:=h;rfl
 ·nofun;obtain⟨x,st,b,a,m,v,ns,c,n,rfl,d,e,g,i,q⟩:=h;ac_rfl;have k:=hr.units;refine⟨_,(ao (aI (aU cK (aM j hr (ag (aq 0) (ag (aq 1) (ag (aq 2) (ag (aq 3) aa))))) (aq 4)))),?_⟩;walk_at "jd";exact⟨x,st,b,a,v,ns,c,n,rfl,d,e,g,i,q⟩
abbrev kF:Stmt:=top 25
inductive VL(H:Hp)(n:Nat):List V->List Val->Prop
 |nil:VL H n [] []
 |cons {x v xs vs}:HT H n x (Val.dv v)->VL H n xs vs->VL H n (x::xs) (v::vs)
theorem VL.same{H H':Hp}{n:Nat}(s:bS H H'){xs:List V}{vs:List Val}(h:VL H n xs vs):VL H' n xs vs:=by
 induction h with
 |nil=>calc .nil
 |cons a _ b=>calc .cons (a.aK s) b
theorem VL.snoc{H:Hp}{n:Nat}{xs:List V}{vs:List Val}{x:V}{v:Val}(h:VL H n xs vs)(a:HT H n x v.dv):VL H n (xs++[x]) (vs++[v]):=by
 induction h with
 |nil=>calc .cons a .nil
 |cons a _ b=>calc .cons a b
theorem VL.len{H:Hp}{n:Nat}{xs:List V}{vs:List Val}(h:VL H n xs vs):xs.length=vs.length:=by
 induction h with
 |nil=>rfl
 |cons _ _ a=>simp[a]
inductive PL(H:Hp)(n:Nat):List V->List (Option Val)->Prop
 |nil:PL H n [] []
 |str {w xs os}:PL H n xs os->PL H n (.str w::xs) (none::os)
 |int {i xs os}:PL H n xs os->PL H n (.int i::xs) (none::os)
 |val {x v xs os}:HT H n x (Val.dv v)->PL H n xs os->PL H n (x::xs) (some v::os)
theorem PL.get{H:Hp}{n:Nat}{xs:List V}{os:List (Option Val)}(h:PL H n xs os):∀{i:Nat}{x:V},xs[i]?=some x->∃o,os[i]?=some o/\((o=none/\((∃w,x=.str w)\/∃j,x=.int j))\/∃v,o=some v/\HT H n x (Val.dv v)):=by
 induction h with
 |nil=>intro i x h;simp at h
 |str _ a=>
  intro i x h
  cases i with
  |zero=>cases h;calc⟨none,rfl,.inl ⟨rfl,.inl ⟨_,rfl⟩⟩⟩
  |succ i=>calc a h
 |int _ a=>
  intro i x h
  cases i with
  |zero=>cases h;calc⟨none,rfl,.inl ⟨rfl,.inr ⟨_,rfl⟩⟩⟩
  |succ i=>calc a h
 |val b _ a=>
  intro i x h
  cases i with
  |zero=>cases h;calc⟨some _,rfl,.inr ⟨_,rfl,b⟩⟩
  |succ i=>calc a h
theorem PL.len{H:Hp}{n:Nat}{xs:List V}{os:List (Option Val)}(h:PL H n xs os):xs.length=os.length:=by
 induction h with
 |nil=>rfl
 |str _ a=>simp[a]
 |int _ a=>simp[a]
 |val _ _ a=>simp[a]
theorem BI{H:Hp}{n:Nat}{x:V}{d:bF}(hx:HT H n x d.dv):∃a xs os k0,x=.ref a/\H a=some (.tup xs)/\PL H k0 xs os/\os.filterMap id=d.vals/\xs.length<=4:=by
 cases d with
 |set i v=>
  nofun;walk_at "xh";obtain rfl:=g1.bO;obtain rfl:=g2.bN;ac_rfl;exact⟨a,_,_,k0,rfl,ha,.str (.int (.val g3 .nil)),rfl,by simp⟩
 |add i v=>
  nofun;walk_at "xh";obtain rfl:=g1.bO;obtain rfl:=g2.bN;ac_rfl;exact⟨a,_,_,k0,rfl,ha,.str (.int (.val g3 .nil)),rfl,by simp⟩
 |times i v=>
  nofun;walk_at "xh";obtain rfl:=g1.bO;obtain rfl:=g2.bN;ac_rfl;exact⟨a,_,_,k0,rfl,ha,.str (.int (.val g3 .nil)),rfl,by simp⟩
 |put v=>
  nofun;obtain⟨a,u1,u2,k0,rfl,ha,g1,g2⟩:=cy hx;obtain rfl:=g1.bO;ac_rfl;calc⟨a,_,_,k0,rfl,ha,.str (.val g2 .nil),rfl,by simp⟩
 |drop=>
  nofun;obtain⟨a,u1,k0,rfl,ha,g1⟩:=gf hx;obtain rfl:=g1.bO;ac_rfl;calc⟨a,_,_,k0,rfl,ha,.str (.nil),rfl,by simp⟩
 |send j v=>
  nofun;walk_at "xh";obtain rfl:=g1.bO;obtain rfl:=g2.bN;ac_rfl;exact⟨a,_,_,k0,rfl,ha,.str (.int (.val g3 .nil)),rfl,by simp⟩
 |say v=>
  nofun;obtain⟨a,u1,u2,k0,rfl,ha,g1,g2⟩:=cy hx;obtain rfl:=g1.bO;ac_rfl;calc⟨a,_,_,k0,rfl,ha,.str (.val g2 .nil),rfl,by simp⟩
 |skip v c e=>
  nofun;obtain⟨a,u1,u2,u3,f,k0,rfl,ha,g1,g2,g3,b⟩:=jQ hx;obtain rfl:=g1.bO;obtain rfl:=b.bN;ac_rfl;calc⟨a,_,_,k0,rfl,ha,.str (.val g2 (.val g3 (.int .nil))),rfl,by simp⟩
inductive xX(vs:List V)(H:Hp)(Q:VK):Prop
 |mk (x:_) (n:_) (d:_) (h0:vs=[x]) (h1:HT H n x (bF.dv d)) (h2:∀l zs k0 H',av H H'->H l=none->H' l=some (.lst zs)->VL H' k0 zs d.vals->Q (.ref l) H'):xX vs H Q
def BJ:Sp:=λvs H Q _=>xX vs H Q
theorem xY(D:cZ K mg "values_of" "values_of" kF ["deed"])(T:Tx K mg C CN CR F FD):Def P w K mg base "values_of" 1 ["deed"] BJ:=by
 have sc:aE ["deed"] ["deed"] (az kF):=by walk_at "s"
 symm
 ·obtain⟨x,n,d,rfl,I,q⟩:=h;rfl
 ·nofun;obtain⟨x,n,d,rfl,I,q⟩:=h;ac_rfl;have hu:=hr.units;refine⟨_,(ao (aI (dE (N':=["part"]) (ix:=[none]) (cu (pv 0)) (λ_ _ _ _=>(bb (i:=0) (show(["part"]:List Str).Nodup by decide +kernel) rfl (by grind))) (λ_ _ _ _=>(lp (bz (bg (uv (K:=K) rfl) rfl T.bq yK (ag (aq 0) (ag (dB (v:=.ty "tuple") rfl T.cB sR rfl) aa)))))) (λ_ _ _ _=>(aq 0))))),?_⟩;nofun;obtain⟨a,k,u,L,rfl,p,M,U,T⟩:=BI I;ac_rfl;left;refine bT ?_;left;refine .inr ⟨⟨_,bM.of p⟩,λD y=>?_⟩;refine bx (J:=Sx K a) (n:=k.length) (λi ys H'=>av H H'/\VL H' L ys ((u.take i).filterMap id)) (P' (aG (by lia))) ⟨av.new _ y,.nil⟩ ?_ ?_ ?_ ?_
  ·rintro i ys H' z ⟨g,_⟩;exact⟨k,k[i],bM.of (g _ _ p),cE z⟩
  ·rintro ys H' ⟨g,_⟩;exact⟨k,bM.of (g _ _ p),L' _⟩
  ·intro i ys H' z l N X x r Y;nofun;obtain⟨g,m⟩:=X;obtain⟨rfl,n⟩:=Y;have I:=n k (bM.of (g _ _ p));obtain⟨o,T,Z⟩:=M.get I;ac_rfl;have O:u.take (i+1)=u.take i++[o]:=by
    rw[List.take_add_one,T];rfl
   walk_at "xg";left;rcases Z with⟨rfl,hc⟩|⟨v,rfl,B⟩
   ·have G:∃t,gb K r x t/\W.kitOne K t (.type "tuple")=some false:=by
     rcases hc with⟨w,rfl⟩|⟨j,rfl⟩
     ·exact⟨_,.str w,rfl⟩
     ·exact⟨_,.int j,rfl⟩
    obtain⟨t,i,j⟩:=G;refine cF t false i j ?_
    first|calc⟨false,rfl,?_⟩|skip
    left
    try rw[if_neg Bool.false_ne_true]
    exact⟨ys,l,by lia,g,by rw[O];simpa using m⟩
   ·have R:=B.aK g.aS;nofun;obtain⟨b,zs,rfl,i⟩:=Bp R;ac_rfl;refine cF _ true (.tup i) rfl ?_
    first|calc⟨true,rfl,?_⟩|skip
    left
    try first|rw[if_pos rfl]|rw[if_pos trivial]
    calc cn l N z (P' (aG (by lia))) ⟨λc o e=>by rw[ay (au e y)];calc g _ _ e,?_⟩;rw[O,List.filterMap_append];have S:bS r (upd r D (.lst (ys++[.ref b]))):=(bS.refl r).upd λzs e=>by rw[l]at e;cases e
    exact(m.same S).snoc (R.aK S)
  ·rintro ys H' l N ⟨g,m⟩;rw[M.len,List.take_length,U]at m;calc q _ ys L _ g y l m
abbrev gk:Stmt:=top 33
inductive BK(vs:List V)(H:Hp)(Q:VK):Prop
 |mk (an:Addr) (x:V) (l:Addr) (ns ws:List Int) (M:Int) (n:Nat) (d:bF) (h0:vs=[.ref an,x,.ref l,.int M]) (h1:H an=some (.lst (ns.map V.int))) (h2:HT H n x d.dv) (h3:H l=some (.lst (ws.map V.int))) (h4:ws.length=d.vals.length) (h5:d.ok ns.length) (h6:0<M) (h7:M<=1000000000000) (h8:(∀z∈ns,0<=z/\z<M)) (h9:∀H',H' an=some (.lst ((cS M ns (ws.getD 0 0) d).map V.int))->(∀b o,b≠an->H b=some o->H' b=some o)->Q .bD H'):BK vs H Q
def Hh:Sp:=λvs H Q _=>BK vs H Q
theorem pd(D:cZ K mg "change_numbers" "change_numbers" gk ["numbers","deed","worths","modulus"])(T:Tx K mg C CN CR F FD):Def P w K mg base "change_numbers" 1 ["numbers","deed","worths","modulus"] Hh:=by
 have sc:aE ["numbers","deed","worths","modulus"] ["numbers","deed","worths","modulus"] (az gk):=by walk_at "s"
 symm
 ·obtain⟨g,x,l,ns,ws,M,n,d,rfl,k,hx,L,u,y,B,N,G,q⟩:=h;rfl
 ·nofun;obtain⟨g,x,l,ns,ws,M,n,d,rfl,k,hx,L,u,y,B,N,G,q⟩:=h;ac_rfl;have g:=hr.units;refine⟨_,(ao (aT (aC (aV g) (ak g (aq 1) ai) aD (aH _)) (ao (fG (ak g (aq 2) ai) (iT (aq 0) (ak g (aq 1) ai) d9))) (ao (aT (aC (aV g) (ak g (aq 1) ai) aD (aH _)) (ao (fG (aU cK (aU cR (ak g (aq 0) (ak g (aq 1) ai)) (ak g (aq 2) ai)) (aq 3)) (iT (aq 0) (ak g (aq 1) ai) d9))) (ao (aT (aC (aV g) (ak g (aq 1) ai) aD (aH _)) (ao (fG (aU cK (aU lx (ak g (aq 0) (ak g (aq 1) ai)) (ak g (aq 2) ai)) (aq 3)) (iT (aq 0) (ak g (aq 1) ai) d9))) aJ)))))),?_⟩
  cases d with
  |set i v=>
   nofun;walk_at "xh";obtain rfl:=g1.bO;obtain rfl:=g2.bN;obtain⟨j,rfl⟩:=qo u;obtain⟨p,I,_⟩:=y;obtain⟨c,rfl⟩:=aaq p;ac_rfl;have m:c<ns.length:=by lia
   have r:p6 (ns.map V.int).length (c:Int)=some c:=by
    unfold p6;left;rw[if_pos (by lia)];left;rw[if_pos (by rw[List.length_map];lia)];rfl
   have J:hJ (ns.map V.int) (c:Int)=some (.int ns[c]):=aA (by rw[List.getElem?_map,cE m];rfl);have z:ns.getD (c:Int).toNat 0=ns[c]:=by simp[List.getD_eq_getElem?_getD,cE m]
   walk_at "jg";refine cF _ c k r ?_;refine q _ ?_ λb o t e=>by rw[ay t];exact e
   rw[af];have:(ns.map V.int).set c (.int j)=(cS M ns (([j]:List Int).getD 0 0) (.set c v)).map V.int:=by
    rw[<-List.map_set];show List.map V.int (ns.set c j)=List.map V.int (ns.set (c:Int).toNat j);rfl
   rw[<-this]
  |add i v=>
   nofun;walk_at "xh";obtain rfl:=g1.bO;obtain rfl:=g2.bN;obtain⟨j,rfl⟩:=qo u;obtain⟨p,I,_⟩:=y;obtain⟨c,rfl⟩:=aaq p;ac_rfl;have m:c<ns.length:=by lia
   have r:p6 (ns.map V.int).length (c:Int)=some c:=by
    unfold p6;left;rw[if_pos (by lia)];left;rw[if_pos (by rw[List.length_map];lia)];rfl
   have J:hJ (ns.map V.int) (c:Int)=some (.int ns[c]):=aA (by rw[List.getElem?_map,cE m];rfl);have z:ns.getD (c:Int).toNat 0=ns[c]:=by simp[List.getD_eq_getElem?_getD,cE m]
   walk_at "jg";refine⟨B,?_⟩;walk_at "jg";refine cF _ c k r ?_;refine q _ ?_ λb o t e=>by rw[ay t];exact e
   rw[af];have:(ns.map V.int).set c (.int ((ns[c]+j)%M))=(cS M ns (([j]:List Int).getD 0 0) (.add c v)).map V.int:=by
    rw[<-List.map_set];show List.map V.int (ns.set c ((ns[c]+j)%M))=List.map V.int (ns.set (c:Int).toNat ((ns.getD (c:Int).toNat 0+j)%M));rw[z];rfl
   rw[<-this]
  |times i v=>
   nofun;walk_at "xh";obtain rfl:=g1.bO;obtain rfl:=g2.bN;obtain⟨j,rfl⟩:=qo u;obtain⟨p,I,_⟩:=y;obtain⟨c,rfl⟩:=aaq p;ac_rfl;have m:c<ns.length:=by lia
   have r:p6 (ns.map V.int).length (c:Int)=some c:=by
    unfold p6;left;rw[if_pos (by lia)];left;rw[if_pos (by rw[List.length_map];lia)];rfl
   have J:hJ (ns.map V.int) (c:Int)=some (.int ns[c]):=aA (by rw[List.getElem?_map,cE m];rfl);have z:ns.getD (c:Int).toNat 0=ns[c]:=by simp[List.getD_eq_getElem?_getD,cE m]
   walk_at "jg";have g:=G ns[c] (aai m);refine gN (.inl ⟨by lia,by lia⟩) B ?_;walk_at "jg";refine cF _ c k r ?_;refine q _ ?_ λb o t e=>by rw[ay t];exact e
   rw[af];have:(ns.map V.int).set c (.int ((ns[c]*j)%M))=(cS M ns (([j]:List Int).getD 0 0) (.times c v)).map V.int:=by
    rw[<-List.map_set];show List.map V.int (ns.set c ((ns[c]*j)%M))=List.map V.int (ns.set (c:Int).toNat ((ns.getD (c:Int).toNat 0*j)%M));rw[z];rfl
   rw[<-this]
  |put v=>
   nofun;obtain⟨a,u1,u2,k0,rfl,ha,g1,g2⟩:=cy hx;obtain rfl:=g1.bO;ac_rfl;walk_at "jg";exact q H k λ_ _ _ e=>e
  |drop=>
   nofun;obtain⟨a,u1,k0,rfl,ha,g1⟩:=gf hx;obtain rfl:=g1.bO;ac_rfl;walk_at "jg";exact q H k λ_ _ _ e=>e
  |send j v=>
   nofun;walk_at "xh";obtain rfl:=g1.bO;obtain rfl:=g2.bN;ac_rfl;walk_at "jg";exact q H k λ_ _ _ e=>e
  |say v=>
   nofun;obtain⟨a,u1,u2,k0,rfl,ha,g1,g2⟩:=cy hx;obtain rfl:=g1.bO;ac_rfl;walk_at "jg";exact q H k λ_ _ _ e=>e
  |skip v c g=>
   nofun;obtain⟨a,u1,u2,u3,R,k0,rfl,ha,g1,g2,g3,O⟩:=jQ hx;obtain rfl:=g1.bO;obtain rfl:=O.bN;ac_rfl;walk_at "jg";exact q H k λ_ _ _ e=>e
abbrev jV:Stmt:=top 34
inductive BL(vs:List V)(H:Hp)(Q:VK):Prop
 |mk (an:Addr) (x:V) (l:Addr) (row ws:List Int) (n:Nat) (d:bF) (h0:vs=[.ref an,x,.ref l]) (h1:H an=some (.lst (row.map V.int))) (h2:HT H n x d.dv) (h3:H l=some (.lst (ws.map V.int))) (h4:ws.length=d.vals.length) (h5:row.length<=12) (h6:∀H',H' an=some (.lst ((fO row (ws.getD 0 0) d).map V.int))->(∀b o,b≠an->H b=some o->H' b=some o)->Q .bD H'):BL vs H Q
def Hi:Sp:=λvs H Q _=>BL vs H Q
theorem vO(D:cZ K mg "change_row" "change_row" jV ["row","deed","worths"])(T:Tx K mg C CN CR F FD):Def P w K mg base "change_row" 1 ["row","deed","worths"] Hi:=by
 have sc:aE ["row","deed","worths"] ["row","deed","worths"] (az jV):=by walk_at "s"
 symm
 ·obtain⟨u,x,l,c,ws,n,d,rfl,g,hx,y,t,j,q⟩:=h;rfl
 ·nofun;obtain⟨u,x,l,c,ws,n,d,rfl,g,hx,y,t,j,q⟩:=h;ac_rfl;have j:=hr.units;refine⟨_,(ao (aT (PW.pt (pw_and (aC (aV j) (ak j (aq 1) ai) aD (aH _)) (pw_and1 (aC gK (bg aP rfl T.b4 U' (ag (aq 0) aa)) (fM T.ff rfl) (aH _))))) (ao (cj (dD oj qA qB ck (aq 0) (ag (ak j (aq 2) ai) aa)))) (ao (aT (PW.pt (pw_and (aC (aV j) (ak j (aq 1) ai) aD (aH _)) (pw_and1 (aC oM (bg aP rfl T.b4 U' (ag (aq 0) aa)) ai (aH _))))) (ao (Ki (aq 0) ai)) aJ)))),?_⟩
  cases d with
  |set i v=>
   nofun;walk_at "xh";obtain rfl:=g1.bO;obtain rfl:=g2.bN;ac_rfl;walk_at "jg";exact q H g λ_ _ _ e=>e
  |add i v=>
   nofun;walk_at "xh";obtain rfl:=g1.bO;obtain rfl:=g2.bN;ac_rfl;walk_at "jg";exact q H g λ_ _ _ e=>e
  |times i v=>
   nofun;walk_at "xh";obtain rfl:=g1.bO;obtain rfl:=g2.bN;ac_rfl;walk_at "jg";exact q H g λ_ _ _ e=>e
  |put v=>
   nofun;obtain⟨a,u1,u2,k0,rfl,ha,g1,g2⟩:=cy hx;obtain rfl:=g1.bO;obtain⟨k,rfl⟩:=qo t;ac_rfl;walk_at "jg";refine bE _ (.inl ⟨_,aR.of g,rfl⟩) ?_;rw[List.length_map];by_cases m:c.length<12
   ·left;rw[if_pos (by simp;lia)];walk_at "jg";refine⟨.inl ⟨rfl,_,aR.of g⟩,?_⟩;walk_at "jg";refine hX _ g (aaS (by simp;lia) (aG (n:=100) (by lia))) ?_;refine q _ ?_ λb o p e=>by rw[ay p];exact e
    rw[af];have:(c.map V.int)++[V.int k]=(fO c (([k]:List Int).getD 0 0) (.put v)).map V.int:=by
     show _=(if c.length<12 then c++[k] else c).map V.int;rw[if_pos m];simp
    rw[this]
   ·left;rw[if_neg (by simp;lia)];walk_at "jg";refine q H ?_ λ_ _ _ e=>e;have:(fO c (([k]:List Int).getD 0 0) (.put v))=c:=by
     show(if c.length<12 then c++[k] else c)=c;left;rw[if_neg m]
    rw[this];calc g
  |drop=>
   nofun;obtain⟨a,u1,k0,rfl,ha,g1⟩:=gf hx;obtain rfl:=g1.bO;ac_rfl;walk_at "jg";refine bE _ (.inl ⟨_,aR.of g,rfl⟩) ?_
   cases c with
   |nil=>
    left
    try rw[if_neg (by simp)]
    calc q H g λ_ _ _ e=>e
   |cons r c=>
    left;rw[if_pos (by simp)];walk_at "jg";refine aag _ _ _ 0 rfl rfl g (by decide) (by decide) (by simp[seqIndex?]) ?_;exact q _ af λb o p e=>by rw[ay p];exact e
  |send j v=>
   nofun;walk_at "xh";obtain rfl:=g1.bO;obtain rfl:=g2.bN;ac_rfl;walk_at "jg";exact q H g λ_ _ _ e=>e
  |say v=>
   nofun;obtain⟨a,u1,u2,k0,rfl,ha,g1,g2⟩:=cy hx;obtain rfl:=g1.bO;ac_rfl;walk_at "jg";exact q H g λ_ _ _ e=>e
  |skip v c i=>
   nofun;obtain⟨a,u1,u2,u3,B,k0,rfl,ha,g1,g2,g3,z⟩:=jQ hx;obtain rfl:=g1.bO;obtain rfl:=z.bN;ac_rfl;walk_at "jg";exact q H g λ_ _ _ e=>e
abbrev mw:Stmt:=top 35
inductive x8(vs:List V)(H:Hp)(Q:VK):Prop
 |mk (x:V) (l:Addr) (ws:List Int) (n:Nat) (d:bF) (h0:vs=[x,.ref l]) (h1:HT H n x d.dv) (h2:H l=some (.lst (ws.map V.int))) (h3:ws.length=d.vals.length) (h4:Q (.int (fP (ws.getD 0 0) (ws.getD 1 0) d)) H):x8 vs H Q
def BM:Sp:=λvs H Q _=>x8 vs H Q
theorem zT(D:cZ K mg "left_out" "left_out" mw ["deed","worths"])(T:Tx K mg C CN CR F FD):Def P w K mg base "left_out" 1 ["deed","worths"] BM:=by
 have sc:aE ["deed","worths"] ["deed","worths"] (az mw):=by walk_at "s"
 symm
 ·obtain⟨x,l,ws,n,d,rfl,hx,g,o,q⟩:=h;rfl
 ·nofun;obtain⟨x,l,ws,n,d,rfl,hx,g,o,q⟩:=h;ac_rfl;have g:=hr.units;refine⟨_,(aj (aT (PW.pt (pw_and (aC (aV g) (ak g (aq 0) ai) aD (aH _)) (pw_and1 (aC gK (ak g (aq 1) ai) (ak g (aq 1) ai) (aH _))))) (ao (aI (ak g (aq 0) ai))) aJ)
   (ao (aI ai))),?_⟩
  cases d with
  |set i v=>
   nofun;walk_at "xh";obtain rfl:=g1.bO;obtain rfl:=g2.bN;ac_rfl;walk_at "jg";exact q
  |add i v=>
   nofun;walk_at "xh";obtain rfl:=g1.bO;obtain rfl:=g2.bN;ac_rfl;walk_at "jg";exact q
  |times i v=>
   nofun;walk_at "xh";obtain rfl:=g1.bO;obtain rfl:=g2.bN;ac_rfl;walk_at "jg";exact q
  |put v=>
   nofun;obtain⟨a,u1,u2,k0,rfl,ha,g1,g2⟩:=cy hx;obtain rfl:=g1.bO;ac_rfl;walk_at "jg";exact q
  |drop=>
   nofun;obtain⟨a,u1,k0,rfl,ha,g1⟩:=gf hx;obtain rfl:=g1.bO;ac_rfl;walk_at "jg";exact q
  |send j v=>
   nofun;walk_at "xh";obtain rfl:=g1.bO;obtain rfl:=g2.bN;ac_rfl;walk_at "jg";exact q
  |say v=>
   nofun;obtain⟨a,u1,u2,k0,rfl,ha,g1,g2⟩:=cy hx;obtain rfl:=g1.bO;ac_rfl;walk_at "jg";exact q
  |skip v k e=>
   nofun;obtain⟨a,u1,u2,u3,r,k0,rfl,ha,g1,g2,g3,p⟩:=jQ hx;obtain rfl:=g1.bO;obtain rfl:=p.bN;obtain⟨b,c,rfl⟩:=U1 o;ac_rfl;walk_at "jg";by_cases m:b<c
   ·left;rw[if_pos (by simpa using m)];walk_at "jg";have:fP b c (.skip v k e)=e:=if_pos m;rw[show fP (([b,c]:List Int).getD 0 0) (([b,c]:List Int).getD 1 0) (.skip v k e)=e from this]at q;exact q
   ·left;rw[if_neg (by simpa using m)];have:fP b c (.skip v k e)=0:=if_neg m;rw[show fP (([b,c]:List Int).getD 0 0) (([b,c]:List Int).getD 1 0) (.skip v k e)=0 from this]at q;left;calc q
theorem Hk{d:TT}{f:TS}{D:Ends}(e:St->Hp->Prop)(μ:St->Nat)(h:e σ H)
  (i:∀σ H,e σ H->d σ H λb H1=>if b=true then ∃N:St->Hp->Prop,(∀a H',N a H'->e a H'/\μ a<μ σ)/\f {D with nx:=N,ct:=N,bk:=D.nx} σ H1 else D.nx σ H1)
  (c:∀σ H (Q g:Bool->Hp->Prop),(∀b H1,Q b H1->g b H1)->d σ H Q->d σ H g):u6 d f D σ H:=by
 calc⟨λm σ H=>m=μ σ/\e σ H,⟨_,rfl,h⟩,?_⟩;rintro m σ H ⟨rfl,p⟩;refine c σ H _ _ (λb H1 q=>?_) (i σ H p)
 cases b with
 |true=>
  obtain⟨N,c,d⟩:=q;calc⟨N,λa H' n=>⟨_,(c a H' n).2,rfl,(c a H' n).1⟩,d⟩
 |false=>calc q
def SL(H:Hp)(zs:List V)(a:List (Int×Int)):Prop:=zs.length=a.length/\∀(i:Nat) z p,zs[i]?=some z->a[i]?=some p->HT H 1 z (.tup [.int p.1,.int p.2])
theorem SL.aK(s:bS H H'){zs:List V}{a:List (Int×Int)}(h:SL H zs a):SL H' zs a:=⟨h.1,λi z p a b=>(h.2 i z p a b).aK s⟩
theorem SL.snoc{c:List (Int×Int)}{j w:Int}(h:SL H zs c)(f:HT H 1 z (.tup [.int j,.int w])):SL H (zs++[z]) (c++[(j,w)]):=by
 calc⟨by simp[h.1],λi g p a b=>?_⟩;by_cases d:i<zs.length
 ·rw[List.getElem?_append_left d]at a;rw[List.getElem?_append_left (by rw[<-h.1];calc d)]at b;exact h.2 i g p a b
 ·rw[List.getElem?_append_right (by lia)] at a;rw[List.getElem?_append_right (by rw[<-h.1];lia)] at b;rw[h.1] at a
  cases e:i-c.length with
  |zero=>rw[e]at a b;cases a;cases b;calc f
  |succ k=>rw[e]at a;simp at a
structure Res(H H':Hp)(x:V)(s:WS):Prop where
 ex:∃p st l1 l2 zs,x=.ref p/\H' p=some (.tup [st,.ref l1,.ref l2])/\HT H' 2 st (yE s.ns s.row)/\H' l1=some (.lst zs)/\SL H' zs s.cb/\H' l2=some (.lst (s.words.map V.int))/\H l1=none/\H l2=none/\l1≠l2
theorem dj{M w:Int}(e:0<M)(b:∀z∈ns,0<=z/\z<M)(f:0<=w/\w<M):∀z∈cS M ns w d,0<=z/\z<M:=by
 have a:∀(j:Nat) (y:Int),(0<=y/\y<M)->∀z∈ns.set j y,0<=z/\z<M:=λj y g z i=>by
  rcases List.mem_or_eq_of_mem_set i with h|h
  ·exact b z h
  ·rw[h];exact g
 have c:∀y:Int,0<=y%M/\y%M<M:=λy=>⟨aaE _ (by lia),aaC _ e⟩
 cases d with
 |set i v=>calc a _ _ f
 |add i v=>calc a _ _ (c _)
 |times i v=>calc a _ _ (c _)
 |_=>calc b
theorem kG{w:Int}{a:List Int}{d:bF}(h:a.length<=12):(fO a w d).length<=12:=by
 cases d with
 |put v=>
  show(if a.length<12 then a++[w] else a).length<=12;split
  ·simp;lia
  ·calc h
 |drop=>show a.tail.length<=12;simp;lia
 |_=>calc h
theorem Hl{m w w':Int}{d:bF}(h:d.ok m):0<=fP w w' d:=by
 cases d with
 |skip v u k=>
  show 0<=(if w<w' then k else 0)
  split
  ·exact Int.le_trans (by decide) h.2.2.1
  ·calc Int.le_refl _
 |_=>calc Int.le_refl _
theorem nQ{m:Int}(h:d.ok m):∀v∈d.vals,v.ok m:=by
 intro v a
 cases d<;>simp only[bF.vals,List.mem_cons,List.not_mem_nil,or_false]at a
 case set=>subst a;exact h.2.2
 case add=>subst a;exact h.2.2
 case times=>subst a;exact h.2.2
 case put=>subst a;exact h
 case send=>subst a;exact h.2
 case say=>subst a;exact h
 case skip=>rcases a with rfl|rfl;calc h.1;calc h.2.1
theorem VL.get{H:Hp}{n:Nat}{xs:List V}{vs:List Val}(h:VL H n xs vs):∀{i:Nat}{x:V},xs[i]?=some x->∃v,vs[i]?=some v/\HT H n x (Val.dv v):=by
 induction h with
 |nil=>intro i x h;simp at h
 |cons a _ b=>
  intro i x h
  cases i with
  |zero=>cases h;calc⟨_,rfl,a⟩
  |succ i=>calc b h
theorem x9:d.vals.length<=2:=by cases d<;>simp[bF.vals]
theorem uG{M way said:Int}{ns a:List Int}{vs:List Val}{i:Nat}(b:0<M):0<=(vs.map (fN M way said ns a)).getD i 0/\(vs.map (fN M way said ns a)).getD i 0<M:=by
 rw[List.getD_eq_getElem?_getD,List.getElem?_map]
 cases vs[i]? with
 |none=>calc⟨Int.le_refl _,b⟩
 |some v=>calc⟨aaE _ (by lia),aaC _ b⟩
theorem MJ{a:Nat}{k:Int}(h:0<=k):(a:Int)+(1+k)=((a+1+k.toNat:Nat):Int):=by lia
theorem MK{α:Type}{x:α}{xs:List α}{a k f:Nat}(h:(x::xs.drop (a+1)).length<=f+1):(xs.drop (a+1+k)).length<=f:=by
 rw[List.length_drop];rw[List.length_cons,List.length_drop]at h;lia
theorem ML{n a:Nat}{k:Int}(b:a<n)(h:0<=k):n-((a:Int)+(1+k)).toNat<n-a:=by lia
abbrev gm:Stmt:=(cf (top 36)).getD 4 (.Pass ⟨0,0,0,0⟩)
def muW(n:Nat)(σ:St):Nat:=match σ[8]? with
 |some (some (V.int i))=>n-i.toNat
 |_=>0
inductive rZ(K:W.Frag)(C:Addr)(vs:List V)(H:Hp)(Q:VK):Prop
 |mk (m:Addr) (st:V) (way said M:Int) (ns0 CQ:List Int) (ds:List bF) (ns row:List Int) (h0:vs=[.ref m,st,.int way,.int said]) (h1:ip C H m M ns0 CQ ds) (h2:xm K H st ns row) (h3:2<=M) (h4:M<=1000000000000) (h5:(∀z∈ns,0<=z/\z<M)) (h6:row.length<=12) (h7:ds.length<=24) (h8:(∀d∈ds,d.ok ns.length)) (h9:∀x H',av H H'->Res H H' x (nJ M way said ds ns row)->Q x H'):rZ K C vs H Q
def uH(K:W.Frag)(C:Addr):Sp:=λvs H Q _=>rZ K C vs H Q
inductive Qd(H:Hp)(m:Addr)(st:V)(way said M:Int)(ds:List bF)(ns row:List Int)(σ:St)(H':Hp):Prop
 |mk (an ar fC aw:Addr) (zs:List V) (z9 Qe:Option V) (at_:Nat) (s:WS) (f:Nat) (h0:σ=[some (.ref m),some st,some (.int way),some (.int said),some (.ref an),some (.ref ar),some (.ref fC),some (.ref aw),some (.int at_),z9,Qe]) (h1:av H H') (h2:H an=none) (h3:H ar=none) (h4:H fC=none) (h5:H aw=none) (h6:an≠ar) (h7:an≠fC) (h8:an≠aw) (h9:ar≠fC) (K2:ar≠aw) (PY:fC≠aw) (h12:H' an=some (.lst (s.ns.map V.int))) (h13:H' ar=some (.lst (s.row.map V.int))) (h14:H' fC=some (.lst zs)) (h15:SL H' zs s.cb) (h16:H' aw=some (.lst (s.words.map V.int))) (h17:s.ns.length=ns.length) (h18:(∀z∈s.ns,0<=z/\z<M)) (h19:s.row.length<=12) (h20:s.cb.length<=at_) (h21:s.words.length<=at_) (h22:xl M way said f (ds.drop at_) s=nJ M way said ds ns row) (h23:(ds.drop at_).length<=f):Qd H m st way said M ds ns row σ H'
theorem pf(D:gL K C "worked" "Machine.worked" gm ["self","state","way","said"])(T:Tx K mg C CN CR F FD)(gn:Def P w K mg base "change_numbers" 1 ["numbers","deed","worths","modulus"] Hh)(jW:Def P w K mg base "change_row" 1 ["row","deed","worths"] Hi)(mx:Def P w K mg base "left_out" 1 ["deed","worths"] BM)(kH:Def P w K mg base "values_of" 1 ["deed"] BJ)(my:Def P w K mg base "worth_of" 2 ["value","state","way","said","modulus"] (xW K)):d7 P w K mg base C "worked" 3 ["self","state","way","said"] (uH K C):=by
  have sc:aE ["self","state","way","said","numbers","row","sent","words","at","deed","worths"] ["self","state","way","said"] (az gm):=by walk_at "s"
  symm
  · obtain⟨m,st,k,g,M,ns0,CQ,l,ns,row,rfl,hm,om,De,o8,hb,nN,MB,aW,q⟩:=h;rfl
  · nofun;obtain⟨m,st,k,g,M,ns0,CQ,l,ns,row,rfl,hm,om,De,o8,hb,nN,MB,aW,q⟩:=h;ac_rfl;have hu:=hr.units;refine⟨_,(aj (ba (i:=4) sc.nd rfl (by grind) (dZ cM rfl T.fe AB (ag (ak hu (aq 1) ai) aa)))
      (aj (ba (i:=5) sc.nd rfl (by grind) (dZ cM rfl T.fe AB (ag (ak hu (aq 1) ai) aa)))
      (aj (ba (i:=6) sc.nd rfl (by grind) (bR aa))
      (aj (ba (i:=7) sc.nd rfl (by grind) (bR aa))
      (aj (ba (i:=8) sc.nd rfl (by grind) ai)
      (aj (ED PassesOwn.never (AL gK (pv 8) (bg aP rfl T.b4 U' (ag (bP (pv 0) rfl) aa)) (aH _))
      (aj (ba (i:=9) sc.nd rfl (by grind) (ak hu (bP (aq 0) rfl) (aq 8)))
      (aj (ij (i:=10) sc.nd rfl (by grind) (N':=["value","way","said","numbers","row","self"]) (ix:=[none,some 2,some 3,some 4,some 5,some 0]) (cu (aM kH hr (ag (aq 9) aa))) (λ_ _ _ _=>(bb (i:=0) (show(["value","way","said","numbers","row","self"]:List Str).Nodup by decide +kernel) rfl (by grind))) oq (λ_ _ _ _=>(aM my hr (ag (aq 0) (ag (bQ (ag (aq 3) (ag (aq 4) aa))) (ag (aq 1) (ag (aq 2) (ag (Km (K:=K) rfl (aq 5) rfl) aa))))))))
      (aj (cj (aM gn hr (ag (aq 4) (ag (aq 9) (ag (aq 10) (ag (bP (aq 0) rfl) aa))))))
      (aj (cj (aM jW hr (ag (aq 5) (ag (aq 9) (ag (aq 10) aa)))))
      (aj (aT (aC (aV hu) (ak hu (aq 9) ai) aD (aH _)) (ao (cj (dD oj qA qB ck (aq 6) (ag (bQ (ag (ak hu (aq 9) ai) (ag (ak hu (aq 10) ai) aa))) aa)))) (ao (aT (aC (aV hu) (ak hu (aq 9) ai) aD (aH _)) (ao (cj (dD oj qA qB ck (aq 7) (ag (ak hu (aq 10) ai) aa)))) aJ)))
      (ao (Od (i:=8) sc.nd rfl (by grind) (aU cR ai (aM mx hr (ag (aq 9) (ag (aq 10) aa)))) Oe))))))))
      (ao (aI (bQ (ag (bQ (ag (dZ cH rfl T.cB sR (ag (aq 4) aa)) (ag (dZ cH rfl T.cB sR (ag (aq 5) aa)) aa))) (ag (aq 6) (ag (aq 7) aa)))))))))))),?_⟩
    nofun;obtain⟨dx,stm,dd,Jo,hm2,hm3⟩:=hm;obtain⟨ad,xs,rfl,U4,tj⟩:=UO hm3;obtain⟨sa,sb,U5,rfl,U6,hsb,U7⟩:=om;ac_rfl;left;calc cF _ _ (.inr (bM.of U6)) rfl ?_;left;calc bE _ hsb (λu Qf=>?_);have s1:=av.new (.lst (ns.map V.int)) Qf;left;calc cF _ _ (.inr (bM.of (s1 _ _ U6))) rfl ?_;left;have Qg:aR K (upd H u (.lst (ns.map V.int))) U5 (row.map V.int)\/bM K (upd H u (.lst (ns.map V.int))) U5 (row.map V.int):=U7.elim (λz=>.inl (s1.seq z)) (λz=>.inr (s1.Rc z));calc bE _ Qg (λG Dm=>?_);have s2:=av.new (.lst (row.map V.int)) Dm;left;calc⟨aav _,λt ph=>?_⟩;have I:=av.new (.lst []) ph;left;calc⟨aav _,λB mj=>?_⟩;have s4:=av.new (.lst []) mj;left;have nra:G≠u:=λz=>by subst z;rw[af]at Dm;cases Dm
    have hrH:H G=none:=s1.free Dm;have hsH:H t=none:=(s1.trans s2).free ph;have hwH:H B=none:=(s1.trans (s2.trans I)).free mj;have nsa:t≠u:=λz=>by subst z;rw[s2 _ _ af]at ph;cases ph
    have nsr:t≠G:=λz=>by subst z;rw[af]at ph;cases ph
    have nwa:B≠u:=λz=>by subst z;rw[I _ _ (s2 _ _ af)]at mj;cases mj
    have nwr:B≠G:=λz=>by subst z;rw[I _ _ af]at mj;cases mj
    have nws:B≠t:=λz=>by subst z;rw[af]at mj;cases mj
    have Hm:=s1.trans (s2.trans (I.trans s4));have W:0<M:=by lia
    refine Hk (Qd H m (.ref sa) k g M l ns row) (muW l.length) ?_ ?_ ?_
    · refine⟨u,G,t,B,[],none,none,0,⟨ns,row,[],[]⟩,l.length,rfl,Hm,Qf,hrH,hsH,hwH,Ne.symm nra,Ne.symm nsa,Ne.symm nwa,Ne.symm nsr,Ne.symm nwr,Ne.symm nws,s4 _ _ (I _ _ (s2 _ _ af)),s4 _ _ (I _ _ af),s4 _ _ af,⟨rfl,λi z p e=>by simp at e⟩,af,rfl,hb,nN,L' _,L' _,rfl,L' _⟩
    · intro σ H1 jF;nofun;obtain⟨u,G,t,B,zs,z9,Qe,c,s,f,rfl,sH,a1,a2,a3,a4,X,n2,n3,n4,n5,Y,e1,e2,e3,La,e5,qQ,qm,mB,Lb,hwn,L,Z⟩:=jF;ac_rfl;have Lc:=sH _ _ Jo;have U8:=sH _ _ U4;have aaK:=tj.aK sH.aS;left;calc fR Lc T.cN T.My UN ?_;left;calc bE _ (.inr ⟨_,bM.of U8,rfl⟩) ?_;by_cases ng:c < l.length
      · have U9:c < xs.length:=by rw[tj.1];exact ng
        left;rw[if_pos (by simpa using U9)];calc⟨λσ' H'=>Qd H m (.ref sa) k g M l ns row σ' H'/\muW l.length σ'<l.length-c,λσ' H' h=>h,?_⟩;have qR:=aW l[c] (aai ng);have hx:=aaK.2 c xs[c] l[c] (cE U9) (cE ng);have Ry:l.drop c=l[c]::l.drop (c+1):=List.drop_eq_getElem_cons ng;nofun;generalize hdd:l[c]=d at qR hx Ry;generalize hxx:xs[c]=x at hx;have exx:xs[c]?=some x:=by rw[cE U9,hxx]
        obtain⟨f',rfl⟩:∃f',f=f'+1:=⟨f-1,by rw[Ry]at Z;simp at Z;lia⟩
        rw[Ry]at L Z
        replace L:xl M k g f' ((l.drop (c+1)).drop (lS M k g d s).toNat) (fQ M k g d s)=nJ M k g l ns row:=L
        ac_rfl;rw[List.drop_drop]at L;left;calc fR Lc T.cN T.My UN ?_;left;calc cF _ x (.inr (bM.of U8)) (aA exx) ?_;left;calc bT ?_;left;calc⟨x,3,d,rfl,hx,λl zv k0 H2 s2 Va hl MI=>?_⟩;calc .inl ⟨⟨_,aR.of hl⟩,λD hD=>?_⟩;have Js:=MI.len;have Co:=x9 (d:=d);refine bx (J:=u7 K l) (n:=zv.length) (λi ys H'=>ys=((d.vals.take i).map (fN M k g s.ns s.row)).map V.int/\av H2 H') (P' (aG (by lia))) ⟨rfl,av.new _ hD⟩ ?_ ?_ ?_ ?_
        · rintro i ys H' hi ⟨_,I⟩;exact⟨_,zv[i],aR.of (I _ _ hl),cE hi⟩
        · rintro ys H' ⟨_,I⟩;exact⟨_,aR.of (I _ _ hl),L' _⟩
        · intro i ys H3 hi bG xU jG y H4 oZ;nofun;obtain⟨rfl,I⟩:=jG;obtain⟨rfl,l⟩:=oZ;have ey:=l _ (aR.of (I _ _ hl));obtain⟨v,ev,hv⟩:=MI.get ey;ac_rfl;have iX:=nQ qR v (Y' ev);walk_at "xg";left;rw[if_pos trivial];refine⟨dq,λp hp=>?_⟩;have s4:=av.new (.tup [.ref u,.ref G]) hp;have l:=s2.trans (I.trans s4);refine fR (l _ _ Lc) T.cN T.Mx UM ?_;refine⟨y,.ref p,k,g,M,v,s.ns,s.row,k0,rfl,(hv.aK (I.trans s4).aS),⟨p,u,G,rfl,af,.inl (aR.of (l _ _ e1)),.inl (aR.of (l _ _ e2))⟩,by rw[qQ];exact iX,W,?_⟩;refine cn (s4 _ _ bG) xU hi (P' (aG (by lia))) ⟨?_,λb o e=>?_⟩
          · rw[List.take_add_one,ev];simp[fN]
          · rw[ay (au e hD)];exact s4 _ _ (I _ _ e)
        rintro ys H3 bG xU ⟨rfl,I⟩;rw[Js,List.take_length]at bG;have pq:=s2.trans I;have Dn:H1 D=none:=s2.free hD;generalize l:d.vals.map (fN M k g s.ns s.row)=ws at bG;have U:ws.length=d.vals.length:=by rw[<-l];simp
        have uJ:0<=ws.getD 0 0/\ws.getD 0 0<M:=by rw[<-l];exact uG W
        have y:fQ M k g d s=⟨cS M s.ns (ws.getD 0 0) d,fO s.row (ws.getD 0 0) d,s.cb++bA (ws.getD 0 0) d,s.words++aX (ws.getD 0 0) d⟩:=by rw[<-l];rfl
        have I:lS M k g d s=fP (ws.getD 0 0) (ws.getD 1 0) d:=by rw[<-l];rfl
        rw[y,I]at L;have Jt:∀{b:Addr} {o:HO},H1 b=some o->b≠D:=λe=>au e Dn;left;calc fR (pq _ _ Lc) T.cN T.Mx UM ?_;calc⟨u,x,D,s.ns,ws,M,3,d,rfl,pq _ _ e1,hx.aK pq.aS,bG,U,by rw[qQ];calc qR,W,o8,qm,λH4 e14 k4=>?_⟩;have t4:bS H3 H4:=λb ys e=>k4 b _ (λz=>by subst z;rw[pq _ _ e1]at e;cases e) e;left;calc⟨G,x,D,s.row,ws,3,d,rfl,k4 _ _ (Ne.symm X) (pq _ _ e2),hx.aK (pq.aS.trans t4),k4 _ _ (Ne.symm (Jt e1)) bG,U,mB,λS MM k5=>?_⟩;have t5:bS H4 S:=λb ys e=>k5 b _ (λz=>by subst z;rw[k4 _ _ (Ne.symm X) (pq _ _ e2)]at e;cases e) e;have g:bS H1 S:=pq.aS.trans (t4.trans t5);have kk:∀b o,b≠u->b≠G->H1 b=some o->S b=some o:=λb o k l e=>k5 b o l (k4 b o k (pq _ _ e));have MN:=k5 _ _ X e14;have Hr:=kk _ _ (Ne.symm n2) (Ne.symm n4) e3;have Ju:=kk _ _ (Ne.symm n3) (Ne.symm n5) e5;have xJ:S D=some (.lst (ws.map V.int)):=k5 _ _ (Ne.symm (Jt e2)) (k4 _ _ (Ne.symm (Jt e1)) bG);have ya:=La.aK g;have Ee:av H S:=λb o e=>kk b o (au e a1) (au e a2) (sH _ _ e);have N:=hx.aK g;have O:=Hl (w:=ws.getD 0 0) (w':=ws.getD 1 0) qR
        cases d with
        |set i v=>
          nofun;obtain⟨a,u1,u2,u3,k0,rfl,ha,R,g2,g3⟩:=bX N;obtain rfl:=R.bO;obtain rfl:=g2.bN;ac_rfl;walk_at "jg";refine⟨.ref a,D,ws,_,_,rfl,N,xJ,U,?_⟩;left;refine cF _ _ rfl rfl ?_;refine⟨⟨u,G,t,B,_,some (.ref a),some (.ref D),c+1+(fP (ws.getD 0 0) (ws.getD 1 0) (.set i v)).toNat,⟨cS M s.ns (ws.getD 0 0) (.set i v),fO s.row (ws.getD 0 0) (.set i v),s.cb++bA (ws.getD 0 0) (.set i v),s.words++aX (ws.getD 0 0) (.set i v)⟩,f',?_,Ee,a1,a2,a3,a4,X,n2,n3,n4,n5,Y,MN,MM,Hr,(by simpa[bA] using ya),(by simpa[aX] using Ju),by rw[bW];exact qQ,dj (d:=(.set i v)) W qm uJ,kG (w:=ws.getD 0 0) (d:=(.set i v)) mB,(by simp[bA];lia),(by simp[aX];lia),L,?_⟩,?_⟩
          · first|rfl|rw[MJ O]
          · exact MK Z
          · calc ML (by assumption) O
        |add i v=>
          nofun;obtain⟨a,u1,u2,u3,k0,rfl,ha,R,g2,g3⟩:=bX N;obtain rfl:=R.bO;obtain rfl:=g2.bN;ac_rfl;walk_at "jg";refine⟨.ref a,D,ws,_,_,rfl,N,xJ,U,?_⟩;left;refine cF _ _ rfl rfl ?_;refine⟨⟨u,G,t,B,_,some (.ref a),some (.ref D),c+1+(fP (ws.getD 0 0) (ws.getD 1 0) (.add i v)).toNat,⟨cS M s.ns (ws.getD 0 0) (.add i v),fO s.row (ws.getD 0 0) (.add i v),s.cb++bA (ws.getD 0 0) (.add i v),s.words++aX (ws.getD 0 0) (.add i v)⟩,f',?_,Ee,a1,a2,a3,a4,X,n2,n3,n4,n5,Y,MN,MM,Hr,(by simpa[bA] using ya),(by simpa[aX] using Ju),by rw[bW];exact qQ,dj (d:=(.add i v)) W qm uJ,kG (w:=ws.getD 0 0) (d:=(.add i v)) mB,(by simp[bA];lia),(by simp[aX];lia),L,?_⟩,?_⟩
          · first|rfl|rw[MJ O]
          · exact MK Z
          · calc ML (by assumption) O
        |times i v=>
          nofun;obtain⟨a,u1,u2,u3,k0,rfl,ha,R,g2,g3⟩:=bX N;obtain rfl:=R.bO;obtain rfl:=g2.bN;ac_rfl;walk_at "jg";refine⟨.ref a,D,ws,_,_,rfl,N,xJ,U,?_⟩;left;refine cF _ _ rfl rfl ?_;refine⟨⟨u,G,t,B,_,some (.ref a),some (.ref D),c+1+(fP (ws.getD 0 0) (ws.getD 1 0) (.times i v)).toNat,⟨cS M s.ns (ws.getD 0 0) (.times i v),fO s.row (ws.getD 0 0) (.times i v),s.cb++bA (ws.getD 0 0) (.times i v),s.words++aX (ws.getD 0 0) (.times i v)⟩,f',?_,Ee,a1,a2,a3,a4,X,n2,n3,n4,n5,Y,MN,MM,Hr,(by simpa[bA] using ya),(by simpa[aX] using Ju),by rw[bW];exact qQ,dj (d:=(.times i v)) W qm uJ,kG (w:=ws.getD 0 0) (d:=(.times i v)) mB,(by simp[bA];lia),(by simp[aX];lia),L,?_⟩,?_⟩
          · first|rfl|rw[MJ O]
          · exact MK Z
          · calc ML (by assumption) O
        |put v=>
          nofun;obtain⟨a,u1,u2,k0,rfl,ha,R,g2⟩:=cy N;obtain rfl:=R.bO;ac_rfl;walk_at "jg";refine⟨.ref a,D,ws,_,_,rfl,N,xJ,U,?_⟩;left;refine cF _ _ rfl rfl ?_;refine⟨⟨u,G,t,B,_,some (.ref a),some (.ref D),c+1+(fP (ws.getD 0 0) (ws.getD 1 0) (.put v)).toNat,⟨cS M s.ns (ws.getD 0 0) (.put v),fO s.row (ws.getD 0 0) (.put v),s.cb++bA (ws.getD 0 0) (.put v),s.words++aX (ws.getD 0 0) (.put v)⟩,f',?_,Ee,a1,a2,a3,a4,X,n2,n3,n4,n5,Y,MN,MM,Hr,(by simpa[bA] using ya),(by simpa[aX] using Ju),by rw[bW];exact qQ,dj (d:=(.put v)) W qm uJ,kG (w:=ws.getD 0 0) (d:=(.put v)) mB,(by simp[bA];lia),(by simp[aX];lia),L,?_⟩,?_⟩
          · first|rfl|rw[MJ O]
          · exact MK Z
          · calc ML (by assumption) O
        |drop=>
          nofun;obtain⟨a,u1,k0,rfl,ha,R⟩:=gf N;obtain rfl:=R.bO;ac_rfl;walk_at "jg";refine⟨.ref a,D,ws,_,_,rfl,N,xJ,U,?_⟩;left;refine cF _ _ rfl rfl ?_;refine⟨⟨u,G,t,B,_,some (.ref a),some (.ref D),c+1+(fP (ws.getD 0 0) (ws.getD 1 0) .drop).toNat,⟨cS M s.ns (ws.getD 0 0) .drop,fO s.row (ws.getD 0 0) .drop,s.cb++bA (ws.getD 0 0) .drop,s.words++aX (ws.getD 0 0) .drop⟩,f',?_,Ee,a1,a2,a3,a4,X,n2,n3,n4,n5,Y,MN,MM,Hr,(by simpa[bA] using ya),(by simpa[aX] using Ju),by rw[bW];exact qQ,dj (d:=.drop) W qm uJ,kG (w:=ws.getD 0 0) (d:=.drop) mB,(by simp[bA];lia),(by simp[aX];lia),L,?_⟩,?_⟩
          · first|rfl|rw[MJ O]
          · exact MK Z
          · calc ML (by assumption) O
        |send j v=>
          nofun;obtain⟨a,u1,u2,u3,k0,rfl,ha,R,g2,g3⟩:=bX N;obtain rfl:=R.bO;obtain rfl:=g2.bN;obtain⟨r,rfl⟩:=qo U;ac_rfl;walk_at "jg";refine⟨.inl ⟨rfl,_,aR.of Hr⟩,?_⟩;walk_at "jg";refine⟨dq,λtp Be=>?_⟩;have s6:=av.new (.tup [.int j,.int r]) Be;refine hX _ (s6 _ _ Hr) (aaS (by have:=La.1;lia) (aG (n:=100) (by lia))) ?_;have htn:tp≠t:=λz=>by subst z;rw[Hr]at Be;cases Be
          have t6:bS (upd S tp (.tup [.int j,.int r])) (upd (upd S tp (.tup [.int j,.int r])) t (.lst (zs++[.ref tp]))):=(bS.refl _).upd λys e=>by rw[s6 _ _ Hr]at e;cases e
          have q6:∀b o,b≠t->S b=some o->upd (upd S tp (.tup [.int j,.int r])) t (.lst (zs++[.ref tp])) b=some o:=λb o ne e=>by rw[ay ne];exact s6 _ _ e
          walk_at "jg";refine⟨.ref a,D,[r],_,_,rfl,(N.aK (s6.aS.trans t6)),(q6 _ _ (Ne.symm (Jt e3)) xJ),U,?_⟩;left;refine cF _ _ rfl rfl ?_;refine⟨⟨u,G,t,B,_,some (.ref a),some (.ref D),c+1+(fP (([r]:List Int).getD 0 0) (([r]:List Int).getD 1 0) (.send j v)).toNat,⟨cS M s.ns (([r]:List Int).getD 0 0) (.send j v),fO s.row (([r]:List Int).getD 0 0) (.send j v),s.cb++bA (([r]:List Int).getD 0 0) (.send j v),s.words++aX (([r]:List Int).getD 0 0) (.send j v)⟩,f',?_,(λb o e=>q6 b o (au e a3) (Ee _ _ e)),a1,a2,a3,a4,X,n2,n3,n4,n5,Y,(q6 _ _ n2 MN),(q6 _ _ n4 MM),af,((ya.aK (s6.aS.trans t6)).snoc (c9 (n:=0) (by rw[ay htn];exact af) (.int _) (.int _))),(by simpa[aX] using q6 _ _ (Ne.symm Y) Ju),by rw[bW];exact qQ,dj (d:=(.send j v)) W qm uJ,kG (w:=([r]:List Int).getD 0 0) (d:=(.send j v)) mB,(by simp[bA];lia),(by simp[aX];lia),L,?_⟩,?_⟩
          · first|rfl|rw[MJ O]
          · exact MK Z
          · calc ML (by assumption) O
        |say v=>
          nofun;obtain⟨a,u1,u2,k0,rfl,ha,R,g2⟩:=cy N;obtain rfl:=R.bO;obtain⟨r,rfl⟩:=qo U;ac_rfl;walk_at "jg";refine⟨.inl ⟨rfl,_,aR.of Ju⟩,?_⟩;walk_at "jg";refine hX _ Ju (aaS (by simp;lia) (aG (n:=100) (by lia))) ?_;have t6:bS S (upd S B (.lst (s.words.map V.int++[.int r]))):=(bS.refl _).upd λys e=>by rw[Ju]at e;cases e
          have q6:∀b o,b≠B->S b=some o->upd S B (.lst (s.words.map V.int++[.int r])) b=some o:=λb o ne e=>by rw[ay ne];exact e
          walk_at "jg";refine⟨.ref a,D,[r],_,_,rfl,(N.aK t6),(q6 _ _ (Ne.symm (Jt e5)) xJ),U,?_⟩;left;refine cF _ _ rfl rfl ?_;refine⟨⟨u,G,t,B,_,some (.ref a),some (.ref D),c+1+(fP (([r]:List Int).getD 0 0) (([r]:List Int).getD 1 0) (.say v)).toNat,⟨cS M s.ns (([r]:List Int).getD 0 0) (.say v),fO s.row (([r]:List Int).getD 0 0) (.say v),s.cb++bA (([r]:List Int).getD 0 0) (.say v),s.words++aX (([r]:List Int).getD 0 0) (.say v)⟩,f',?_,(λb o e=>q6 b o (au e a4) (Ee _ _ e)),a1,a2,a3,a4,X,n2,n3,n4,n5,Y,(q6 _ _ n3 MN),(q6 _ _ n5 MM),(q6 _ _ Y Hr),(by simpa[bA] using ya.aK t6),(by rw[af];simp[aX]),by rw[bW];exact qQ,dj (d:=(.say v)) W qm uJ,kG (w:=([r]:List Int).getD 0 0) (d:=(.say v)) mB,(by simp[bA];lia),(by simp[aX];lia),L,?_⟩,?_⟩
          · first|rfl|rw[MJ O]
          · exact MK Z
          · calc ML (by assumption) O
        |skip v w2 kk=>
          nofun;obtain⟨a,u1,u2,u3,u4,k0,rfl,ha,R,g2,g3,g4⟩:=jQ N;obtain rfl:=R.bO;obtain rfl:=g4.bN;ac_rfl;walk_at "jg";refine⟨.ref a,D,ws,_,_,rfl,N,xJ,U,?_⟩;left;refine cF _ _ rfl rfl ?_;refine⟨⟨u,G,t,B,_,some (.ref a),some (.ref D),c+1+(fP (ws.getD 0 0) (ws.getD 1 0) (.skip v w2 kk)).toNat,⟨cS M s.ns (ws.getD 0 0) (.skip v w2 kk),fO s.row (ws.getD 0 0) (.skip v w2 kk),s.cb++bA (ws.getD 0 0) (.skip v w2 kk),s.words++aX (ws.getD 0 0) (.skip v w2 kk)⟩,f',?_,Ee,a1,a2,a3,a4,X,n2,n3,n4,n5,Y,MN,MM,Hr,(by simpa[bA] using ya),(by simpa[aX] using Ju),by rw[bW];exact qQ,dj (d:=(.skip v w2 kk)) W qm uJ,kG (w:=ws.getD 0 0) (d:=(.skip v w2 kk)) mB,(by simp[bA];lia),(by simp[aX];lia),L,?_⟩,?_⟩
          · first|rfl|rw[MJ O]
          · exact MK Z
          · exact ML (by assumption) O
      · have U9:¬c < xs.length:=by rw[tj.1];exact ng
        left;rw[if_neg (by simpa using U9)];rw[List.drop_eq_nil_of_le (by lia),Bo]at L;left;calc .inl ⟨_,aR.of e1,λc g=>?_⟩;have i:=av.new (.tup (s.ns.map V.int)) g;left;calc .inl ⟨_,aR.of (i _ _ e2),λk l=>?_⟩;have j:=av.new (.tup (s.row.map V.int)) l;left;calc⟨dq,λr u=>?_⟩;have g:=av.new (.tup [.ref c,.ref k]) u;left;calc⟨by show 3<=sizeLine;decide,λt4 l=>?_⟩;have k:=av.new (.tup [.ref r,.ref t,.ref B]) l;have c:=i.trans (j.trans (g.trans k));refine q _ _ (sH.trans c) ⟨_,_,t,B,zs,rfl,af,?_,c _ _ e3,?_,?_,a3,a4,Y⟩
        · rw[<-L];exact(c9 af (nI (g _ _ (j _ _ af))) (nI (g _ _ af))).aK k.aS
        · rw[<-L];exact La.aK c.aS
        · rw[<-L];exact c _ _ e5
    · intro σ H1 Q I hq c;nofun;obtain⟨x,g,i,j,a,k,l,q,v,r,t,u,y,B,n,G,h8⟩:=c;ac_rfl;refine⟨x,g,i,j,a,k,l,q,v,r,t,u,y,B,n,G,?_⟩
      cases x<;>first
        |calc(show False from h8).elim
        | (obtain⟨c,g,i⟩:=h8
           calc⟨c,g,hq _ _ i⟩)
abbrev kI:Stmt:=top 54
inductive Ht(vs:List V)(H:Hp)(Q:VK):Prop
 |mk (x:V) (st an ar:Addr) (way said M:Int) (v:Val) (ns row:List Int) (n:Nat) (h0:vs=[x,.ref st,.int way,.int said,.int M]) (h1:HT H n x (Val.dv v)) (h2:H st=some (.tup [.ref an,.ref ar])) (h3:H an=some (.lst (ns.map V.int))) (h4:H ar=some (.lst (row.map V.int))) (h5:v.ok ns.length) (h6:0<M) (h7:row.length<=12) (h8:∀H',av H H'->Q (.int (fN M way said ns row v)) H'):Ht vs H Q
def BN:Sp:=λvs H Q _=>Ht vs H Q
theorem yb(D:cZ K mg "_law_worth" "_law_worth" kI ["_law_value_here","_law_state","_law_way","_law_said","_law_modulus"])(T:Tx K mg C CN CR F FD):Def P w K mg base "_law_worth" 1 ["_law_value_here","_law_state","_law_way","_law_said","_law_modulus"] BN:=by
 have sc:aE ["_law_value_here","_law_state","_law_way","_law_said","_law_modulus","_law_worth_here"] ["_law_value_here","_law_state","_law_way","_law_said","_law_modulus"] (az kI):=by walk_at "s"
 symm
 ·obtain⟨x,st,c,Z,way,d,M,v,ns,a,n,rfl,k,S,Qf,L,U,m,nN,q⟩:=h;rfl
 ·nofun;obtain⟨x,st,c,Z,way,d,M,v,ns,a,n,rfl,k,S,Qf,L,U,m,nN,q⟩:=h;ac_rfl;have c:=hr.units;refine⟨_,(aj (ba (i:=5) sc.nd rfl (by grind) (aq 2))
   (aj (aT (aC (aV c) (ak c (aq 0) ai) aD (aH _)) (ao (ba (i:=5) sc.nd rfl (by grind) (ak c (aq 0) ai))) aJ)
   (aj (aT (aC (aV c) (ak c (aq 0) ai) aD (aH _)) (ao (ba (i:=5) sc.nd rfl (by grind) (ak c (ak c (aq 1) ai) (ak c (aq 0) ai)))) aJ)
   (aj (aT (aC (aV c) (ak c (aq 0) ai) aD (aH _)) (ao (ba (i:=5) sc.nd rfl (by grind) (aq 3))) aJ)
   (aj (aT (aC (aV c) (ak c (aq 0) ai) aD (aH _)) (ao (ba (i:=5) sc.nd rfl (by grind) (ak c (aU cR (dE (N':=["_law_k","_law_state"]) (ix:=[none,some 1]) (de rfl T.eW (ag (bg aP rfl T.b4 U' (ag (ak c (aq 1) ai) aa)) aa)) (λ_ _ _ _=>(bb (i:=0) (show(["_law_k","_law_state"]:List Str).Nodup by decide +kernel) rfl (by grind))) oq (λ_ _ _ _=>(eU (K:=K) rfl c (eU (K:=K) rfl c (aq 1) ai) (aq 0)))) (bR (ag ai aa))) ai))) aJ)
   (ao (aI (aU cK (aq 5) (aq 4))))))))),?_⟩
  left
  cases v with
  |is z=>
   nofun;obtain⟨t,u,w2,y,rfl,B,g,N⟩:=cy k;obtain rfl:=g.bO;obtain rfl:=N.bN;ac_rfl;walk_at "jg";exact⟨m,q H (av.refl H)⟩
  |number i=>
   nofun;obtain⟨t,u,w2,y,rfl,B,g,N⟩:=cy k;obtain rfl:=g.bO;obtain rfl:=N.bN;obtain⟨Dl,c⟩:=U;obtain⟨j,rfl⟩:=aaq Dl;ac_rfl;have W:j<ns.length:=by lia
   have c:hJ (ns.map V.int) (j:Int)=some (.int ns[j]):=aA (by rw[List.getElem?_map,cE W];rfl);walk_at "jg";have c:=q H (av.refl H);have O:fN M way d ns a (.number j)=ns[j]%M:=by
    show ns.getD (j:Int).toNat 0%M=_;simp[List.getD_eq_getElem?_getD,cE W]
   rw[O]at c;calc⟨m,c⟩
  |first=>
   nofun;obtain⟨t,u,y,rfl,B,g⟩:=gf k;obtain rfl:=g.bO;ac_rfl;walk_at "jg"
   skip
   walk_at "jg";refine bE _ (.inl ⟨_,aR.of L,rfl⟩) ?_;left;have c:(a.map V.int).length=a.length:=by simp
   rw[c];calc gN (by lia) (by lia) (λD X=>?_);refine bx (J:=AF 0 a.length) (n:=a.length) (λi ys H'=>ys=(a.take i).map V.int/\av H H') (P' (aG (by lia))) ⟨rfl,av.new _ X⟩ (λi ys H' l _=>l) (λys H' _=>L' _) ?_ ?_
   ·intro i ys H' l G I jF x H2 jG;nofun;obtain⟨rfl,p⟩:=jF;obtain⟨rfl,rfl⟩:=jG;ac_rfl;walk_at "xg";have c:=p _ _ S;have R:=p _ _ L;walk_at "jg"
    try rw[if_pos trivial]
    calc bC R (show hJ (a.map V.int) (0+(i:Int))=some (.int a[i]) from by rw[Int.zero_add];calc aA (by rw[List.getElem?_map,cE l];rfl)) ?_;calc cn G I l (P' (aG (by lia))) ⟨?_,λb o e=>by rw[ay (au e X)];calc p _ _ e⟩;rw[List.take_succ,cE l,List.map_append];rfl
   rintro ys H1 G I ⟨rfl,p⟩;rw[List.take_length]at G;walk_at "jg";refine⟨by decide,λl I=>?_⟩;have Y:=av.new (.lst [.int 0]) I;walk_at "jg";refine .inl ⟨_,_,Y _ _ G,af,P' (aG (by simp;lia)),λi c=>?_⟩;have s3:=av.new (.lst (a.map V.int++[.int 0])) c;have O:hJ (a.map V.int++[.int 0]) 0=some (.int (rO ns a way d .first)):=by
    cases a with
    |nil=>calc aA (j:=0) rfl
    |cons r a=>exact aA (j:=0) rfl
   left;refine bC af O ?_;walk_at "jg";exact⟨m,q _ (p.trans (Y.trans s3))⟩
  |lY=>
   nofun;obtain⟨t,u,y,rfl,B,g⟩:=gf k;obtain rfl:=g.bO;ac_rfl;walk_at "jg";exact⟨m,q _ (av.refl H)⟩
  |way=>
   nofun;obtain⟨t,u,y,rfl,B,g⟩:=gf k;obtain rfl:=g.bO;ac_rfl;walk_at "jg";exact⟨m,q _ (av.refl H)⟩
abbrev Hu:Stmt:=(cf (top 45)).getD 0 (.Pass ⟨0,0,0,0⟩)
def Le(a b c:V):List (Str×V):=bf "own_letters" c (bf "own_ways" b (bf "own_machines" a []))
theorem Vc{a b c:V}:(Le a b c).lookup ("own_machines":Str)=some a:=by
 unfold Le;rw[bu,if_neg (by decide +kernel),bu,if_neg (by decide +kernel),bu,if_pos rfl]
theorem Vd{a b c:V}:(Le a b c).lookup ("own_ways":Str)=some b:=by
 unfold Le;rw[bu,if_neg (by decide +kernel),bu,if_pos rfl]
theorem aaM{a b c:V}:(Le a b c).lookup ("own_letters":Str)=some c:=by
 unfold Le;rw[bu,if_pos rfl]
theorem eI{a b c:V}(d:f≠"own_machines")(e:f≠"own_ways")(g:f≠"own_letters"):(Le a b c).lookup f=none:=by
 unfold Le;rw[bu,if_neg g,bu,if_neg e,bu,if_neg d];rfl
def pw(CN:Addr)(H:Hp)(x:Addr)(d:List Addr)(e f:List V):Prop:=∃g a b c,H x=some (.ins CN g (Le (.ref a) (.ref b) (.ref c)))/\H a=some (.tup (d.map V.ref))/\H b=some (.tup e)/\H c=some (.tup f)
theorem pw.same{CN:Addr}{x:Addr}{d:List Addr}{e f:List V}(s:av H H')(h:pw CN H x d e f):pw CN H' x d e f:=by
 obtain⟨d,a,b,c,e,f,g,i⟩:=h;calc⟨d,a,b,c,s _ _ e,s _ _ f,s _ _ g,s _ _ i⟩
def yc(C CN:Addr):Sp:=λvs H Q _=>∃(x e f g h:Addr) (a:List Addr) (c d:List V) (ws:List (Int×Int×Str)) (ls:List (Int×Int)),vs=[.ref x,.ref f,.ref g,.ref h]/\H x=some (.ins CN e [])/\H f=some (.lst (a.map V.ref))/\H g=some (.lst c)/\H h=some (.lst d)/\1<=a.length/\a.length<=5/\c.length<=10/\d.length<=20/\(∀m∈a,∃e i,H m=some (.ins C e i))/\gY H 1 c (ws.map lL)/\gY H 1 d (ls.map ql)/\(∀w∈ws,uC a.length w)/\(∀l∈ls,uD c.length l)/\∀H',pw CN H' x a c d->(∀b o,b≠x->H b=some o->H' b=some o)->Q .bD H'
theorem Ve(D:CI K mg "Net" CN "Net.__init__" Hu ["self","machines","ways","letters"])(T:Tx K mg C CN CR F FD)(jX:Def P w K mg base "refuse_net" 4 ["machines","ways","letters"] (BE C)):xc P w K mg base "Net" CN 7 ["self","machines","ways","letters"] (yc C CN):=by
 have sc:aE ["self","machines","ways","letters"] ["self","machines","ways","letters"] (az Hu):=by walk_at "s"
 symm
 ·obtain⟨x,a,y,B,G,W,X,Y,ws,ls,rfl,g,j,k,l,Z,Jp,vN,xP,UP,oy,ME,KY,uk,q⟩:=h;rfl
 ·nofun;obtain⟨x,a,y,B,G,W,X,Y,ws,ls,rfl,g,j,k,l,Z,Jp,vN,xP,UP,oy,ME,KY,uk,q⟩:=h;ac_rfl;have hu:=hr.units;refine⟨_,(aj (cj (aM jX hr (ag (aq 1) (ag (aq 2) (ag (aq 3) aa)))))
   (aj (fJ (aq 0) (dZ cH rfl T.cB sR (ag (aq 1) aa)) (fL rfl))
   (aj (fJ (aq 0) (dZ cH rfl T.cB sR (ag (aq 2) aa)) (fL rfl))
   (ao (fJ (aq 0) (dZ cH rfl T.cB sR (ag (aq 3) aa)) (fL rfl)))))),?_⟩
  try walk_at "rt"
  calc⟨y,B,G,W,X,Y,ws,ls,rfl,j,k,l,Z,Jp,vN,xP,UP,oy,ME,KY,uk,λH1 I=>?_⟩;have W:=I _ _ g;have W:y≠x:=λz=>by subst z;rw[g]at j;cases j
  have Vf:B≠x:=λz=>by subst z;rw[g]at k;cases k
  have Qh:G≠x:=λz=>by subst z;rw[g]at l;cases l
  try walk_at "rt"
  refine jI (.inl (I _ _ j)) λc H2 s2 J=>?_
  try walk_at "rt"
  have m:=I.trans s2;have Dg:=m _ _ g;calc⟨x,CN,a,[],rfl,Dg,T.cT,T.xD,by decide,?_⟩;have L:c≠x:=λz=>by subst z;rw[Dg]at J;cases J
  have p:∀b o,b≠x->H2 b=some o->upd H2 x (.ins CN a (bf "own_machines" (.ref c) [])) b=some o:=λb o d e=>by rw[ay d];exact e
  have zV:upd H2 x (.ins CN a (bf "own_machines" (.ref c) [])) x=some (.ins CN a (bf "own_machines" (.ref c) [])):=af;generalize Rz:upd H2 x (.ins CN a (bf "own_machines" (.ref c) []))=G3 at *;have M:=p _ _ L J;have Dh:=p _ _ Vf (m _ _ k);have N:=p _ _ Qh (m _ _ l)
  try walk_at "rt"
  refine jI (.inl Dh) λi r t O=>?_
  try walk_at "rt"
  have Qi:=t _ _ zV;calc qk x CN a _ rfl Qi T.cT T.xE (bU (n:=999) (by decide)) ?_;have n2:i≠x:=λz=>by subst z;rw[Qi]at O;cases O
  have u:∀b o,b≠x->r b=some o->upd r x (.ins CN a (bf "own_ways" (.ref i) (bf "own_machines" (.ref c) []))) b=some o:=λb o d e=>by rw[ay d];exact e
  have r6:upd r x (.ins CN a (bf "own_ways" (.ref i) (bf "own_machines" (.ref c) []))) x=some (.ins CN a (bf "own_ways" (.ref i) (bf "own_machines" (.ref c) []))):=af;generalize Vg:upd r x (.ins CN a (bf "own_ways" (.ref i) (bf "own_machines" (.ref c) [])))=G5 at *;have R:=u _ _ L (t _ _ M);have S:=u _ _ n2 O;have Di:=u _ _ Qh (t _ _ N)
  try walk_at "rt"
  refine jI (.inl Di) λt3 g v U=>?_
  try walk_at "rt"
  have Hv:=v _ _ r6;calc qk x CN a _ rfl Hv T.cT T.zI (bU (n:=999) (bU (n:=998) (by decide))) ?_;have n3:t3≠x:=λz=>by subst z;rw[Hv]at U;cases U
  refine q _ ⟨a,c,i,t3,af,?_,?_,?_⟩ λb o d e=>?_
  ·rw[ay L];exact v _ _ R
  ·rw[ay n2];exact v _ _ S
  ·rw[ay n3];exact U
  ·rw[ay d];calc v _ _ (u _ _ d (t _ _ (p _ _ d (m _ _ e))))
abbrev ir:Stmt:=(cf (top 45)).getD 1 (.Pass ⟨0,0,0,0⟩)
def jY(CN:Addr):Sp:=λvs H Q _=>∃(x:Addr) (a:List Addr) (b c:List V),vs=[.ref x]/\pw CN H x a b c/\∀l,H l=none->Q (.ref l) (upd H l (.lst (a.map V.ref)))
theorem r8(D:gL K CN "machines" "Net.machines" ir ["self"])(T:Tx K mg C CN CR F FD):d7 P w K mg base CN "machines" 1 ["self"] (jY CN):=by
 have sc:aE ["self"] ["self"] (az ir):=by walk_at "s"
 symm
 ·obtain⟨x,e,g,i,rfl,⟨j,a,b,k,c,d,l,m⟩,q⟩:=h;rfl
 ·nofun;obtain⟨x,e,g,i,rfl,⟨j,a,b,k,c,d,l,m⟩,q⟩:=h;ac_rfl;have e:=hr.units;calc⟨_,(ao (aI (dZ cM rfl T.fe AB (ag (bP (aq 0) rfl) aa)))),?_⟩;calc fld c T.cT T.xD Vc ?_;right;calc⟨_,.inr (bM.of d),λl e=>q l e⟩
abbrev mC:Stmt:=(cf (top 45)).getD 2 (.Pass ⟨0,0,0,0⟩)
def nR(CN:Addr):Sp:=λvs H Q _=>∃(x:Addr) (b:List Addr) (a c:List V),vs=[.ref x]/\pw CN H x b a c/\∀l,H l=none->Q (.ref l) (upd H l (.lst a))
theorem zW(D:gL K CN "ways" "Net.ways" mC ["self"])(T:Tx K mg C CN CR F FD):d7 P w K mg base CN "ways" 1 ["self"] (nR CN):=by
 have sc:aE ["self"] ["self"] (az mC):=by walk_at "s"
 symm
 ·obtain⟨x,e,g,i,rfl,⟨j,a,b,k,c,l,d,m⟩,q⟩:=h;rfl
 ·nofun;obtain⟨x,e,g,i,rfl,⟨j,a,b,k,c,l,d,m⟩,q⟩:=h;ac_rfl;have e:=hr.units;calc⟨_,(ao (aI (dZ cM rfl T.fe AB (ag (bP (aq 0) rfl) aa)))),?_⟩;calc fld c T.cT T.xE Vd ?_;right;calc⟨_,.inr (bM.of d),λl e=>q l e⟩
abbrev i4:Stmt:=(cf (top 45)).getD 3 (.Pass ⟨0,0,0,0⟩)
def p8(CN:Addr):Sp:=λvs H Q _=>∃(x:Addr) (b:List Addr) (c a:List V),vs=[.ref x]/\pw CN H x b c a/\∀l,H l=none->Q (.ref l) (upd H l (.lst a))
theorem tw(D:gL K CN "letters" "Net.letters" i4 ["self"])(T:Tx K mg C CN CR F FD):d7 P w K mg base CN "letters" 1 ["self"] (p8 CN):=by
 have sc:aE ["self"] ["self"] (az i4):=by walk_at "s"
 symm
 ·obtain⟨x,e,g,i,rfl,⟨j,a,b,k,c,l,m,d⟩,q⟩:=h;rfl
 ·nofun;obtain⟨x,e,g,i,rfl,⟨j,a,b,k,c,l,m,d⟩,q⟩:=h;ac_rfl;have e:=hr.units;calc⟨_,(ao (aI (dZ cM rfl T.fe AB (ag (bP (aq 0) rfl) aa)))),?_⟩;calc fld c T.cT T.zI aaM ?_;right;calc⟨_,.inr (bM.of d),λl e=>q l e⟩
def MO(M way said:Int):Nat->List bF->WS->WS
 |_,[],s=>s
 |l+1,_::r,s=>MO M way said l r s
 |0,d::r,s=>MO M way said (lS M way said d s).toNat r (fQ M way said d s)
theorem vP{M way said:Int}:∀(b:List bF) (l:Nat) (s:WS) (f:Nat),b.length<=f->MO M way said l b s=xl M way said f (b.drop l) s
 | [],l,s,f,_=>by rw[List.drop_nil,Bo];cases l<;>rfl
 |d::r,l+1,s,f,h=>by
  show MO M way said l r s=xl M way said f (r.drop l) s;calc vP r l s f (by simp at h;lia)
 |d::r,0,s,f,h=>by
  obtain⟨a,rfl⟩:∃a,f=a+1:=⟨f-1,by simp at h;lia⟩
  show MO M way said (lS M way said d s).toNat r (fQ M way said d s)=xl M way said a (r.drop (lS M way said d s).toNat) (fQ M way said d s);calc vP r _ _ a (by simp at h;lia)
theorem Hw{M way said:Int}{b:List bF}{a:List Int}:MO M way said 0 b ⟨ns,a,[],[]⟩=nJ M way said b ns a:=vP b 0 _ _ (L' _)
inductive Vh(H:Hp)(mt:Addr)(st:V)(way said M:Int)(ds:List bF)(ns row:List Int)(i:Nat)(σ:St)(H':Hp):Prop
 |mk (an ar fC aw:Addr) (zs:List V) (z9 Qe:Option V) (l:Nat) (s:WS) (h0:σ=[some (.ref mt),some st,some (.int way),some (.int said),some (.ref an),some (.ref ar),some (.ref fC),some (.ref aw),some (.int ((l:Nat):Int)),z9,Qe]) (h1:av H H') (a1:H an=none) (a2:H ar=none) (a3:H fC=none) (a4:H aw=none) (n1:an≠ar) (n2:an≠fC) (n3:an≠aw) (n4:ar≠fC) (n5:ar≠aw) (n6:fC≠aw) (e1:H' an=some (.lst (s.ns.map V.int))) (e2:H' ar=some (.lst (s.row.map V.int))) (e3:H' fC=some (.lst zs)) (La:SL H' zs s.cb) (e5:H' aw=some (.lst (s.words.map V.int))) (qQ:s.ns.length=ns.length) (qm:∀z∈s.ns,0<=z/\z<M) (mB:s.row.length<=12) (Lb:s.cb.length<=i) (hwn:s.words.length<=i) (iN:MO M way said l (ds.drop i) s=nJ M way said ds ns row):Vh H mt st way said M ds ns row i σ H'
inductive Hx(K:W.Frag)(vs:List V)(H:Hp)(Q:VK):Prop
 |mk (mt ln lr ld:Addr) (st:V) (way said M:Int) (xs:List V) (ds:List bF) (ns row:List Int) (h0:vs=[.ref mt,st,.int way,.int said]) (Vi:H mt=some (.tup [.int M,.ref ln,.ref lr,.ref ld])) (h1:H ld=some (.lst xs)) (h2:gY H 2 xs (ds.map bF.dv)) (h3:xm K H st ns row) (h5:2<=M) (h6:M<=1000000000000) (h7:∀z∈ns,0<=z/\z<M) (h9:row.length<=12) (K2:ds.length<=24) (PY:∀d∈ds,d.ok ns.length) (h13:∀x H',av H H'->Res H H' x (nJ M way said ds ns row)->Q x H'):Hx K vs H Q
theorem Qj{xs:List V}:eJ xs none (some 12)=xs.take 12:=by
 unfold eJ;have a:HT.eE xs.length 0 none=0:=rfl;rw[a];have b:HT.eE xs.length xs.length (some 12)=min 12 xs.length:=by
  unfold HT.eE;simp
 rw[b,List.drop_zero,Nat.sub_zero];by_cases h:xs.length<=12
 ·rw[Nat.min_eq_right h,List.take_length,List.take_of_length_le h]
 ·rw[Nat.min_eq_left (by lia)]
theorem Vj{xs:List V}:eJ xs (some 1) none=xs.tail:=by
 unfold eJ;have b:HT.eE xs.length xs.length none=xs.length:=rfl;rw[b]
 cases xs with
 |nil=>simp
 |cons a r=>
  have b:HT.eE (a::r).length 0 (some 1)=1:=by
   unfold HT.eE;simp
  rw[b];simp
theorem r9{n k:Nat}(h:k<n):p6 n (k:Int)=some k:=by
 unfold p6;rw[if_pos (by lia),if_pos (by lia)];simp
abbrev jZ:Stmt:=top 55
def BO(K:W.Frag):Sp:=λvs H Q _=>Hx K vs H Q
theorem vQ(D:cZ K mg "_law_worked" "_law_worked" jZ ["_law_machine_here","_law_state","_law_way","_law_said"])(T:Tx K mg C CN CR F FD)(kJ:Def P w K mg base "_law_worth" 1 ["_law_value_here","_law_state","_law_way","_law_said","_law_modulus"] BN):Def P w K mg base "_law_worked" 2 ["_law_machine_here","_law_state","_law_way","_law_said"] (BO K):=by
 have sc:aE ["_law_machine_here","_law_state","_law_way","_law_said","_law_numbers","_law_row","_law_sent","_law_words","_law_left","_law_deed_here","_law_worths"] ["_law_machine_here","_law_state","_law_way","_law_said"] (az jZ):=by walk_at "s"
 symm
 ·obtain⟨mt,u,lr,ld,st,I,m,M,xs,ds,ns,row,rfl,Vi,U4,tj,om,De,o8,hb,nN,MB,aW,q⟩:=h;rfl
 ·nofun;obtain⟨mt,u,lr,ld,st,I,m,M,xs,ds,ns,row,rfl,Vi,U4,tj,om,De,o8,hb,nN,MB,aW,q⟩:=h;ac_rfl;have u:=hr.units;refine⟨_,(aj (ba (i:=4) sc.nd rfl (by grind) (dZ cM rfl T.fe AB (ag (ak u (aq 1) ai) aa)))
   (aj (ba (i:=5) sc.nd rfl (by grind) (dZ cM rfl T.fe AB (ag (ak u (aq 1) ai) aa)))
   (aj (ba (i:=6) sc.nd rfl (by grind) (bR aa))
   (aj (ba (i:=7) sc.nd rfl (by grind) (bR aa))
   (aj (ba (i:=8) sc.nd rfl (by grind) ai)
   (aj (fH PassesOwn.never rfl (cu (ak u (aq 0) ai)) (bb (i:=9) sc.nd rfl (by grind))
   (aj (ij (i:=10) sc.nd rfl (by grind) (N':=["_law_one","_law_way","_law_said","_law_numbers","_law_row","_law_machine_here"]) (ix:=[none,some 2,some 3,some 4,some 5,some 0]) (cu (pv 9)) (λ_ _ _ _=>(bb (i:=0) (show(["_law_one","_law_way","_law_said","_law_numbers","_law_row","_law_machine_here"]:List Str).Nodup by decide +kernel) rfl (by grind))) (λ_ _ _ _=>(lp (bz (bg (uv (K:=K) rfl) rfl T.bq yK (ag (aq 0) (ag (dB (v:=.ty "tuple") rfl T.cB sR rfl) aa)))))) (λ_ _ _ _=>(aM kJ hr (ag (aq 0) (ag (bQ (ag (aq 3) (ag (aq 4) aa))) (ag (aq 1) (ag (aq 2) (ag (eU (K:=K) rfl u (aq 5) ai) aa))))))))
   (ao (aT (aC oM (aq 8) ai (aH _)) (ao (ba (i:=8) sc.nd rfl (by grind) (aU e9 (aq 8) ai))) (ao (aT (aC (aV u) (ak u (aq 9) ai) aD (aH _)) (ao (fG (ak u (aq 10) ai) (iT (aq 4) (ak u (aq 9) ai) d9))) (ao (aT (aC (aV u) (ak u (aq 9) ai) aD (aH _)) (ao (fG (aU cK (aU cR (ak u (aq 4) (ak u (aq 9) ai)) (ak u (aq 10) ai)) (ak u (aq 0) ai)) (iT (aq 4) (ak u (aq 9) ai) d9))) (ao (aT (aC (aV u) (ak u (aq 9) ai) aD (aH _)) (ao (fG (aU cK (aU lx (ak u (aq 4) (ak u (aq 9) ai)) (ak u (aq 10) ai)) (ak u (aq 0) ai)) (iT (aq 4) (ak u (aq 9) ai) d9))) (ao (aT (aC (aV u) (ak u (aq 9) ai) aD (aH _)) (ao (ba (i:=5) sc.nd rfl (by grind) (vD (aU cR (aq 5) (aq 10)) qG (lj ai)))) (ao (aT (aC (aV u) (ak u (aq 9) ai) aD (aH _)) (ao (ba (i:=5) sc.nd rfl (by grind) (vD (aq 5) (lj ai) qG))) (ao (aT (aC (aV u) (ak u (aq 9) ai) aD (aH _)) (ao (cj (dD oj qA qB ck (aq 6) (ag (bQ (ag (ak u (aq 9) ai) (ag (ak u (aq 10) ai) aa))) aa)))) (ao (aT (aC (aV u) (ak u (aq 9) ai) aD (aH _)) (ao (cj (dD oj qA qB ck (aq 7) (ag (ak u (aq 10) ai) aa)))) (ao (aT (aC gK (ak u (aq 10) ai) (ak u (aq 10) ai) (aH _)) (ao (ba (i:=8) sc.nd rfl (by grind) (ak u (aq 9) ai))) aJ))))))))))))))))))))
   (ao (aI (bQ (ag (bQ (ag (dZ cH rfl T.cB sR (ag (aq 4) aa)) (ag (dZ cH rfl T.cB sR (ag (aq 5) aa)) aa))) (ag (aq 6) (ag (aq 7) aa)))))))))))),?_⟩
  nofun;obtain⟨sa,sb,U5,rfl,T,u,U7⟩:=om;ac_rfl;have qp:0<M:=by lia
  left;calc dR T rfl ?_;left;calc bE _ u (λr Qf=>?_);have s1:=av.new (.lst (ns.map V.int)) Qf;left;calc dR (s1 _ _ T) rfl ?_;left;have u:aR K (upd H r (.lst (ns.map V.int))) U5 (row.map V.int)\/bM K (upd H r (.lst (ns.map V.int))) U5 (row.map V.int):=U7.elim (λz=>.inl (s1.seq z)) (λz=>.inr (s1.Rc z));calc bE _ u (λX Dm=>?_);have s2:=av.new (.lst (row.map V.int)) Dm;left;calc⟨aav _,λL ph=>?_⟩;have G:=av.new (.lst []) ph;left;calc⟨aav _,λN mj=>?_⟩;have s4:=av.new (.lst []) mj;left;have nra:X≠r:=λz=>by subst z;rw[af]at Dm;cases Dm
  have hrH:H X=none:=s1.free Dm;have hsH:H L=none:=(s1.trans s2).free ph;have hwH:H N=none:=(s1.trans (s2.trans G)).free mj;have nsa:L≠r:=λz=>by subst z;rw[s2 _ _ af]at ph;cases ph
  have nsr:L≠X:=λz=>by subst z;rw[af]at ph;cases ph
  have nwa:N≠r:=λz=>by subst z;rw[G _ _ (s2 _ _ af)]at mj;cases mj
  have nwr:N≠X:=λz=>by subst z;rw[G _ _ af]at mj;cases mj
  have nws:N≠L:=λz=>by subst z;rw[af]at mj;cases mj
  have u:=s1.trans (s2.trans (G.trans s4));have exs:xs.length=ds.length:=by simpa using tj.1
  refine dR (u _ _ Vi) (aA (j:=3) rfl) (.inl ⟨⟨_,aR.of (u _ _ U4)⟩,jv (K:=K) (xs:=xs) (Vh H mt (.ref sa) I m M ds ns row) ?_ ?_ ?_ ?_⟩)
  ·refine⟨r,X,L,N,[],none,none,0,⟨ns,row,[],[]⟩,rfl,u,Qf,hrH,hsH,hwH,Ne.symm nra,Ne.symm nsa,Ne.symm nwa,Ne.symm nsr,Ne.symm nwr,Ne.symm nws,s4 _ _ (G _ _ (s2 _ _ af)),s4 _ _ (G _ _ af),s4 _ _ af,⟨rfl,λi z p e=>by simp at e⟩,af,rfl,hb,nN,L' _,L' _,Hw⟩
  ·intro i σ H1 hi jF;nofun;obtain⟨r,X,L,N,zs,z9,Qe,l,s,rfl,sH,_⟩:=jF;ac_rfl;exact aR.of (sH _ _ U4)
  ·intro i x σ H1 hxi jG;nofun;obtain⟨r,X,L,N,zs,z9,Qe,l,s,rfl,sH,a1,a2,a3,a4,n1,n2,n3,n4,n5,n6,S,Z,U,La,Y,qQ,qm,mB,Lb,hwn,R⟩:=jG;have BF:i < ds.length:=by rw[<-exs];exact(List.getElem?_eq_some_iff.mp hxi).1
   have qR:=aW ds[i] (aai BF);have hx:=(tj.2 i x (bF.dv ds[i]) hxi (by rw[List.getElem?_map,cE BF];rfl)).aK sH.aS;have Ry:ds.drop i=ds[i]::ds.drop (i+1):=List.drop_eq_getElem_cons BF;generalize hdd:ds[i]=d at qR hx Ry;rw[Ry]at R;obtain⟨pa,xp,os,k0,rfl,XT,va,Qk,Dp⟩:=BI hx;ac_rfl;left;calc bT ?_;left;calc .inr ⟨⟨_,bM.of XT⟩,λD hD=>?_⟩;have Co:=x9 (d:=d);refine bx (J:=Sx K pa) (n:=xp.length) (λi ys H'=>ys=(((os.take i).filterMap id).map (fN M I m s.ns s.row)).map V.int/\av H1 H') (P' (aG (by lia))) ⟨rfl,av.new _ hD⟩ ?_ ?_ ?_ ?_
   ·rintro i ys H' hi ⟨_,G⟩;exact⟨_,xp[i],bM.of (G _ _ XT),cE hi⟩
   ·rintro ys H' ⟨_,G⟩;exact⟨_,bM.of (G _ _ XT),L' _⟩
   ·intro i ys B hi bG xU oZ y H4 vJ;nofun;obtain⟨rfl,G⟩:=oZ;obtain⟨rfl,u⟩:=vJ;have x:=u _ (bM.of (G _ _ XT));obtain⟨o,ho,Hf⟩:=va.get x;ac_rfl;have xZ:os.take (i+1)=os.take i++[o]:=by
     rw[List.take_add_one,ho];rfl
    walk_at "xg";left;rcases Hf with⟨rfl,hc⟩|⟨v,rfl,hvx⟩
    ·have ety:∃t,gb K H4 y t/\W.kitOne K t (.type "tuple")=some false:=by
      rcases hc with⟨w,rfl⟩|⟨j,rfl⟩
      ·exact⟨_,.str w,rfl⟩
      ·exact⟨_,.int j,rfl⟩
     obtain⟨t,h1,h2⟩:=ety;refine cF t false h1 h2 ?_
     first|calc⟨false,rfl,?_⟩|skip
     left
     try rw[if_neg Bool.false_ne_true]
     exact⟨_,bG,by lia,by rw[xZ];simp,G⟩
    ·have Hg:=hvx.aK G.aS;nofun;obtain⟨b,zs',rfl,t⟩:=Bp Hg;ac_rfl;refine cF _ true (.tup t) rfl ?_
     first|calc⟨true,rfl,?_⟩|skip
     left
     try first|rw[if_pos rfl]|rw[if_pos trivial]
     have x:v.ok ns.length:=nQ qR v (by rw[<-Qk];calc List.mem_filterMap.mpr ⟨some v,Y' ho,rfl⟩);left;calc⟨dq,λy u=>?_⟩;have t:=av.new (.tup [.ref r,.ref X]) u;calc dR (t _ _ (G _ _ (sH _ _ Vi))) (aA (j:=0) rfl) ?_;calc⟨.ref b,y,r,X,I,m,M,v,s.ns,s.row,k0,rfl,Hg.aK t.aS,af,t _ _ (G _ _ S),t _ _ (G _ _ Z),by rw[qQ];calc x,qp,mB,λT u=>?_⟩;calc cn (u _ _ (t _ _ bG)) xU hi (P' (aG (by lia))) ⟨?_,λc o e=>by rw[ay (au e hD)];calc u _ _ (t _ _ (G _ _ e))⟩;rw[xZ,List.filterMap_append,List.map_append,List.map_append];rfl
   rintro ys B bG xU ⟨rfl,G⟩;rw[va.len,List.take_length,Qk]at bG;have Dn:H1 D=none:=hD;nofun;generalize t:d.vals.map (fN M I m s.ns s.row)=ws at bG;have f6:ws.length=d.vals.length:=by rw[<-t];simp
   have uJ:0<=ws.getD 0 0/\ws.getD 0 0<M:=by rw[<-t];exact uG qp
   have Hn:fQ M I m d s=⟨cS M s.ns (ws.getD 0 0) d,fO s.row (ws.getD 0 0) d,s.cb++bA (ws.getD 0 0) d,s.words++aX (ws.getD 0 0) d⟩:=by rw[<-t];rfl
   have Ho:lS M I m d s=fP (ws.getD 0 0) (ws.getD 1 0) d:=by rw[<-t];rfl
   have t:∀{b:Addr} {o:HO},H1 b=some o->b≠D:=λe=>au e Dn;have nj:av H B:=sH.trans G;have zV:=hx.aK G.aS;have tD:=La.aK G.aS;have u:r≠D:=t S;have u:X≠D:=t Z;have u:L≠D:=t U;have u:N≠D:=t Y;have u:∀{b:Addr} {ys zs:List V},B b=some (.tup ys)->∀{c:Addr},B c=some (.lst zs)->b≠c:=λh1 _ h2 z=>by subst z;rw[h1]at h2;cases h2
   have t:=nj _ _ Vi
   replace S:=G _ _ S
   replace Z:=G _ _ Z
   replace U:=G _ _ U
   replace Y:=G _ _ Y
   ac_rfl;clear va Qk Dp Co xU hx
   cases l with
   |succ l=>
    left;rw[if_pos (by simp)];left;calc⟨r,X,L,N,zs,some (.ref pa),some (.ref D),l,s,?_,nj,a1,a2,a3,a4,n1,n2,n3,n4,n5,n6,S,Z,U,tD,Y,qQ,qm,mB,by lia,by lia,R⟩;have:((l+1:Nat):Int)-1=((l:Nat):Int):=by lia
    rw[this]
   |zero=>
   replace R:MO M I m (lS M I m d s).toNat (ds.drop (i+1)) (fQ M I m d s)=nJ M I m ds ns row:=R
   rw[Hn,Ho]at R;left
   try rw[if_neg (by simp)]
   cases d with
   |set i' v=>
    nofun;obtain⟨a,u1,u2,u3,k1,ea,ha,g1,g2,g3⟩:=bX zV
    cases ea;obtain rfl:=g1.bO;obtain rfl:=g2.bN;obtain⟨g,rfl⟩:=qo f6;obtain⟨Dl,Rw,_⟩:=qR;obtain⟨k,rfl⟩:=aaq Dl;ac_rfl;have hj:k<s.ns.length:=by lia
    have x6:p6 (s.ns.map V.int).length (k:Int)=some k:=r9 (by simpa using hj);have Rx:hJ (s.ns.map V.int) (k:Int)=some (.int s.ns[k]):=aA (by rw[List.getElem?_map,cE hj];rfl);have K9:s.ns.getD (k:Int).toNat 0=s.ns[k]:=by simp[List.getD_eq_getElem?_getD,cE hj]
    walk_at "jg"
    skip
    calc cF _ k S x6 ?_;have O:∀b o,b≠r->B b=some o->upd B r (.lst ((s.ns.map V.int).set k (.int (g)))) b=some o:=λb o ne e=>by rw[ay ne];exact e
    have Vl:upd B r (.lst ((s.ns.map V.int).set k (.int (g)))) r=some (.lst ((cS M s.ns (([g]:List Int).getD 0 0) (.set k v)).map V.int)):=by
     rw[af,<-List.map_set];show some (HO.lst (List.map V.int (s.ns.set k (g))))=some (HO.lst (List.map V.int (s.ns.set (k:Int).toNat (g))))
     skip
     rfl
    have t6:bS B (upd B r (.lst ((s.ns.map V.int).set k (.int (g))))):=(bS.refl _).upd λys e=>by rw[S]at e;cases e
    walk_at "jg";refine⟨r,X,L,N,_,some (.ref pa),some (.ref D),0,⟨cS M s.ns (([g]:List Int).getD 0 0) (.set k v),fO s.row (([g]:List Int).getD 0 0) (.set k v),s.cb++bA (([g]:List Int).getD 0 0) (.set k v),s.words++aX (([g]:List Int).getD 0 0) (.set k v)⟩,?_,(λb o e=>O b o (au e a1) (nj _ _ e)),a1,a2,a3,a4,n1,n2,n3,n4,n5,n6,Vl,(O _ _ (Ne.symm n1) Z),(O _ _ (Ne.symm n2) U),(by simpa[bA] using tD.aK t6),(by simpa[aX] using O _ _ (Ne.symm n3) Y),(by simp only[bW];exact qQ),dj (d:=(.set k v)) qp qm uJ,mB,(by simp[bA];lia),(by simp[aX];lia),R⟩;rfl
   |add i' v=>
    nofun;obtain⟨a,u1,u2,u3,k1,ea,ha,g1,g2,g3⟩:=bX zV
    cases ea;obtain rfl:=g1.bO;obtain rfl:=g2.bN;obtain⟨g,rfl⟩:=qo f6;obtain⟨Dl,Rw,_⟩:=qR;obtain⟨k,rfl⟩:=aaq Dl;ac_rfl;have hj:k<s.ns.length:=by lia
    have x6:p6 (s.ns.map V.int).length (k:Int)=some k:=r9 (by simpa using hj);have Rx:hJ (s.ns.map V.int) (k:Int)=some (.int s.ns[k]):=aA (by rw[List.getElem?_map,cE hj];rfl);have K9:s.ns.getD (k:Int).toNat 0=s.ns[k]:=by simp[List.getD_eq_getElem?_getD,cE hj]
    walk_at "jg";refine⟨qp,?_⟩;walk_at "jg";refine cF _ k S x6 ?_;have O:∀b o,b≠r->B b=some o->upd B r (.lst ((s.ns.map V.int).set k (.int ((s.ns[k]+g)%M)))) b=some o:=λb o ne e=>by rw[ay ne];exact e
    have Vl:upd B r (.lst ((s.ns.map V.int).set k (.int ((s.ns[k]+g)%M)))) r=some (.lst ((cS M s.ns (([g]:List Int).getD 0 0) (.add k v)).map V.int)):=by
     rw[af,<-List.map_set];show some (HO.lst (List.map V.int (s.ns.set k ((s.ns[k]+g)%M))))=some (HO.lst (List.map V.int (s.ns.set (k:Int).toNat ((s.ns.getD (k:Int).toNat 0+g)%M))));rw[K9];rfl
    have t6:bS B (upd B r (.lst ((s.ns.map V.int).set k (.int ((s.ns[k]+g)%M))))):=(bS.refl _).upd λys e=>by rw[S]at e;cases e
    walk_at "jg";refine⟨r,X,L,N,_,some (.ref pa),some (.ref D),0,⟨cS M s.ns (([g]:List Int).getD 0 0) (.add k v),fO s.row (([g]:List Int).getD 0 0) (.add k v),s.cb++bA (([g]:List Int).getD 0 0) (.add k v),s.words++aX (([g]:List Int).getD 0 0) (.add k v)⟩,?_,(λb o e=>O b o (au e a1) (nj _ _ e)),a1,a2,a3,a4,n1,n2,n3,n4,n5,n6,Vl,(O _ _ (Ne.symm n1) Z),(O _ _ (Ne.symm n2) U),(by simpa[bA] using tD.aK t6),(by simpa[aX] using O _ _ (Ne.symm n3) Y),(by simp only[bW];exact qQ),dj (d:=(.add k v)) qp qm uJ,mB,(by simp[bA];lia),(by simp[aX];lia),R⟩;rfl
   |times i' v=>
    nofun;obtain⟨a,u1,u2,u3,k1,ea,ha,g1,g2,g3⟩:=bX zV
    cases ea;obtain rfl:=g1.bO;obtain rfl:=g2.bN;obtain⟨g,rfl⟩:=qo f6;obtain⟨Dl,Rw,_⟩:=qR;obtain⟨k,rfl⟩:=aaq Dl;ac_rfl;have hj:k<s.ns.length:=by lia
    have x6:p6 (s.ns.map V.int).length (k:Int)=some k:=r9 (by simpa using hj);have Rx:hJ (s.ns.map V.int) (k:Int)=some (.int s.ns[k]):=aA (by rw[List.getElem?_map,cE hj];rfl);have K9:s.ns.getD (k:Int).toNat 0=s.ns[k]:=by simp[List.getD_eq_getElem?_getD,cE hj]
    walk_at "jg";have i:=qm _ (aai hj);refine⟨.inl ⟨by lia,by lia⟩,?_⟩;walk_at "jg";refine⟨qp,?_⟩;walk_at "jg";refine cF _ k S x6 ?_;have O:∀b o,b≠r->B b=some o->upd B r (.lst ((s.ns.map V.int).set k (.int ((s.ns[k]*g)%M)))) b=some o:=λb o ne e=>by rw[ay ne];exact e
    have Vl:upd B r (.lst ((s.ns.map V.int).set k (.int ((s.ns[k]*g)%M)))) r=some (.lst ((cS M s.ns (([g]:List Int).getD 0 0) (.times k v)).map V.int)):=by
     rw[af,<-List.map_set];show some (HO.lst (List.map V.int (s.ns.set k ((s.ns[k]*g)%M))))=some (HO.lst (List.map V.int (s.ns.set (k:Int).toNat ((s.ns.getD (k:Int).toNat 0*g)%M))));rw[K9];rfl
    have t6:bS B (upd B r (.lst ((s.ns.map V.int).set k (.int ((s.ns[k]*g)%M))))):=(bS.refl _).upd λys e=>by rw[S]at e;cases e
    walk_at "jg";refine⟨r,X,L,N,_,some (.ref pa),some (.ref D),0,⟨cS M s.ns (([g]:List Int).getD 0 0) (.times k v),fO s.row (([g]:List Int).getD 0 0) (.times k v),s.cb++bA (([g]:List Int).getD 0 0) (.times k v),s.words++aX (([g]:List Int).getD 0 0) (.times k v)⟩,?_,(λb o e=>O b o (au e a1) (nj _ _ e)),a1,a2,a3,a4,n1,n2,n3,n4,n5,n6,Vl,(O _ _ (Ne.symm n1) Z),(O _ _ (Ne.symm n2) U),(by simpa[bA] using tD.aK t6),(by simpa[aX] using O _ _ (Ne.symm n3) Y),(by simp only[bW];exact qQ),dj (d:=(.times k v)) qp qm uJ,mB,(by simp[bA];lia),(by simp[aX];lia),R⟩;rfl
   |put v=>
    nofun;obtain⟨a,u1,u2,k1,ea,ha,g1,g2⟩:=cy zV
    cases ea;obtain rfl:=g1.bO;obtain⟨g,rfl⟩:=qo f6;ac_rfl;walk_at "jg";refine .inl ⟨_,_,Z,bG,P' (aG (by simp;lia)),λl2 Cq=>?_⟩;have s6:=av.new (.lst (s.row.map V.int++[g].map V.int)) Cq;walk_at "jg";refine .inl ⟨_,af,λl3 Jv=>?_⟩;have s7:=av.new (.lst (eJ (s.row.map V.int++[g].map V.int) none (some 12))) Jv;have vR:=s6.trans s7;have e26:upd (upd B l2 (.lst (s.row.map V.int++[g].map V.int))) l3 (.lst (eJ (s.row.map V.int++[g].map V.int) none (some 12))) l3=some (.lst ((fO s.row (([g]:List Int).getD 0 0) (.put v)).map V.int)):=by
     rw[af,Qj];show _=some (HO.lst ((if s.row.length<12 then s.row++[g] else s.row).map V.int));congr 2;rw[<-List.map_append,<-List.map_take];congr 1;split
     ·rw[List.take_of_length_le (by simp;lia)]
     ·rw[List.take_append_of_le_length (by lia),List.take_of_length_le mB]
    have f3:B l3=none:=s6.free Jv;walk_at "jg";refine⟨r,l3,L,N,_,some (.ref pa),some (.ref D),0,⟨cS M s.ns (([g]:List Int).getD 0 0) (.put v),fO s.row (([g]:List Int).getD 0 0) (.put v),s.cb++bA (([g]:List Int).getD 0 0) (.put v),s.words++aX (([g]:List Int).getD 0 0) (.put v)⟩,?_,(nj.trans vR),a1,(nj.free f3),a3,a4,(au S f3),n2,n3,(Ne.symm (au U f3)),(Ne.symm (au Y f3)),n6,(vR _ _ S),e26,(vR _ _ U),(by simpa[bA] using tD.aK vR.aS),(by simpa[aX] using vR _ _ Y),(by simp only[bW];exact qQ),dj (d:=(.put v)) qp qm uJ,(by show(if s.row.length<12 then s.row++[_] else s.row).length<=12;split<;>first|exact mB|(simp;lia)),(by simp[bA];lia),(by simp[aX];lia),R⟩;rfl
   |drop=>
    nofun;obtain⟨a,u1,k1,ea,ha,g1⟩:=gf zV
    cases ea;obtain rfl:=g1.bO;ac_rfl;walk_at "jg";refine .inl ⟨_,Z,λl3 Jv=>?_⟩;have s7:=av.new (.lst (eJ (s.row.map V.int) (some 1) none)) Jv;have e26:upd B l3 (.lst (eJ (s.row.map V.int) (some 1) none)) l3=some (.lst ((fO s.row (ws.getD 0 0) .drop).map V.int)):=by
     rw[af,Vj];show _=some (HO.lst (s.row.tail.map V.int));rw[List.map_tail]
    walk_at "jg";refine⟨r,l3,L,N,_,some (.ref pa),some (.ref D),0,⟨cS M s.ns (ws.getD 0 0) .drop,fO s.row (ws.getD 0 0) .drop,s.cb++bA (ws.getD 0 0) .drop,s.words++aX (ws.getD 0 0) .drop⟩,?_,(nj.trans s7),a1,(nj.free Jv),a3,a4,(au S Jv),n2,n3,(Ne.symm (au U Jv)),(Ne.symm (au Y Jv)),n6,(s7 _ _ S),e26,(s7 _ _ U),(by simpa[bA] using tD.aK s7.aS),(by simpa[aX] using s7 _ _ Y),(by simp only[bW];exact qQ),dj (d:=.drop) qp qm uJ,(by show s.row.tail.length<=12;rw[List.length_tail];lia),(by simp[bA];lia),(by simp[aX];lia),R⟩;rfl
   |send j v=>
    nofun;obtain⟨a,u1,u2,u3,k1,ea,ha,g1,g2,g3⟩:=bX zV
    cases ea;obtain rfl:=g1.bO;obtain rfl:=g2.bN;obtain⟨g,rfl⟩:=qo f6;ac_rfl;walk_at "jg";refine⟨.inl ⟨rfl,_,aR.of U⟩,?_⟩;walk_at "jg";refine⟨dq,λtp Be=>?_⟩;have s6:=av.new (.tup [.int j,.int g]) Be;walk_at "jg";refine hX _ (s6 _ _ U) (aaS (by have:=La.1;lia) (aG (n:=100) (by lia))) ?_;have i:tp≠L:=λz=>by subst z;rw[U]at Be;cases Be
    have t6:bS (upd B tp (.tup [.int j,.int g])) (upd (upd B tp (.tup [.int j,.int g])) L (.lst (zs++[.ref tp]))):=(bS.refl _).upd λys e=>by rw[s6 _ _ U]at e;cases e
    have O:∀b o,b≠L->B b=some o->upd (upd B tp (.tup [.int j,.int g])) L (.lst (zs++[.ref tp])) b=some o:=λb o ne e=>by rw[ay ne];exact s6 _ _ e
    walk_at "jg";refine⟨r,X,L,N,_,some (.ref pa),some (.ref D),0,⟨cS M s.ns (([g]:List Int).getD 0 0) (.send j v),fO s.row (([g]:List Int).getD 0 0) (.send j v),s.cb++bA (([g]:List Int).getD 0 0) (.send j v),s.words++aX (([g]:List Int).getD 0 0) (.send j v)⟩,?_,(λb o e=>O b o (au e a3) (nj _ _ e)),a1,a2,a3,a4,n1,n2,n3,n4,n5,n6,(O _ _ n2 S),(O _ _ n4 Z),af,((tD.aK (s6.aS.trans t6)).snoc (c9 (n:=0) (t6 _ _ af) (.int _) (.int _))),(by simpa[aX] using O _ _ (Ne.symm n6) Y),(by simp only[bW];exact qQ),dj (d:=(.send j v)) qp qm uJ,mB,(by simp[bA];lia),(by simp[aX];lia),R⟩;rfl
   |say v=>
    nofun;obtain⟨a,u1,u2,k1,ea,ha,g1,g2⟩:=cy zV
    cases ea;obtain rfl:=g1.bO;obtain⟨g,rfl⟩:=qo f6;ac_rfl;walk_at "jg";refine⟨.inl ⟨rfl,_,aR.of Y⟩,?_⟩;walk_at "jg";refine hX _ Y (aaS (by simp;lia) (aG (n:=100) (by lia))) ?_;have t6:bS B (upd B N (.lst (s.words.map V.int++[.int g]))):=(bS.refl _).upd λys e=>by rw[Y]at e;cases e
    have O:∀b o,b≠N->B b=some o->upd B N (.lst (s.words.map V.int++[.int g])) b=some o:=λb o ne e=>by rw[ay ne];exact e
    walk_at "jg";refine⟨r,X,L,N,_,some (.ref pa),some (.ref D),0,⟨cS M s.ns (([g]:List Int).getD 0 0) (.say v),fO s.row (([g]:List Int).getD 0 0) (.say v),s.cb++bA (([g]:List Int).getD 0 0) (.say v),s.words++aX (([g]:List Int).getD 0 0) (.say v)⟩,?_,(λb o e=>O b o (au e a4) (nj _ _ e)),a1,a2,a3,a4,n1,n2,n3,n4,n5,n6,(O _ _ n3 S),(O _ _ n5 Z),(O _ _ n6 U),(by simpa[bA] using tD.aK t6),(by rw[af];simp[aX]),(by simp only[bW];exact qQ),dj (d:=(.say v)) qp qm uJ,mB,(by simp[bA];lia),(by simp[aX];lia),R⟩;rfl
   |skip v w2 kk=>
    nofun;obtain⟨a,u1,u2,u3,i,k1,ea,ha,g1,g2,g3,g4⟩:=jQ zV
    cases ea;obtain rfl:=g1.bO;obtain rfl:=g4.bN;obtain⟨g,w1,rfl⟩:=U1 f6;ac_rfl;walk_at "jg";by_cases Lf:g<w1
    ·left;rw[if_pos (by simpa using Lf)];have esk:fP (([g,w1]:List Int).getD 0 0) (([g,w1]:List Int).getD 1 0) (.skip v w2 kk)=kk:=if_pos Lf;rw[esk]at R;have i:=qR.2.2.1;walk_at "jg";refine⟨r,X,L,N,_,some (.ref pa),some (.ref D),kk.toNat,⟨cS M s.ns (([g,w1]:List Int).getD 0 0) (.skip v w2 kk),fO s.row (([g,w1]:List Int).getD 0 0) (.skip v w2 kk),s.cb++bA (([g,w1]:List Int).getD 0 0) (.skip v w2 kk),s.words++aX (([g,w1]:List Int).getD 0 0) (.skip v w2 kk)⟩,?_,nj,a1,a2,a3,a4,n1,n2,n3,n4,n5,n6,S,Z,U,(by simpa[bA] using tD),(by simpa[aX] using Y),(by simp only[bW];exact qQ),dj (d:=(.skip v w2 kk)) qp qm uJ,mB,(by simp[bA];lia),(by simp[aX];lia),R⟩;rw[Int.toNat_of_nonneg (by lia)]
    ·left;rw[if_neg (by simpa using Lf)];have esk:fP (([g,w1]:List Int).getD 0 0) (([g,w1]:List Int).getD 1 0) (.skip v w2 kk)=0:=if_neg Lf;rw[esk]at R;walk_at "jg";refine⟨r,X,L,N,_,some (.ref pa),some (.ref D),0,⟨cS M s.ns (([g,w1]:List Int).getD 0 0) (.skip v w2 kk),fO s.row (([g,w1]:List Int).getD 0 0) (.skip v w2 kk),s.cb++bA (([g,w1]:List Int).getD 0 0) (.skip v w2 kk),s.words++aX (([g,w1]:List Int).getD 0 0) (.skip v w2 kk)⟩,?_,nj,a1,a2,a3,a4,n1,n2,n3,n4,n5,n6,S,Z,U,(by simpa[bA] using tD),(by simpa[aX] using Y),(by simp only[bW];exact qQ),dj (d:=(.skip v w2 kk)) qp qm uJ,mB,(by simp[bA];lia),(by simp[aX];lia),R⟩;rfl
  ·intro σ H1 vL;nofun;obtain⟨r,X,L,N,zs,z9,Qe,l,s,rfl,sH,a1,a2,a3,a4,n1,n2,n3,n4,n5,n6,S,Z,U,La,Y,qQ,qm,mB,Lb,hwn,R⟩:=vL;ac_rfl;rw[exs,List.drop_length] at R;have R:s=nJ M I m ds ns row:=by rw[<-R];cases l <;> rfl
   left;calc .inl ⟨_,aR.of S,λg i=>?_⟩;have j:=av.new (.tup (s.ns.map V.int)) i;left;calc .inl ⟨_,aR.of (j _ _ Z),λl m=>?_⟩;have k:=av.new (.tup (s.row.map V.int)) m;left;calc⟨dq,λr t=>?_⟩;have i:=av.new (.tup [.ref g,.ref l]) t;left;calc⟨by show 3<=sizeLine;decide,λu m=>?_⟩;have l:=av.new (.tup [.ref r,.ref L,.ref N]) m;have g:=j.trans (k.trans (i.trans l));refine q _ _ (sH.trans g) ⟨_,_,L,N,zs,rfl,af,?_,g _ _ U,?_,?_,a3,a4,n6⟩
   ·rw[<-R];exact(c9 af (nI (i _ _ (k _ _ af))) (nI (i _ _ af))).aK l.aS
   ·rw[<-R];exact La.aK g.aS
   ·rw[<-R];calc g _ _ Y
def iu(n:Nat->Nat)(ad:Nat->Nat->Addr)(t:Nat):List V:=(List.range (n t)).map λi=>V.ref (ad t i)
theorem nS{n:Nat->Nat}{t:Nat}:(iu n ad t).length=n t:=by simp[iu]
theorem aY{n:Nat->Nat}{t i:Nat}(h:i<n t):hJ (iu n ad t) (i:Int)=some (.ref (ad t i)):=aA (by simp[iu,h])
def Ef(a:V)(p:Addr)(o:Nat->Addr):List (Str×V):=[("own_net",a),("picks_done",.ref p),("states_had",.ref (o 1)),("words_had",.ref (o 2)),("words_said",.ref (o 3)),("letters_say",.ref (o 4)),("senders",.ref (o 5)),("workers",.ref (o 6))]
section
variable {bH:V}{p:Addr}{o:Nat->Addr}
theorem se:(Ef bH p o).lookup ("own_net":Str)=some bH:=by kernel_rfl
theorem aaT:(Ef bH p o).lookup ("picks_done":Str)=some (.ref p):=by kernel_rfl
theorem Lg:(Ef bH p o).lookup ("states_had":Str)=some (.ref (o 1)):=by kernel_rfl
theorem aaU:(Ef bH p o).lookup ("words_had":Str)=some (.ref (o 2)):=by kernel_rfl
theorem Vm:(Ef bH p o).lookup ("words_said":Str)=some (.ref (o 3)):=by kernel_rfl
theorem Dq:(Ef bH p o).lookup ("letters_say":Str)=some (.ref (o 4)):=by kernel_rfl
theorem Vn:(Ef bH p o).lookup ("senders":Str)=some (.ref (o 5)):=by kernel_rfl
theorem Hy:(Ef bH p o).lookup ("workers":Str)=some (.ref (o 6)):=by kernel_rfl
end
structure vS(C CN:Addr)(H:Hp)(bH:Addr)(nt:NT):Prop where
 ex:∃ms wv lv,pw CN H bH ms wv lv/\ms.length=nt.ms.length/\(∀(i:Nat) m d,ms[i]?=some m->nt.ms[i]?=some d->Rr C H m d)/\gY H 1 wv (nt.ws.map lL)
 ok:nt.Ok
theorem Rr.fr{C:Addr}{d:MD}(f:Fr Z H H')(h:Rr C H m d):Rr C H' m d:=by
 obtain⟨a,st,dd,b,c,e⟩:=h;calc⟨a,st,dd,f.lJ b id,c.aK f.aS,e.aK f.aS⟩
theorem pw.fr{CN:Addr}{x:Addr}{d:List Addr}{e g:List V}(f:Fr Z H H')(h:pw CN H x d e g):pw CN H' x d e g:=by
 obtain⟨d,a,b,c,e,g,i,j⟩:=h;calc⟨d,a,b,c,f.lJ e id,f.lJ g id,f.lJ i id,f.lJ j id⟩
theorem vS.fr{C CN:Addr}{c:Addr}{nt:NT}(f:Fr Z H H')(h:vS C CN H c nt):vS C CN H' c nt:=by
 obtain⟨⟨c,e,g,j,k,l,n⟩,o⟩:=h;calc⟨⟨c,e,g,j.fr f,k,λi m d a b=>(l i m d a b).fr f,n.aK f.aS⟩,o⟩
structure cO(C CN CR:Addr)(F:Addr->Prop)(H:Hp)(x bH:Addr)(nt:NT)(r:RS)(ad:Nat->Nat->Addr):Prop where
 ins:∃dx o,H x=some (.ins CR dx (Ef (.ref bH) (ad 0 0) o))/\∀t,1<=t->t<=6->H (o t)=some (.lst (iu nt.n ad t))/\¬F (o t)/\¬FP nt.n ad (o t)
 cD:dO F H nt.n ad r.ct
 Vo:vS C CN H bH nt
section
variable {C CN CR:Addr}{F:Addr->Prop}{H H':Hp}{x bH:Addr}{nt:NT}{r:RS}{ad:Nat->Nat->Addr}
theorem cO.keep(h:cO C CN CR F H x bH nt r ad)(f:Fr F H H'):cO C CN CR F H' x bH nt r ad:=by
 obtain⟨⟨d,o,e,c⟩,g,i⟩:=h;calc⟨⟨d,o,f.lJ e id,λt a b=>⟨f.at (c t a b).1 (c t a b).2.1,(c t a b).2⟩⟩,g.keep f,i.fr f⟩
theorem cO.same(h:cO C CN CR F H x bH nt r ad)(s:av H H'):cO C CN CR F H' x bH nt r ad:=h.keep s.fr
theorem cO.own{c:RS}(h:cO C CN CR F H x bH nt r ad)(f:Fr (FP nt.n ad) H H')(b:dO F H' nt.n ad c.ct):cO C CN CR F H' x bH nt c ad:=by
 obtain⟨⟨d,o,e,c⟩,i,g⟩:=h;calc⟨⟨d,o,f.lJ e id,λt a b=>⟨f.at (c t a b).1 (c t a b).2.2,(c t a b).2⟩⟩,b,g.fr f⟩
end
abbrev i5:Stmt:=(cf (top 45)).getD 6 (.Pass ⟨0,0,0,0⟩)
def nU(nt:NT)(e j:Nat):Int:=if e=0 then(nt.w j).1 else(nt.w j).2.1
def sf(nt:NT)(e m:Nat):List Nat:=(List.range nt.ws.length).filter λj=>decide (nU nt e j=m)
def zX(C CN:Addr):Sp:=λvs H Q _=>∃(x:Addr) (nt:NT) (m e:Nat),vs=[.ref x,.int m,.int e]/\vS C CN H x nt/\m<nt.ms.length/\e<2/\∀l H',av H H'->H l=none->H' l=some (.lst ((sf nt e m).map λi=>.int (i:Nat)))->Q (.ref l) H'
theorem tE(D:gL K CN "ways_at" "Net.ways_at" i5 ["self","m","end"])(T:Tx K mg C CN CR F FD)(W:Def P w K mg base "is_within" 2 ["thing","low","beyond"] cp):d7 P w K mg base CN "ways_at" 3 ["self","m","end"] (zX C CN):=by
 have sc:aE ["self","m","end"] ["self","m","end"] (az i5):=by walk_at "s"
 symm
 ·obtain⟨x,d,m,e,rfl,L,M,N,q⟩:=h;rfl
 ·nofun;obtain⟨x,d,m,e,rfl,L,M,N,q⟩:=h;ac_rfl;have N:=hr.units;refine⟨_,(aj (aT (bV (bz (aM W hr (ag (aq 1) (ag ai (ag (bg aP rfl T.b4 U' (ag (bP (aq 0) rfl) aa)) aa)))))) (ao dY) aJ)
   (ao (aI (dE (N':=["number","way","m","end"]) (ix:=[none,none,some 1,some 2]) (ly rfl T.eQ (ag (bP (aq 0) rfl) aa)) (λ_ _ _ _=>(lA (K:=K) rfl (i:=0) (j:=1) rfl (show(["number","way","m","end"]:List Str).Nodup by decide +kernel) rfl rfl (by grind) (by grind))) (λ_ _ _ _=>(lp (aC (kr (K:=K) rfl N) (eU (K:=K) rfl N (aq 1) (aq 3)) (aq 2) (aH _)))) (λ_ _ _ _=>(aq 0)))))),?_⟩
  nofun;obtain⟨⟨W,k,N,X,Y,yI,O⟩,Z⟩:=id L;obtain⟨dx,a,b,cc,N,h2,p,h4⟩:=id X;ac_rfl;left;calc⟨x,CN,dx,_,_,rfl,N,T.cT,T.xD,Vc,_,.inr ⟨_,bM.of h2,rfl⟩,?_⟩;calc fS (.int m) _ 0 _ rfl (.int _) ?_;rw[show inR 0 (((W.map V.ref).length:Nat):Int) (.int (m:Int))=true by simp[inR,Y,M]];calc lK ?_;rw[if_neg (by decide)];left;calc bT ?_;left;calc fR N T.cT T.xE Vd ?_;left;calc Gz false k (Sq.t p) (λD u=>?_);have f6:k.length=d.ws.length:=by simpa using O.1
  have x:=Z.CS;refine bx (J:=Ml false K b) (n:=k.length) (λi ys H'=>av H H'/\ys=((List.range i).filter λj=>decide (nU d e j=m)).map λj=>V.int (j:Nat)) (P' (aG (by lia))) ⟨av.new _ u,rfl⟩ ?_ ?_ ?_ ?_
  ·rintro i ys H' v ⟨g,_⟩;exact⟨k,k[i],Sq.t (g _ _ p),cE v⟩
  ·rintro ys H' ⟨g,_⟩;exact⟨k,Sq.t (g _ _ p),rfl⟩
  ·intro i ys H' v r R jF xx H4 jG;nofun;obtain⟨g,rfl⟩:=jF;obtain⟨t,ht,rfl,y⟩:=jG;obtain⟨l,ex,rfl⟩:=y k (Sq.t (g _ _ p));have x:i < d.ws.length:=by lia
   have B:=(O.2 i l (lL (d.w i)) ex (by rw[List.getElem?_map,show d.ws[i]?=some (d.w i) from bt x];rfl)).aK g.aS;have I:=av.new (.tup [.int (i:Nat),l]) ht
   replace B:=B.aK I.aS
   have ou:upd H' t (.tup [.int (i:Nat),l]) t=some (.tup [.int (i:Nat),l]):=af;have S:=I _ _ r;have U:=g.trans I;generalize hG:upd H' t (.tup [.int (i:Nat),l])=G at *;obtain⟨ta,u1,u2,u3,kk,rfl,ye,g1,g2,g3⟩:=bX B;obtain rfl:=g1.bN;obtain rfl:=g2.bN;obtain rfl:=g3.bO;ac_rfl;calc yG (bM.of ou) ⟨Ext.set (Ext.set (Ext.refl _) rfl) rfl,?_⟩;left;have x6:hJ [V.int (d.w i).1,V.int (d.w i).2.1,V.str (d.w i).2.2] (e:Int)=some (.int (nU d e i)):=by
    have:e=0\/e=1:=by lia
    rcases this with rfl|rfl
    ·exact aA (j:=0) rfl
    ·exact aA (j:=1) rfl
   calc dR ye x6 ?_;left;have k:(List.range (i+1)).filter (λj=>decide (nU d e j=m))=(List.range i).filter (λj=>decide (nU d e j=m))++(if nU d e i=m then[i] else[]):=by
    rw[List.range_succ,List.filter_append];congr 1;by_cases z:nU d e i=m<;>simp[z]
   by_cases z:nU d e i=m
   ·rw[if_pos (by simp[z])];calc cn S R v (P' (aG (by lia))) ⟨λc o e=>by rw[ay (au e u)];calc U _ _ e,?_⟩;rw[k,if_pos z,List.map_append];rfl
   ·rw[if_neg (by simp[z])];exact⟨_,S,by lia,U,by rw[k,if_neg z,List.append_nil]⟩
  ·rintro ys H' r R ⟨g,rfl⟩;rw[f6]at r;calc q _ _ g u r
abbrev iy:Stmt:=(cf (top 45)).getD 4 (.Pass ⟨0,0,0,0⟩)
def p9(C CN:Addr):Sp:=λvs H Q _=>∃(x:Addr) (nt:NT) (m:Nat),vs=[.ref x,.int m]/\vS C CN H x nt/\m<nt.ms.length/\∀l H',av H H'->H l=none->H' l=some (.lst ((sf nt 0 m).map λi=>.int (i:Nat)))->Q (.ref l) H'
theorem sh(D:gL K CN "ways_out" "Net.ways_out" iy ["self","m"])(T:Tx K mg C CN CR F FD)(g:d7 P w K mg base CN "ways_at" 3 ["self","m","end"] (zX C CN)):d7 P w K mg base CN "ways_out" 4 ["self","m"] (p9 C CN):=by
 have sc:aE ["self","m"] ["self","m"] (az iy):=by walk_at "s"
 symm
 ·obtain⟨x,d,m,rfl,c,e,q⟩:=h;rfl
 ·nofun;obtain⟨x,d,m,rfl,c,e,q⟩:=h;ac_rfl;have i:=hr.units;calc⟨_,(ao (aI (jB g T.cT hr (aq 0) (ag (aq 1) (ag ai aa))))),?_⟩;nofun;obtain⟨⟨j,k,l,i,n,o,p⟩,r⟩:=id c;obtain⟨j,a,b,k,g,l,n,o⟩:=id i;ac_rfl;left;calc eV g (eI (by decide +kernel) (by decide +kernel) (by decide +kernel)) ?_;calc⟨x,d,m,0,rfl,c,e,by decide,q⟩
abbrev i8:Stmt:=(cf (top 45)).getD 5 (.Pass ⟨0,0,0,0⟩)
def si(C CN:Addr):Sp:=λvs H Q _=>∃(x:Addr) (nt:NT) (m:Nat),vs=[.ref x,.int m]/\vS C CN H x nt/\m<nt.ms.length/\∀l H',av H H'->H l=none->H' l=some (.lst ((sf nt 1 m).map λi=>.int (i:Nat)))->Q (.ref l) H'
theorem tF(D:gL K CN "ways_in" "Net.ways_in" i8 ["self","m"])(T:Tx K mg C CN CR F FD)(g:d7 P w K mg base CN "ways_at" 3 ["self","m","end"] (zX C CN)):d7 P w K mg base CN "ways_in" 4 ["self","m"] (si C CN):=by
 have sc:aE ["self","m"] ["self","m"] (az i8):=by walk_at "s"
 symm
 ·obtain⟨x,d,m,rfl,c,e,q⟩:=h;rfl
 ·nofun;obtain⟨x,d,m,rfl,c,e,q⟩:=h;ac_rfl;have i:=hr.units;calc⟨_,(ao (aI (jB g T.cT hr (aq 0) (ag (aq 1) (ag ai aa))))),?_⟩;nofun;obtain⟨⟨j,k,l,i,n,o,p⟩,r⟩:=id c;obtain⟨j,a,b,k,g,l,n,o⟩:=id i;ac_rfl;left;calc eV g (eI (by decide +kernel) (by decide +kernel) (by decide +kernel)) ?_;calc⟨x,d,m,1,rfl,c,e,by decide,q⟩
def FS(F:Addr->Prop)(H:Hp):Prop:=∀b,F b->∃o,H b=some o/\soft o
theorem FS.fr{F:Addr->Prop}(h:FS F H)(f:Fr Z H H')(c:∀b,F b->¬Z b):FS F H':=λb a=>by
 obtain⟨o,e,s⟩:=h b a;calc⟨o,f.at e (c b a),s⟩
theorem _root_.DD.dO.sj{F:Addr->Prop}{n:Nat->Nat}{ct:Nat->Nat->CO}(h:dO F H n ad ct):∀b,F b->¬FP n ad b:=λb a ⟨t,i,c,e⟩=>h.out t i c (e▸a)
theorem small{n:Nat}(h:n<=20000):n<sizeLine:=by rw[sizeLine_eq];lia
theorem Ql{r:RS}{n:NT}{w:Nat}{x:Int}{s:Option (Int×Int)}:∀t i,i<n.n t->setC (setC (setC r.ct 4 w (.l ((r.ww w).say.map .int++[.int x]))) 5 w (.l ((r.ww w).snd.map nh++[nh s]))) 6 w (.l ((r.ww w).dy.map nh++[.bD])) t i=(r.put w x s).ct t i:=by
 intro t i a;unfold setC
 match t,a with
 |0,_=>simp[RS.ct,RS.put]
 |1,_=>simp[RS.ct,RS.put]
 |2,_=>simp[RS.ct,RS.put]
 |3,_=>simp[RS.ct,RS.put]
 |4,_=>by_cases e:i=w<;>simp[RS.ct,RS.put,e]
 |5,_=>by_cases e:i=w<;>simp[RS.ct,RS.put,e]
 |6,_=>by_cases e:i=w<;>simp[RS.ct,RS.put,e,nh]
 |(t+7),a=>calc absurd a (aao i)
abbrev gp:Stmt:=(cf (top 14)).getD 1 (.Pass ⟨0,0,0,0⟩)
inductive BP(C CN CR:Addr)(vs:List V)(H:Hp)(Q:VK):Prop
 |mk (F:Addr->Prop) (x bH:Addr) (nt:NT) (r:RS) (ad:Nat->Nat->Addr) (wy:Nat) (said:Int) (sv:V) (s:Option (Int×Int)) (h0:vs=[.ref x,.int (wy:Nat),.int said,sv]) (h1:cO C CN CR F H x bH nt r ad) (h2:FS F H) (h3:wy<nt.ws.length) (h4:HT H 4 sv (nh s)) (h5:r.sO nt 19999) (h6:∀H',Fr (FP nt.n ad) H H'->cO C CN CR F H' x bH nt (r.put wy said s) ad->Q .bD H'):BP C CN CR vs H Q
def sk(C CN CR:Addr):Sp:=λvs H Q _=>BP C CN CR vs H Q
theorem pA(D:gL K CR "put_letter" "Run.put_letter" gp ["self","way","said","sender"])(T:Tx K mg C CN CR F FD):d7 P w K mg base CR "put_letter" 1 ["self","way","said","sender"] (sk C CN CR):=by
 have sc:aE ["self","way","said","sender"] ["self","way","said","sender"] (az gp):=by walk_at "s"
 symm
 ·obtain⟨F,x,N,g,r,ad,a,c,v,s,rfl,j,I,b,J,k,q⟩:=h;rfl
 ·nofun;obtain⟨F,x,N,g,r,ad,a,c,v,s,rfl,j,I,b,J,k,q⟩:=h;ac_rfl;have x:=hr.units;refine⟨_,(aj (cj (dD oj qA qB ck (ak x (bP (aq 0) rfl) (aq 1)) (ag (aq 2) aa)))
   (aj (cj (dD oj qA qB ck (ak x (bP (aq 0) rfl) (aq 1)) (ag (aq 3) aa)))
   (ao (cj (dD oj qA qB ck (ak x (bP (aq 0) rfl) (aq 1)) (ag iS aa)))))),?_⟩
  nofun;obtain⟨x,o,y,d⟩:=j.ins;have z:=j.cD;have x:=(d 4 (by decide) (by decide)).1;have O:=(d 5 (by decide) (by decide)).2.2;have R:=(d 6 (by decide) (by decide)).2.2;have N:=k.bs a b;have N:=k.ls a b;have N:=k.lk a b;obtain⟨l,m,N⟩:=z.lst (t:=4) (i:=a) b rfl;ac_rfl;have k:l.length=(r.ww a).say.length:=by simpa using N.1
  left;calc fR y T.aZ T.bL Dq ?_;left;calc bC x (aY b) ?_;calc⟨.inl ⟨rfl,_,aR.of m⟩,?_⟩;left;calc hX l m (small (by lia)) ?_;have B:=z.app (t:=4) (i:=a) b rfl m (dP.one (.int c));have e:Fr (FP g.n ad) H (upd H (ad 4 a) (.lst (l++[.int c]))):=Fr.refl.upd ⟨4,a,b,rfl⟩ m trivial;generalize U:upd H (ad 4 a) (.lst (l++[.int c]))=L at *;have x:=e.lJ y id;have c:=e.at (d 5 (by decide) (by decide)).1 O;obtain⟨p,u,k⟩:=B.lst (t:=5) (i:=a) b rfl;have l:p.length=(r.ww a).snd.length:=by simpa using k.1
  have k:=I.fr e z.sj;left;calc fR x T.aZ T.eR Vn ?_;left;calc bC c (aY b) ?_;calc⟨.inl ⟨rfl,_,aR.of u⟩,?_⟩;left;calc hX p u (small (by lia)) ?_;have M:=B.app (t:=5) (i:=a) b rfl u (dP.one (B.ht k (J.aK e.aS)));have G:Fr (FP g.n ad) H (upd L (ad 5 a) (.lst (p++[v]))):=e.upd ⟨5,a,b,rfl⟩ u trivial;generalize W:upd L (ad 5 a) (.lst (p++[v]))=S at *;have l:=G.lJ y id;have e:=G.at (d 6 (by decide) (by decide)).1 R;obtain⟨k,c,m⟩:=M.lst (t:=6) (i:=a) b rfl;have d:k.length=(r.ww a).dy.length:=by simpa using m.1
  left;calc fR l T.aZ T.cV Hy ?_;left;calc bC e (aY b) ?_;calc⟨.inl ⟨rfl,_,aR.of c⟩,?_⟩;left;calc hX k c (small (by lia)) ?_;have m:=M.app (t:=6) (i:=a) b rfl c (dP.one (.bD));have d:Fr (FP g.n ad) H (upd S (ad 6 a) (.lst (k++[.bD]))):=G.upd ⟨6,a,b,rfl⟩ c trivial;calc q _ d (j.own d (m.congr Ql))
abbrev mD:Stmt:=(cf (top 6)).getD 0 (.Pass ⟨0,0,0,0⟩)
def nV(c:Nat->Addr):Sp:=λvs H Q _=>∃(a:Addr) (v:V) (d:Bool),vs=[.ref a,v]/\H a=some (XO a (c 4) none d)/\∀b,H b=none->Q .bD (upd (upd H a (XO a (c 4) (some b) d)) b (XD b [("at",v)]))
theorem zZ(D:Kk K mg "NoLetter" (c 4) B "NoLetter.__init__" mD ["self","at"])(T:Tx K mg C CN CR F FD)(b:DX K mg B c):Gj P w K mg base "NoLetter" (c 4) B 1 ["self","at"] (nV c):=by
 have sc:aE ["self","at"] ["self","at"] (az mD):=by walk_at "s"
 symm
 ·obtain⟨a,v,d,rfl,e,q⟩:=h;rfl
 ·nofun;obtain⟨a,v,d,rfl,e,q⟩:=h;ac_rfl;have g:=hr.units;calc⟨_,(ao (Pd (aq 0) (aq 1) (fL rfl))),?_⟩;calc⟨a,c 4,B,d,rfl,e,b.cl 4 (by decide),b.cG,λg i=>q g i⟩
abbrev fg:Stmt:=(cf (top 14)).getD 2 (.Pass ⟨0,0,0,0⟩)
def MP(C CN CR:Addr):Sp:=λvs H Q _=>∃(F:Addr->Prop) (x a:Addr) (nt:NT) (r:RS) (ad:Nat->Nat->Addr) (m:Nat),vs=[.ref x,.int m]/\cO C CN CR F H x a nt r ad/\m<nt.ms.length/\Q .bD H
theorem mE(D:gL K CR "need_machine" "Run.need_machine" fg ["self","m"])(T:Tx K mg C CN CR F FD)(d:Def P w K mg base "is_within" 2 ["thing","low","beyond"] cp):d7 P w K mg base CR "need_machine" 3 ["self","m"] (MP C CN CR):=by
 have sc:aE ["self","m"] ["self","m"] (az fg):=by walk_at "s"
 symm
 ·obtain⟨F,x,e,a,r,ad,m,rfl,b,c,q⟩:=h;rfl
 ·nofun;obtain⟨F,x,e,a,r,ad,m,rfl,b,c,q⟩:=h;ac_rfl;have e:=hr.units;calc⟨_,(ao (aT (bV (bz (aM d hr (ag (aq 1) (ag ai (ag (bg aP rfl T.b4 U' (ag (bP (aq 0) rfl) aa)) aa)))))) (ao dY) aJ)),?_⟩;obtain⟨e,o,g,i⟩:=b.ins;have d:=(i 1 (by decide) (by decide)).1;left;calc⟨x,CR,e,_,_,rfl,g,T.aZ,T.cm,Lg,_,.inl ⟨_,aR.of d,rfl⟩,?_⟩;calc fS (.int m) _ 0 _ rfl (.int _) ?_;rw[nS];rw[show inR 0 ((a.n 1:Nat):Int) (.int (m:Int))=true by simp[inR];calc c];calc lK ?_;rw[if_neg (by decide)];left;calc q
abbrev iz:Stmt:=(cf (top 14)).getD 4 (.Pass ⟨0,0,0,0⟩)
theorem uK{K:W.Frag}{mg:Str->Option Value}{B:Addr}{c:Nat->Addr}(l:DX K mg B c){E:XK}{D:Ends}{σ:St}{H:Hp}{i:Nat}{h:V}(j:σ[i]?=some (some h))
  (q:∀a d H',av H H'->H' a=some (XO a (c 4) (some d) false)->H' d=some (XD d [("at",h)])->E (.ref a) none H'):Gr K E (tXI (c 4) (nV c) E0 (wD (tV i) Ck)) D σ H:=by
 show tV i σ H _;unfold tV;rw[j];refine⟨by show 1<=10;decide,λa m=>⟨a,h,true,rfl,af,λd f=>⟨rfl,a,c 4,B,some d,rfl,?_,l.cl 4 (by decide),?_⟩⟩⟩
 ·have k:a≠d:=λz=>by subst z;rw[af] at f;cases f
  rw[ay k,af]
 ·have k:d≠a:=λz=>by subst z;rw[af] at f;cases f
  refine q a d _ (λb o e=>?_) af ?_
  ·have g:b≠a:=au e m;have n:b≠d:=λz=>by subst z;rw[ay g,e] at f;cases f
   rw[ay g,ay n,ay g,ay g];exact e
  ·rw[ay k,af]
def Vp(nt:NT)(r:RS)(m k:Int):Prop:=∃w i:Nat,m=w/\k=i/\w<nt.ws.length/\i<(r.ww w).say.length
def Hz(C CN CR:Addr)(c:Nat->Addr):Sp:=λvs H Q E=>∃(F:Addr->Prop) (x e:Addr) (nt:NT) (r:RS) (ad:Nat->Nat->Addr) (m:Int) (d:V),vs=[.ref x,.int m,d]/\cO C CN CR F H x e nt r ad/\(0<=m/\m<(nt.ws.length:Int)->Q .bD H)/\(¬(0<=m/\m<(nt.ws.length:Int))->∀a b H',av H H'->H' a=some (XO a (c 4) (some b) false)->H' b=some (XD b [("at",d)])->E (.ref a) none H')
theorem sm(D:gL K CR "need_way" "Run.need_way" iz ["self","way","at"])(T:Tx K mg C CN CR F FD)(k:DX K mg B c)(l:Def P w K mg base "is_within" 2 ["thing","low","beyond"] cp)(p:Gj P w K mg base "NoLetter" (c 4) B 1 ["self","at"] (nV c)):ft P w K mg base CR "need_way" 3 ["self","way","at"] (Hz C CN CR c):=by
 have d:aE ["self","way","at"] ["self","way","at"] (az iz):=by walk_at "s"
 refine D.Pf d (λg H Q E h=>?_) (λf v A d s H g Q E e h=>?_)
 ·obtain⟨F,x,t,b,r,ad,m,u,rfl,i,q,j⟩:=h;rfl
 ·nofun;obtain⟨F,x,t,b,r,ad,m,u,rfl,i,q,j⟩:=h;ac_rfl;have d:=e.units;calc⟨_,(ao (aT (bV (bz (aM l e (ag (aq 1) (ag ai (ag (bg aP rfl T.b4 U' (ag (bP (aq 0) rfl) aa)) aa)))))) (ao (xj rfl Bl (Mn p e (ag (aq 2) aa)))) aJ)),?_⟩;obtain⟨g,o,h,s⟩:=i.ins;have e:=(s 4 (by decide) (by decide)).1;left;calc⟨x,CR,g,_,_,rfl,h,T.aZ,T.bL,Dq,_,.inl ⟨_,aR.of e,rfl⟩,?_⟩;calc fS (.int m) _ 0 _ rfl (.int _) ?_;rw[nS];by_cases d:0<=m/\m < ((b.n 4:Nat):Int)
  ·rw[show inR 0 ((b.n 4:Nat):Int) (.int m)=true by simp only[inR];rw[Bool.and_eq_true,decide_eq_true_eq,decide_eq_true_eq];calc d];calc lK ?_;rw[if_neg (by decide)];left;exact q d
  ·rw[show inR 0 ((b.n 4:Nat):Int) (.int m)=false by rw[<-Bool.not_eq_true];simp only[inR];rw[Bool.and_eq_true,decide_eq_true_eq,decide_eq_true_eq];calc d];calc lK ?_;rw[if_pos (by decide)];left;calc uK (D:=⟨λ_ _=>True,λ_ _=>True,λ_ _=>True,λ_ _=>True⟩) k rfl λa g H' b e h=>j d a g H' b e h
abbrev fT:Stmt:=(cf (top 14)).getD 5 (.Pass ⟨0,0,0,0⟩)
theorem fz{a:V}{o:Nat->Addr}(h:f∉(["own_net","picks_done","states_had","words_had","words_said","letters_say","senders","workers"]:List Str)):(Ef a p o).lookup f=none:=by
 simp only[List.mem_cons,List.not_mem_nil,or_false,not_or]at h;unfold Ef;simp[List.lookup,beq_eq_false_iff_ne.mpr h.1,beq_eq_false_iff_ne.mpr h.2.1,beq_eq_false_iff_ne.mpr h.2.2.1,beq_eq_false_iff_ne.mpr h.2.2.2.1,beq_eq_false_iff_ne.mpr h.2.2.2.2.1,beq_eq_false_iff_ne.mpr h.2.2.2.2.2.1,beq_eq_false_iff_ne.mpr h.2.2.2.2.2.2.1,beq_eq_false_iff_ne.mpr h.2.2.2.2.2.2.2]
def yf(C CN CR:Addr)(c:Nat->Addr):Sp:=λvs H Q E=>∃(F:Addr->Prop) (x e:Addr) (nt:NT) (r:RS) (ad:Nat->Nat->Addr) (m k:Int) (d:V),vs=[.ref x,.int m,.int k,d]/\cO C CN CR F H x e nt r ad/\(∀w i:Nat,m=w->k=i->w<nt.ws.length->i<(r.ww w).say.length->Q .bD H)/\(¬Vp nt r m k->∀a b H',av H H'->H' a=some (XO a (c 4) (some b) false)->H' b=some (XD b [("at",d)])->E (.ref a) none H')
theorem nW(D:gL K CR "need_letter" "Run.need_letter" fT ["self","way","number","at"])(T:Tx K mg C CN CR F FD)(L:DX K mg B c)(M:Def P w K mg base "is_within" 2 ["thing","low","beyond"] cp)(N:ft P w K mg base CR "need_way" 3 ["self","way","at"] (Hz C CN CR c))(O:Gj P w K mg base "NoLetter" (c 4) B 1 ["self","at"] (nV c)):ft P w K mg base CR "need_letter" 4 ["self","way","number","at"] (yf C CN CR c):=by
 have n:aE ["self","way","number","at"] ["self","way","number","at"] (az fT):=by walk_at "s"
 refine D.Pf n (λR H Q E h=>?_) (λf Y A n s H R Q E g h=>?_)
 ·obtain⟨F,x,G,p,r,ad,m,k,I,rfl,j,q,u⟩:=h;rfl
 ·nofun;obtain⟨F,x,G,p,r,ad,m,k,I,rfl,j,q,u⟩:=h;ac_rfl;have n:=g.units;refine⟨_,(aj (cj (jS N qJ T.aZ g (aq 0) (ag (aq 1) (ag (aq 3) aa))))
   (ao (aT (bV (bz (aM M g (ag (aq 2) (ag ai (ag (bg aP rfl T.b4 U' (ag (ak n (bP (aq 0) rfl) (aq 1)) aa)) aa)))))) (ao (xj rfl Bl (Mn O g (ag (aq 3) aa)))) aJ))),?_⟩
  obtain⟨l,o,J,g⟩:=j.ins;have S:=(g 4 (by decide) (by decide)).1;left;calc eV J (fz (by decide +kernel)) ?_;calc⟨_,x,G,p,r,ad,m,I,rfl,j,λd=>?_,λU a l H' W v y=>u (λ⟨w,i,e,_,h,_⟩=>U ⟨by lia,by lia⟩) a l H' W v y⟩;nofun;obtain⟨b,rfl⟩:=aaq d.1;have z:b<p.ws.length:=by lia
  obtain⟨g,n,p⟩:=j.cD.lst (t:=4) (i:=b) z rfl;ac_rfl;have j:g.length=(r.ww b).say.length:=by simpa using p.1
  left;calc fR J T.aZ T.bL Dq ?_;left;calc bC S (aY z) ?_;calc bE _ (.inl ⟨_,aR.of n,rfl⟩) ?_;calc fS (.int k) _ 0 _ rfl (.int _) ?_;rw[j];by_cases d:0<=k/\k<(((r.ww b).say.length:Nat):Int)
  ·rw[show inR 0 (((r.ww b).say.length:Nat):Int) (.int k)=true by simp only[inR];rw[Bool.and_eq_true,decide_eq_true_eq,decide_eq_true_eq];calc d];calc lK ?_;rw[if_neg (by decide)];left;obtain⟨i,rfl⟩:=aaq d.1;exact q b i rfl rfl z (by lia)
  ·rw[show inR 0 (((r.ww b).say.length:Nat):Int) (.int k)=false by rw[<-Bool.not_eq_true];simp only[inR];rw[Bool.and_eq_true,decide_eq_true_eq,decide_eq_true_eq];calc d];calc lK ?_;rw[if_pos (by decide)];left;exact uK (D:=⟨λ_ _=>True,λ_ _=>True,λ_ _=>True,λ_ _=>True⟩) L rfl λa l H' X v y=>u (λ⟨w,i,e,g,h,j⟩=>by
    obtain rfl:b=w:=by lia
    calc d ⟨by lia,by lia⟩) a l H' X v y
structure _root_.DD.RS.Vq(nt:NT)(r:RS)(w k:Nat):Prop where
 lt:w<nt.ws.length
 lies:(r.ww w).dy[k]?=some none
 row:(nt.w w).2.2="row"->0<k->∃e,(r.ww w).dy[k-1]?=some (some e)
theorem Aa{n:Nat}{v:V}(h:HD H n v (nh none)):v=.bD:=by
 have h:HD H n v .bD:=h
 cases h;rfl
theorem qS{H:Hp}{n:Nat}{v:V}{e:Int×Int}(h:HD H n v (nh (some e))):∃a,v=.ref a/\H a=some (.tup [.int e.1,.int e.2]):=by
 have h:HD H n v (.tup [.int e.1,.int e.2]):=h
 cases h with
 | @tup n a d _ e l i=>
  obtain⟨u,v,rfl⟩:=ln2 l;have b:=i 0 u _ rfl rfl;have c:=i 1 v _ rfl rfl;obtain rfl:=b.bN;obtain rfl:=c.bN;calc⟨a,rfl,e⟩
theorem BR{H:Hp}{n:Nat}{v:V}{e:Option (Int×Int)}(h:HD H n v (nh e)):HT H 1 v (nh e):=by
 cases e with
 |none=>rw[Aa h];calc .bD
 |some e=>obtain⟨a,rfl,b⟩:=qS h;calc c9 b (.int _) (.int _)
theorem nX{vs:List V}{v:V}(h:1<=vs.length)(e:vs[vs.length-1]?=some v):hJ vs (-1)=some v:=by
 obtain⟨ys,z,rfl⟩:∃ys z,vs=ys++[z]:=⟨vs.dropLast,vs.getLast (by intro a;rw[a]at h;simp at h),(List.dropLast_concat_getLast _).symm⟩
 rw[jz];simpa using e
abbrev gP:Stmt:=(cf (top 14)).getD 6 (.Pass ⟨0,0,0,0⟩)
def MQ(C CN CR:Addr):Sp:=λvs H Q _=>∃(F:Addr->Prop) (x b:Addr) (nt:NT) (r:RS) (ad:Nat->Nat->Addr) (m k:Nat) (a:V),vs=[.ref x,.int m,.int k,a]/\cO C CN CR F H x b nt r ad/\r.Ok nt/\r.Vq nt m k/\∀H',av H H'->Q .bD H'
theorem qr(D:gL K CR "need_pick" "Run.need_pick" gP ["self","way","number","at"])(T:Tx K mg C CN CR F FD)(cW:d7 P w K mg base CN "ways" 1 ["self"] (nR CN))(bo:ft P w K mg base CR "need_letter" 4 ["self","way","number","at"] (yf C CN CR c)):d7 P w K mg base CR "need_pick" 5 ["self","way","number","at"] (MQ C CN CR):=by
 have sc:aE ["self","way","number","at","sort"] ["self","way","number","at"] (az gP):=by walk_at "s"
 symm
 ·obtain⟨F,x,J,n,r,ad,m,k,a,rfl,u,U,z,q⟩:=h;rfl
 ·nofun;obtain⟨F,x,J,n,r,ad,m,k,a,rfl,u,U,z,q⟩:=h;ac_rfl;have b:=hr.units;refine⟨_,(aj (cj (jS bo xC T.aZ hr (aq 0) (ag (aq 1) (ag (aq 2) (ag (aq 3) aa)))))
   (aj (aT (aC oN (ak b (ak b (bP (aq 0) rfl) (aq 1)) (aq 2)) iS (aH _)) (ao dY) aJ)
   (aj (ba (i:=4) sc.nd rfl (by grind) (ak b (ak b (ik cW T.cT hr (bP (aq 0) rfl)) (aq 1)) ai))
   (ao (aT (PW.pt (pw_and (aC (aV b) (aq 4) aD (aH _)) (pw_and (aC oM (aq 2) ai (aH _)) (pw_and1 (aC vn (ak b (ak b (bP (aq 0) rfl) (aq 1)) (aU e9 (aq 2) ai)) iS (aH _)))))) (ao dY) aJ))))),?_⟩
  nofun;obtain⟨dx,o,B,b⟩:=u.ins;obtain⟨⟨ms,g,lv,W,ml,yI,X⟩,aW⟩:=u.Vo;have Y:=(b 6 (by decide) (by decide)).1;have p:=z.lt;obtain⟨v6,Z,d6⟩:=u.cD.lst (t:=6) (i:=m) p rfl;have b:=z.lies;have Bm:k<(r.ww m).dy.length:=(List.getElem?_eq_some_iff.mp b).1;obtain⟨v,ev,dv⟩:=d6.get (i:=k) (d:=nh none) (by rw[List.getElem?_map,b];rfl);have:=Aa dv;subst this;ac_rfl;left;calc eV B (fz (by decide +kernel)) ?_;calc⟨_,x,J,n,r,ad,((m:Nat):Int),((k:Nat):Int),a,rfl,u,λ_ _ _ _ _ _=>?_,λb=>absurd ⟨m,k,rfl,rfl,p,by rw[U.lk m p];calc Bm⟩ b⟩;left;calc fR B T.aZ T.cV Hy ?_;left;calc bC Y (aY p) ?_;calc bC Z (aA ev) ?_;left
  try rw[if_neg (by decide)]
  left;calc fR B T.aZ T.cU se ?_;nofun;obtain⟨u,x,U,c1,b,g2,g3,g4⟩:=id W;ac_rfl;left;calc eV b (eI (by decide +kernel) (by decide +kernel) (by decide +kernel)) ?_;calc fS J ms g lv rfl W (λl u=>?_);have y:=av.new (.lst g) u;have el:upd H l (.lst g) l=some (.lst g):=af;generalize hG:upd H l (.lst g)=G at *;left;have b:n.ws[m]?=some (n.w m):=bt p;have l:m<g.length:=by have:=X.1;simp at this;lia
  have zY:=(X.2 m g[m] (lL (n.w m)) (by simp) (by rw[List.getElem?_map,b];rfl)).aK y.aS;nofun;obtain⟨ta,l,u,x,J,L,ye,q1,q2,q3⟩:=bX zY;obtain rfl:=q1.bN;obtain rfl:=q2.bN;obtain rfl:=q3.bO;ac_rfl;calc bC el (aA (j:=m) (v:=.ref ta) (by rw[<-L];simp)) ?_;calc dR ye (aA (j:=2) rfl) ?_;left;have Dg:=y _ _ B;have M:=y _ _ Y;have N:=y _ _ Z;have O:=q _ y;have b:=z.row;by_cases I:(n.w m).2.2="row"
  ·by_cases g:0 < k
   ·nofun;obtain⟨e,he⟩:=b I g;obtain⟨l,R,S⟩:=d6.get (i:=k - 1) (d:=nh (some e)) (by rw[List.getElem?_map,he];rfl);obtain⟨ae,rfl,b⟩:=qS S;ac_rfl;rw[if_pos (by simp[I]),if_pos (by simp;lia)];calc fR Dg T.aZ T.cV Hy ?_;left;calc bC M (aY p) ?_;calc bC N (show hJ v6 ((k:Int) - 1)=some (.ref ae) from by rw[show(k:Int) - 1=((k - 1:Nat):Int) by lia];calc aA R) ?_;left
    try rw[if_neg (by decide)]
    left;exact O
   ·rw[if_pos (by simp[I]),if_neg (by simp;lia),if_neg (by decide)];left;exact O
  ·rw[if_neg (by simp[I]),if_neg (by decide)];left;calc O
abbrev kK:Stmt:=(cf (top 14)).getD 11 (.Pass ⟨0,0,0,0⟩)
theorem MT{H:Hp}{n:Nat}{v:V}{s:List Int×List Int}(h:HD H n v (rR s)):HT H 2 v (yE s.1 s.2):=by
 have h:HD H n v (.tup [.tup (s.1.map .int),.tup (s.2.map .int)]):=h
 cases h with
 | @tup n a c _ e l i=>
  obtain⟨u,v,rfl⟩:=ln2 l;have d:=i 0 u _ rfl rfl;have f:=i 1 v _ rfl rfl;have b:∀{n:Nat} {u:V} {ns:List Int},HD H n u (.tup (ns.map .int))->HT H 1 u (.tup (ns.map .int)):=λ{n u ns} h=>by
   cases h with
   | @tup n a c _ e l i=>exact nI (n:=0) (by rw[e,show c=ns.map V.int from dP.ko ⟨l,i⟩])
  calc c9 e (b d) (b f)
def MU(C CN CR:Addr):Sp:=λvs H Q _=>∃(F:Addr->Prop) (x a:Addr) (nt:NT) (r:RS) (ad:Nat->Nat->Addr) (m:Nat),vs=[.ref x,.int m]/\cO C CN CR F H x a nt r ad/\r.Ok nt/\m<nt.ms.length/\∀v,HT H 2 v (yE ((r.mm m).gC.bI ([],[])).1 ((r.mm m).gC.bI ([],[])).2)->Q v H
theorem yg(D:gL K CR "state" "Run.state" kK ["self","m"])(T:Tx K mg C CN CR F FD)(k:d7 P w K mg base CR "need_machine" 3 ["self","m"] (MP C CN CR)):d7 P w K mg base CR "state" 4 ["self","m"] (MU C CN CR):=by
 have sc:aE ["self","m"] ["self","m"] (az kK):=by walk_at "s"
 symm
 ·obtain⟨F,x,c,e,r,ad,m,rfl,b,g,a,q⟩:=h;rfl
 ·nofun;obtain⟨F,x,c,e,r,ad,m,rfl,b,g,a,q⟩:=h;ac_rfl;have j:=hr.units;refine⟨_,(aj (cj (jB k T.aZ hr (aq 0) (ag (aq 1) aa)))
   (ao (aI (ak j (ak j (bP (aq 0) rfl) (aq 1)) (ki ig ai))))),?_⟩
  nofun;obtain⟨k,o,j,l⟩:=b.ins;have n:=(l 1 (by decide) (by decide)).1;obtain⟨p,u,k⟩:=b.cD.lst (t:=1) (i:=m) a rfl;have l:p.length=(r.mm m).gC.length:=by simpa using k.1
  have p:=g.zD a;obtain⟨v,y,z⟩:=k.get (i:=(r.mm m).gC.length-1) (d:=rR ((r.mm m).gC.bI ([],[]))) (by rw[List.getElem?_map,nK (d:=([],[])) p];rfl);ac_rfl;left;calc eV j (fz (by decide +kernel)) ?_;calc⟨_,x,c,e,r,ad,m,rfl,b,a,?_⟩;left;calc fR j T.aZ T.cm Lg ?_;left;calc bC n (aY a) ?_;calc bC u (nX (by lia) (by rw[l];calc y)) ?_;calc q _ (MT (z.cv eA))
abbrev iA:Stmt:=(cf (top 14)).getD 14 (.Pass ⟨0,0,0,0⟩)
def MV(C CN CR:Addr):Sp:=λvs H Q _=>∃(F:Addr->Prop) (x a:Addr) (nt:NT) (r:RS) (ad:Nat->Nat->Addr) (m:Nat),vs=[.ref x,.int m]/\cO C CN CR F H x a nt r ad/\m<nt.ws.length/\Q (.int ((r.ww m).say.length:Nat)) H
theorem sr(D:gL K CR "put_many" "Run.put_many" iA ["self","way"])(T:Tx K mg C CN CR F FD)(g:ft P w K mg base CR "need_way" 3 ["self","way","at"] (Hz C CN CR c)):d7 P w K mg base CR "put_many" 4 ["self","way"] (MV C CN CR):=by
 have sc:aE ["self","way"] ["self","way"] (az iA):=by walk_at "s"
 symm
 ·obtain⟨F,x,d,e,r,ad,m,rfl,a,b,q⟩:=h;rfl
 ·nofun;obtain⟨F,x,d,e,r,ad,m,rfl,a,b,q⟩:=h;ac_rfl;have j:=hr.units;refine⟨_,(aj (cj (jS g xC T.aZ hr (aq 0) (ag (aq 1) (ag ai aa))))
   (ao (aI (bg aP rfl T.b4 U' (ag (ak j (bP (aq 0) rfl) (aq 1)) aa))))),?_⟩
  nofun;obtain⟨k,o,g,j⟩:=a.ins;have k:=(j 4 (by decide) (by decide)).1;obtain⟨l,n,p⟩:=a.cD.lst (t:=4) (i:=m) b rfl;ac_rfl;have j:l.length=(r.ww m).say.length:=by simpa using p.1
  left;calc eV g (fz (by decide +kernel)) ?_;calc⟨_,x,d,e,r,ad,((m:Nat):Int),_,rfl,a,λ_=>?_,λa=>absurd ⟨by lia,by lia⟩ a⟩;left;calc fR g T.aZ T.bL Dq ?_;left;calc bC k (aY b) ?_;calc bE _ (.inl ⟨_,aR.of n,rfl⟩) ?_;rw[j];calc q
abbrev mF:Stmt:=(cf (top 14)).getD 16 (.Pass ⟨0,0,0,0⟩)
def vT(C CN CR:Addr)(c:Nat->Addr):Sp:=λvs H Q E=>∃(F:Addr->Prop) (x d:Addr) (nt:NT) (r:RS) (ad:Nat->Nat->Addr) (m k:Int),vs=[.ref x,.int m,.int k]/\cO C CN CR F H x d nt r ad/\(∀w i:Nat,m=w->k=i->w<nt.ws.length->i<(r.ww w).say.length->Q (.int ((r.ww w).say.getD i 0)) H)/\(¬Vp nt r m k->∀a b H',av H H'->H' a=some (XO a (c 4) (some b) false)->H' b=some (XD b [("at",.int 0)])->E (.ref a) none H')
theorem Ab(D:gL K CR "said" "Run.said" mF ["self","way","number"])(T:Tx K mg C CN CR F FD)(s:DX K mg B c)(M:ft P w K mg base CR "need_letter" 4 ["self","way","number","at"] (yf C CN CR c)):ft P w K mg base CR "said" 5 ["self","way","number"] (vT C CN CR c):=by
 have e:aE ["self","way","number"] ["self","way","number"] (az mF):=by walk_at "s"
 refine D.Pf e (λN H Q E h=>?_) (λf Z A e s H N Q E u h=>?_)
 ·obtain⟨F,x,y,z,r,ad,m,k,rfl,b,q,G⟩:=h;rfl
 ·nofun;obtain⟨F,x,y,z,r,ad,m,k,rfl,b,q,G⟩:=h;ac_rfl;have e:=u.units;refine⟨_,(aj (cj (jS M qJ T.aZ u (aq 0) (ag (aq 1) (ag (aq 2) (ag ai aa)))))
   (ao (aI (ak e (ak e (bP (aq 0) rfl) (aq 1)) (aq 2))))),?_⟩
  obtain⟨I,o,J,O⟩:=b.ins;left;calc eV J (fz (by decide +kernel)) ?_;calc⟨_,x,y,z,r,ad,m,k,_,rfl,b,λg i l n p L=>?_,λR a I H' S l n=>G R a I H' S l n⟩;subst l n;left;have U:=(O 4 (by decide) (by decide)).1;nofun;obtain⟨e,W,X⟩:=b.cD.lst (t:=4) (i:=g) p rfl;have Y:=X.ko;subst Y;ac_rfl;calc fR J T.aZ T.bL Dq ?_;left;calc bC U (aY p) ?_;calc bC W (aA (j:=i) (v:=.int ((r.ww g).say.getD i 0)) (by rw[List.getElem?_map,bt (d:=0) L];rfl)) ?_;calc q g i rfl rfl p L
theorem su{w:Nat}:∀{l:List Nat},w∈l->l[l.idxOf w]?=some w/\∀i y,i<l.idxOf w->l[i]?=some y->y≠w
 | [],h=>by simp at h
 |a::r,h=>by
  by_cases e:a=w
  ·subst e;rw[List.idxOf_cons_self];exact⟨rfl,λi y c=>absurd c (aao i)⟩
  ·have hr:w∈r:=by
    rcases List.mem_cons.mp h with h|h
    ·exact absurd h.symm e
    ·exact h
   obtain⟨d,g⟩:=su hr;have j:(a::r).idxOf w=r.idxOf w+1:=by rw[List.idxOf_cons,beq_eq_false_iff_ne.mpr e];rfl
   rw[j];refine⟨by simpa using d,λi y c b=>?_⟩
   cases i with
   |zero=>simp at b;subst b;calc e
   |succ i=>calc g i y (by lia) (by simpa using b)
theorem BS{n k:Nat}(h:k<n):p6 n (k:Int)=some k:=by
 unfold p6;rw[if_pos (by lia),if_pos (by lia)];simp
theorem qT{nt:NT}(h:nt.Ok){w:Nat}(a:w<nt.ws.length):(nt.w w).2.1=((nt.goal w:Nat):Int):=by
 have:=h.wy a;unfold NT.goal;lia
theorem HB{nt:NT}(h:nt.Ok){w:Nat}(a:w<nt.ws.length):w∈sf nt 1 (nt.goal w):=by
 unfold sf;rw[List.mem_filter];calc⟨List.mem_range.mpr a,?_⟩;rw[decide_eq_true_eq];calc qT h a
theorem nY{nt:NT}(h:nt.Ok){w:Nat}(a:w<nt.ws.length):(sf nt 1 (nt.goal w)).idxOf w=nt.place w:=by
 unfold NT.place;rw[qT h a];rfl
theorem uL{l:List Nat}:(l.map λi=>V.int (i:Nat))=(l.map λi=>((i:Nat):Int)).map V.int:=by simp[List.map_map]
theorem Lh{r:RS}{n:NT}{w k:Nat}:∀t i,i<n.n t->setC (setC (setC (setC (setC r.ct 0 0 (.l (r.picks.map pairD++[pairD ((w:Int),(k:Int))]))) 6 w (.l (((r.ww w).dy.map nh).set k (nh (some (n.ev r w)))))) 1 (n.goal w) (.l ((r.mm (n.goal w)).gC.map rR++[rR ((n.work r w k).ns,(n.work r w k).row)]))) 3 (n.goal w) (.l (((r.mm (n.goal w)).wp.bI []).map .int++(n.work r w k).words.map .int))) 2 (n.goal w) (.l (((r.mm (n.goal w)).wp.map λu=>DV.int (u.length:Nat))++[.int ((((r.mm (n.goal w)).wp.bI []++(n.work r w k).words).length:Nat))])) t i=(r.step n w k).ct t i:=by
 intro t i a;unfold setC
 match t,a with
 |0,a=>
  have:i=0:=by have:i<1:=a;lia
  subst this;simp[RS.ct,RS.step]
 |1,_=>by_cases e:i=n.goal w<;>simp[RS.ct,RS.step,e]
 |2,_=>by_cases e:i=n.goal w<;>simp[RS.ct,RS.step,e]
 |3,_=>by_cases e:i=n.goal w<;>simp[RS.ct,RS.step,e,rQ]
 |4,_=>by_cases e:i=w<;>simp[RS.ct,RS.step,e]
 |5,_=>by_cases e:i=w<;>simp[RS.ct,RS.step,e]
 |6,_=>by_cases e:i=w<;>simp[RS.ct,RS.step,e,List.map_set]
 |(t+7),a=>calc absurd a (aao i)
theorem BU{nt:NT}(d:nt.Ok)(h:r.Ok nt){w k:Nat}(f:w<nt.ws.length):∀a c,some (nt.ev r w)=some (a,c)->0<=a/\a<nt.ms.length/\1<=c/\c<=((r.step nt w k).mm a.toNat).hr.length:=by
 have b:=d.iO f;intro a c e
 cases e;refine⟨by lia,by lia,?_,?_⟩
 ·have:=h.zD b;lia
 ·have d:(r.step nt w k).mm (nt.goal w)=⟨(r.mm (nt.goal w)).gC++[((nt.work r w k).ns,(nt.work r w k).row)],(r.mm (nt.goal w)).wp++[(r.mm (nt.goal w)).wp.bI []++(nt.work r w k).words],(r.mm (nt.goal w)).hr++[nt.hV r w k]⟩:=if_pos rfl;rw[show((nt.goal w:Nat):Int).toNat=nt.goal w from Int.toNat_natCast _,d,h.lh _ b];simp
theorem pB{outs:List Nat}{ev:Int×Int}:∀(a:List (Int×Int)) {r:RS}{p:Int×Int},r.send outs ev (a++[p])=(r.send outs ev a).send outs ev [p]
 | [],r,p=>rfl
 |q::a,r,p=>pB a
abbrev i9:Stmt:=(cf (top 14)).getD 7 (.Pass ⟨0,0,0,0⟩)
inductive HC(C CN CR:Addr)(vs:List V)(H:Hp)(Q:VK):Prop
 |mk (F:Addr->Prop) (x bH:Addr) (nt:NT) (r:RS) (ad:Nat->Nat->Addr) (wy k:Nat) (a:V) (h0:vs=[.ref x,.int (wy:Nat),.int (k:Nat),a]) (h1:cO C CN CR F H x bH nt r ad) (h2:FS F H) (h3:r.Ok nt) (h4:r.Vq nt wy k) (h5:r.picks.length<=400) (h6:∀t H',Fr (FP nt.n ad) H H'->cO C CN CR F H' x bH nt (r.pick nt wy k) ad->HT H' 1 t (pairD (nt.ev r wy))->Q t H'):HC C CN CR vs H Q
def BV(C CN CR:Addr):Sp:=λvs H Q _=>HC C CN CR vs H Q
theorem tH(D:gL K CR "pick_at" "Run.pick_at" i9 ["self","way","number","at"])(T:Tx K mg C CN CR F FD)(gr:d7 P w K mg base C "worked" 3 ["self","state","way","said"] (uH K C))(cI:d7 P w K mg base CN "machines" 1 ["self"] (jY CN))(cW:d7 P w K mg base CN "ways" 1 ["self"] (nR CN))(ja:d7 P w K mg base CN "ways_in" 4 ["self","m"] (si C CN))(iB:d7 P w K mg base CN "ways_out" 4 ["self","m"] (p9 C CN))(gQ:d7 P w K mg base CR "need_pick" 5 ["self","way","number","at"] (MQ C CN CR))(cQ:d7 P w K mg base CR "put_letter" 1 ["self","way","said","sender"] (sk C CN CR))(kL:d7 P w K mg base CR "state" 4 ["self","m"] (MU C CN CR)):d7 P w K mg base CR "pick_at" 6 ["self","way","number","at"] (BV C CN CR):=by
 have sc:aE ["self","way","number","at","m","place","machine","state","sent","words","event","ways_out","j","said"] ["self","way","number","at"] (az i9):=by walk_at "s"
 symm
 ·obtain⟨F,x,N,g,r,ad,m,k,a,rfl,I,lD,J,hc,O,q⟩:=h;rfl
 ·nofun;obtain⟨F,x,N,g,r,ad,m,k,a,rfl,I,lD,J,hc,O,q⟩:=h;ac_rfl;have O:=hr.units;refine⟨_,(aj (cj (jB gQ T.aZ hr (aq 0) (ag (aq 1) (ag (aq 2) (ag (aq 3) aa)))))
   (aj (ba (i:=4) sc.nd rfl (by grind) (ak O (ak O (ik cW T.cT hr (bP (aq 0) rfl)) (aq 1)) ai))
   (aj (ba (i:=5) sc.nd rfl (by grind) (dD oj PySem.F.slot_list_index PySem.F.type_list_index uy (jB ja T.cT hr (bP (aq 0) rfl) (ag (aq 4) aa)) (ag (aq 1) aa)))
   (aj (ba (i:=6) sc.nd rfl (by grind) (ak O (ik cI T.cT hr (bP (aq 0) rfl)) (aq 4)))
   (aj (fG (jB gr T.cN hr (aq 6) (ag (jB kL T.aZ hr (aq 0) (ag (aq 4) aa)) (ag (aq 5) (ag (ak O (ak O (bP (aq 0) rfl) (aq 1)) (aq 2)) aa)))) (xu (i:=7) (j:=8) (l:=9) rfl sc.nd rfl rfl rfl (by grind) (by grind) (by grind)))
   (aj (ba (i:=10) sc.nd rfl (by grind) (bQ (ag (aq 4) (ag (bg aP rfl T.b4 U' (ag (ak O (bP (aq 0) rfl) (aq 4)) aa)) aa))))
   (aj (cj (dD oj qA qB ck (bP (aq 0) rfl) (ag (bQ (ag (aq 1) (ag (aq 2) aa))) aa)))
   (aj (fG (aq 10) (iT (ak O (bP (aq 0) rfl) (aq 1)) (aq 2) d9))
   (aj (cj (dD oj qA qB ck (ak O (bP (aq 0) rfl) (aq 4)) (ag (aq 7) aa)))
   (aj (cj (dD oj PySem.F.slot_list_extend PySem.F.type_list_extend Kh (ak O (bP (aq 0) rfl) (aq 4)) (ag (aq 9) aa)))
   (aj (cj (dD oj qA qB ck (ak O (bP (aq 0) rfl) (aq 4)) (ag (bg aP rfl T.b4 U' (ag (ak O (bP (aq 0) rfl) (aq 4)) aa)) aa)))
   (aj (ba (i:=11) sc.nd rfl (by grind) (jB iB T.cT hr (bP (aq 0) rfl) (ag (aq 4) aa)))
   (aj (fH PassesOwn.never rfl (cu (pv 8)) (iV (i:=12) (j:=13) rfl sc.nd rfl rfl (by grind) (by grind))
   (ao (aT (aC gK (aq 12) (bg aP rfl T.b4 U' (ag (aq 11) aa)) (aH _)) (ao (cj (jB cQ T.aZ hr (aq 0) (ag (ak O (aq 11) (aq 12)) (ag (aq 13) (ag (aq 10) aa)))))) aJ)))
   (ao (aI (aq 10)))))))))))))))),?_⟩
  nofun;obtain⟨O,o,L,ho⟩:=I.ins;have hn:=I.Vo;have U:=hn.ok;have G:=hc.lt;have B:=U.iO G;obtain⟨⟨ms,Y,lv,hf,O,yI,MR⟩,_⟩:=id hn;obtain⟨O,a1,b1,c1,g1,g2,g3,g4⟩:=id hf;obtain⟨O,wk2,wk3,wk4⟩:=qM U J G k;ac_rfl;left;calc eV L (fz (by decide +kernel)) ?_;calc⟨_,x,N,g,r,ad,m,k,a,rfl,I,J,hc,λH1 O=>?_⟩;left;calc fR (O _ _ L) T.aZ T.cU se ?_;left;calc eV (O _ _ g1) (eI (by decide +kernel) (by decide +kernel) (by decide +kernel)) ?_;calc fS N ms Y lv rfl (hf.same O) (λl hl=>?_);have s2:av H (upd H1 l (.lst Y)):=O.trans (av.new _ hl);have el:upd H1 l (.lst Y) l=some (.lst Y):=af;nofun;generalize MC:upd H1 l (.lst Y)=H2 at *;have O:g.ws[m]?=some (g.w m):=bt G;have f6:m<Y.length:=by have:=MR.1;simp at this;lia
  have zY:=(MR.2 m Y[m] (lL (g.w m)) (by simp) (by rw[List.getElem?_map,O];rfl)).aK s2.aS;obtain⟨ta,u1,u2,u3,kk,eta,ye,q1,q2,q3⟩:=bX zY;obtain rfl:=q1.bN;obtain rfl:=q2.bN;obtain rfl:=q3.bO;ac_rfl;left;calc bC el (aA (j:=m) (v:=.ref ta) (by rw[<-eta];simp)) ?_;calc dR ye (show hJ _ 1=some (.int ((g.goal m:Nat):Int)) from by rw[<-qT U G];calc aA (j:=1) rfl) ?_;left;calc fR (s2 _ _ L) T.aZ T.cU se ?_;left;calc eV (s2 _ _ g1) (eI (by decide +kernel) (by decide +kernel) (by decide +kernel)) ?_;calc⟨N,g,g.goal m,rfl,hn.fr (Z:=λ_=>False) s2.fr,B,λl2 H3 XW fl2 O=>?_⟩;have s3:=s2.trans XW;calc⟨.inl ⟨rfl,_,aR.of O⟩,?_⟩;obtain⟨ix1,ix2⟩:=su (HB U G);refine⟨l2,_,g.place m,m,rfl,rfl,by rw[O,uL],?_,?_,?_⟩
  ·rw[List.getElem?_map,<-nY U G,ix1];rfl
  ·intro i y hi hy;rw[List.getElem?_map]at hy;nofun;obtain⟨z,hz,rfl⟩:=Option.map_eq_some_iff.mp hy;ac_rfl;have:=ix2 i z (by rw[nY U G];calc hi) hz;lia
  left;calc fR (s3 _ _ L) T.aZ T.cU se ?_;left;calc eV (s3 _ _ g1) (eI (by decide +kernel) (by decide +kernel) (by decide +kernel)) ?_;calc fS N ms Y lv rfl (hf.same s3) (λl4 y=>?_);have W:av H (upd H3 l4 (.lst (ms.map V.ref))):=s3.trans (av.new _ y);have el4:upd H3 l4 (.lst (ms.map V.ref)) l4=some (.lst (ms.map V.ref)):=af;generalize XX:upd H3 l4 (.lst (ms.map V.ref))=H4 at *;have zU:g.goal m<ms.length:=by lia
  have y:g.ms[g.goal m]?=some (g.ms.getD (g.goal m) default):=bt B;have BW:=(yI (g.goal m) ms[g.goal m] _ (cE zU) y).same W;have FO:=U.gd B;left;calc bC el4 (aA (j:=g.goal m) (v:=.ref ms[g.goal m]) (by rw[List.getElem?_map,cE zU];rfl)) ?_;left;nofun;generalize ms[g.goal m]=mch at *;obtain⟨dm,y,O,Y,hm2,hm3⟩:=id BW;ac_rfl;calc eV Y (BC (by decide +kernel) (by decide +kernel) (by decide +kernel)) ?_;calc eV (W _ _ L) (fz (by decide +kernel)) ?_;calc⟨_,x,N,g,r,ad,g.goal m,rfl,I.same W,J,B,λsv RA=>?_⟩;have l4':=W _ _ (ho 4 (by decide) (by decide)).1;nofun;obtain⟨y,e4,d4⟩:=(I.cD.same W).lst (t:=4) (i:=m) G rfl;have z4:=d4.ko;subst z4;ac_rfl;have Bm:k<(r.ww m).say.length:=by rw[J.lk m G];exact(List.getElem?_eq_some_iff.mp hc.lies).1
  left;calc fR (W _ _ L) T.aZ T.bL Dq ?_;left;calc bC l4' (aY G) ?_;calc bC e4 (aA (j:=k) (v:=.int ((r.ww m).say.getD k 0)) (by rw[List.getElem?_map,bt (d:=0) Bm];rfl)) ?_;have y:=J.last B;calc⟨mch,sv,_,_,_,_,_,_,_,_,rfl,BW,xm.of RA,FO.m2,FO.Z6,y.bn,y.lr,FO.XM,by rw[y.ln];calc FO.ok,λO M MW Qm=>?_⟩;have s5:=W.trans MW;nofun;obtain⟨rp,Ac,RB,MX,zs,rfl,y,Ad,Qn,ni,Ae,fl1,aa4,O⟩:=Qm.ex
  replace Ad:HT M 2 Ac (yE (g.work r m k).ns (g.work r m k).row):=Ad
  replace ni:SL M zs (g.work r m k).cb:=ni
  replace Ae:M MX=some (.lst ((g.work r m k).words.map V.int)):=Ae
  ac_rfl;calc un3 (bM.of y) ?_;left;calc fR (s5 _ _ L) T.aZ T.cm Lg ?_;have b5:=I.cD.same s5;have i0:0<g.n 0:=by show 0<1;decide
  obtain⟨y,O,d1⟩:=b5.lst (t:=1) (i:=g.goal m) B rfl;have Y:y.length=(r.mm (g.goal m)).gC.length:=by simpa using d1.1
  left;calc bC (s5 _ _ (ho 1 (by decide) (by decide)).1) (aY B) ?_;calc hX _ (.inl ⟨_,aR.of O,rfl⟩) dq (λev y=>?_);rw[Y];have s6:av H (upd M ev (.tup [.int ((g.goal m:Nat):Int),.int (((r.mm (g.goal m)).gC.length:Nat):Int)])):=s5.trans (av.new _ y);have XZ:av M (upd M ev (.tup [.int ((g.goal m:Nat):Int),.int (((r.mm (g.goal m)).gC.length:Nat):Int)])):=av.new _ y;have aa6:HT (upd M ev (.tup [.int ((g.goal m:Nat):Int),.int (((r.mm (g.goal m)).gC.length:Nat):Int)])) 1 (.ref ev) (pairD (g.ev r m)):=c9 (n:=0) af (.int _) (.int _);generalize PR:upd M ev (.tup [.int ((g.goal m:Nat):Int),.int (((r.mm (g.goal m)).gC.length:Nat):Int)])=H6 at *;have b6:=I.cD.same s6;left;calc fR (s6 _ _ L) T.aZ T.dz aaT ?_;obtain⟨v0,e0,d0⟩:=b6.lst (t:=0) (i:=0) i0 rfl;have y:v0.length=r.picks.length:=by simpa using d0.1
  left;calc gN (.inl ⟨rfl,_,aR.of e0⟩) dq (λtp y=>?_);left;have s7:av H (upd H6 tp (.tup [.int ((m:Nat):Int),.int ((k:Nat):Int)])):=s6.trans (av.new _ y);have vR:av H6 (upd H6 tp (.tup [.int ((m:Nat):Int),.int ((k:Nat):Int)])):=av.new _ y;have aa7:HT (upd H6 tp (.tup [.int ((m:Nat):Int),.int ((k:Nat):Int)])) 1 (.ref tp) (pairD ((m:Int),(k:Int))):=c9 (n:=0) af (.int _) (.int _);generalize X0:upd H6 tp (.tup [.int ((m:Nat):Int),.int ((k:Nat):Int)])=H7 at *;have b7:=I.cD.same s7;have y:FS F H7:=lD.fr (Z:=λ_=>False) s7.fr (λ_ _ h=>h);have RC:=vR _ _ e0;calc hX v0 RC (small (by lia)) ?_;have b8:=b7.app (t:=0) (i:=0) i0 rfl RC (dP.one ((b7.ht y aa7).mono (by decide)));have f8:Fr (FP g.n ad) H (upd H7 (ad 0 0) (.lst (v0++[.ref tp]))):=s7.fr.upd ⟨0,0,i0,rfl⟩ RC trivial;generalize X1:upd H7 (ad 0 0) (.lst (v0++[.ref tp]))=X at *;have y:=f8.lJ L id;have O:=ho 6 (by decide) (by decide);have o1:=ho 1 (by decide) (by decide);have o2:=ho 2 (by decide) (by decide);have o3:=ho 3 (by decide) (by decide);left;calc fR y T.aZ T.cV Hy ?_;obtain⟨v6,e6,d6⟩:=b8.lst (t:=6) (i:=m) G rfl;have Y:v6.length=(r.ww m).dy.length:=by simpa using d6.1
  have y:k<v6.length:=by rw[Y,<-J.lk m G];exact Bm
  left;calc bC (f8.at O.1 O.2.2) (aY G) ?_;left;calc cF v6 k e6 (BS y) ?_;have FS8:FS F X:=lD.fr f8 I.cD.sj;have Vs:HT X 1 (.ref ev) (pairD (g.ev r m)):=(aa6.aK vR.aS).aK (show bS H7 X from by rw[<-X1];calc(bS.refl _).upd λxs e=>by rw[RC]at e;cases e);have b9:=b8.set (t:=6) (i:=m) G rfl e6 (k:=k) ((b8.ht FS8 Vs).mono (by decide));have f9:Fr (FP g.n ad) H (upd X (ad 6 m) (.lst (v6.set k (.ref ev)))):=f8.upd ⟨6,m,G,rfl⟩ e6 trivial;have t89:bS X (upd X (ad 6 m) (.lst (v6.set k (.ref ev)))):=(bS.refl _).upd λxs e=>by rw[e6]at e;cases e
  generalize hG9:upd X (ad 6 m) (.lst (v6.set k (.ref ev)))=H9 at *;have FS9:FS F H9:=lD.fr f9 I.cD.sj;left;calc fR (f9.lJ L id) T.aZ T.cm Lg ?_;obtain⟨Vt,RD,d19⟩:=b9.lst (t:=1) (i:=g.goal m) B rfl;have y:Vt.length=(r.mm (g.goal m)).gC.length:=by simpa using d19.1
  have y:=J.bp _ B;left;calc bC (f9.at o1.1 o1.2.2) (aY B) ?_;calc⟨.inl ⟨rfl,_,aR.of RD⟩,?_⟩;left;calc hX Vt RD (small (by lia)) ?_;have t58:bS M X:=λb xs e=>by
   have h7:=vR _ _ (XZ _ _ e);rw[<-X1,ay (λz=>by rw[z,RC]at h7;cases h7)];exact h7
  have y:HT H9 2 Ac (yE (g.work r m k).ns (g.work r m k).row):=(Ad.aK t58).aK t89;have b10:=b9.app (t:=1) (i:=g.goal m) B rfl RD (dP.one (show HD _ 4 Ac (rR ((g.work r m k).ns,(g.work r m k).row)) from(b9.ht FS9 y).mono (by decide)));have Qo:Fr (FP g.n ad) H (upd H9 (ad 1 (g.goal m)) (.lst (Vt++[Ac]))):=f9.upd ⟨1,g.goal m,B,rfl⟩ RD trivial;have HE:¬FP g.n ad RB:=λz=>by
   obtain⟨u,e,_⟩:=(I.cD.same W).fp z;rw[fl1]at e;cases e
  have Qp:¬FP g.n ad MX:=λz=>by
   obtain⟨u,e,_⟩:=(I.cD.same W).fp z;rw[aa4]at e;cases e
  have y:Fr (FP g.n ad) M X:=by
   rw[<-X1];exact(XZ.trans vR).fr.upd ⟨0,0,i0,rfl⟩ RC trivial
  have f59:Fr (FP g.n ad) M H9:=by
   rw[<-hG9];exact y.upd ⟨6,m,G,rfl⟩ e6 trivial
  have Vu:Fr (FP g.n ad) M (upd H9 (ad 1 (g.goal m)) (.lst (Vt++[Ac]))):=f59.upd ⟨1,g.goal m,B,rfl⟩ RD trivial;generalize Vv:upd H9 (ad 1 (g.goal m)) (.lst (Vt++[Ac]))=yH at *;left;calc fR (Qo.lJ L id) T.aZ T.cP Vm ?_;obtain⟨v3,e3,d3⟩:=b10.lst (t:=3) (i:=g.goal m) B rfl;have y:=d3.ko;have O:=J.bw _ B _ (ib (l:=(r.mm (g.goal m)).wp) (d:=[]) (by rw[<-J.lw _ B];calc J.zD B));have l:v3.length=((r.mm (g.goal m)).wp.bI []).length:=by rw[y];simp
  left;calc bC (Qo.at o3.1 o3.2.2) (aY B) ?_;calc⟨.inl ⟨rfl,_,aR.of e3⟩,?_⟩;left;calc sZ v3 _ e3 (Vu.at Ae Qp) (P' (small (by simp;lia))) ?_;have MY:=b10.app (t:=3) (i:=g.goal m) B rfl e3 (dP.ints (g.work r m k).words);have Af:Fr (FP g.n ad) H (upd yH (ad 3 (g.goal m)) (.lst (v3++(g.work r m k).words.map V.int))):=Qo.upd ⟨3,g.goal m,B,rfl⟩ e3 trivial;have abb:Fr (FP g.n ad) M (upd yH (ad 3 (g.goal m)) (.lst (v3++(g.work r m k).words.map V.int))):=Vu.upd ⟨3,g.goal m,B,rfl⟩ e3 trivial;have abc:upd yH (ad 3 (g.goal m)) (.lst (v3++(g.work r m k).words.map V.int)) (ad 3 (g.goal m))=some (.lst (v3++(g.work r m k).words.map V.int)):=af;generalize Vw:upd yH (ad 3 (g.goal m)) (.lst (v3++(g.work r m k).words.map V.int))=Dr at *;left;calc fR (Af.lJ L id) T.aZ T.dW aaU ?_;obtain⟨v2,e2,d2⟩:=MY.lst (t:=2) (i:=g.goal m) B rfl;have l:v2.length=(r.mm (g.goal m)).wp.length:=by simpa using d2.1
  have l:=J.lw _ B;left;calc bC (Af.at o2.1 o2.2.2) (aY B) ?_;calc⟨.inl ⟨rfl,_,aR.of e2⟩,?_⟩;left;calc fR (Af.lJ L id) T.aZ T.cP Vm ?_;left;calc bC (Af.at o3.1 o3.2.2) (aY B) ?_;calc bE _ (.inl ⟨_,aR.of abc,rfl⟩) ?_;left;calc hX v2 e2 (small (by lia)) ?_;have l:((v3++(g.work r m k).words.map V.int).length)=((r.mm (g.goal m)).wp.bI []++(g.work r m k).words).length:=by simp;lia
  rw[l];have Qq:=MY.app (t:=2) (i:=g.goal m) B rfl e2 (dP.one (.int (((r.mm (g.goal m)).wp.bI []++(g.work r m k).words).length:Nat)));have Jw:Fr (FP g.n ad) H (upd Dr (ad 2 (g.goal m)) (.lst (v2++[.int (((r.mm (g.goal m)).wp.bI []++(g.work r m k).words).length:Nat)]))):=Af.upd ⟨2,g.goal m,B,rfl⟩ e2 trivial;have Vx:Fr (FP g.n ad) M (upd Dr (ad 2 (g.goal m)) (.lst (v2++[.int (((r.mm (g.goal m)).wp.bI []++(g.work r m k).words).length:Nat)]))):=abb.upd ⟨2,g.goal m,B,rfl⟩ e2 trivial;generalize Vy:upd Dr (ad 2 (g.goal m)) (.lst (v2++[.int (((r.mm (g.goal m)).wp.bI []++(g.work r m k).words).length:Nat)]))=Eg at *;have Vz:cO C CN CR F Eg x N g (r.step g m k) ad:=I.own Jw (Qq.congr Lh);have VA:SL Eg zs (g.work r m k).cb:=ni.aK Vx.aS;have nN:=Vx.at Qn HE;have VB:HT Eg 1 (.ref ev) (pairD (g.ev r m)):=by
   have h9:=Vs.aK t89;have abe:bS H9 Eg:=λb xs e=>by
    have n1:b≠ad 1 (g.goal m):=λz=>by rw[z,RD]at e;cases e
    have K2:yH b=some (.tup xs):=by rw[<-Vv,ay n1];exact e
    have n2:b≠ad 3 (g.goal m):=λz=>by rw[z,e3]at K2;cases K2
    have PY:Dr b=some (.tup xs):=by rw[<-Vw,ay n2];exact K2
    have n3:b≠ad 2 (g.goal m):=λz=>by rw[z,e2]at PY;cases PY
    rw[<-Vy,ay n3];exact PY
   exact h9.aK abe
  clear b5 b6 b7 b8 b9 b10 MY Qq d0 d1 d2 d3 d4 d6 d19;left;calc fR (Jw.lJ L id) T.aZ T.cU se ?_;left;calc eV (Jw.lJ g1 id) (eI (by decide +kernel) (by decide +kernel) (by decide +kernel)) ?_;calc⟨N,g,g.goal m,rfl,hn.fr Jw,B,λlo Li pq flo elo=>?_⟩;have nlo:¬FP g.n ad lo:=λz=>by
   obtain⟨u,e,_⟩:=Vz.cD.fp z;rw[flo]at e;cases e
  left;have l:=Vz.same pq;have u:=pq _ _ nN;have MZ:=VB.aK pq.aS;have M0:=VA.aK pq.aS;have VD:zs.length=(g.work r m k).cb.length:=M0.1;have Lj:=Jw.trans pq.fr;have Qr:=J.step U G (k:=k);have Qs:∀a c,some (g.ev r m)=some (a,c)->0<=a/\a<g.ms.length/\1<=c/\c<=((r.step g m k).mm a.toNat).hr.length:=BU U J G;refine⟨_,rfl,.inl ⟨⟨_,aR.of u⟩,jv (K:=K) (xs:=zs) (λi σ H'=>(∃Qt Qu,σ=[some (V.ref x),some (V.int ((m:Nat):Int)),some (V.int ((k:Nat):Int)),some a,some (V.int ((g.goal m:Nat):Int)),some (V.int ((g.place m:Nat):Int)),some (V.ref mch),some Ac,some (V.ref RB),some (V.ref MX),some (V.ref ev),some (V.ref lo),Qt,Qu])/\Fr (FP g.n ad) Li H'/\cO C CN CR F H' x N g ((r.step g m k).send (g.outs (g.goal m)) (g.ev r m) ((g.work r m k).cb.take i)) ad) ?_ ?_ ?_ ?_⟩⟩
  ·exact⟨⟨_,_,rfl⟩,Fr.refl,l⟩
  ·rintro i σ H' hi ⟨_,R,_⟩;exact aR.of (R.at u HE)
  ·intro i z σ H' hz jF;nofun;obtain⟨⟨Qt,Qu,rfl⟩,R,Eh⟩:=jF;have l:i < zs.length:=(List.getElem?_eq_some_iff.mp hz).1;have l:i < (g.work r m k).cb.length:=by lia
   have u:(g.work r m k).cb[i]?=some (g.work r m k).cb[i]:=cE l;have hp0:=wk4 _ (aai l);have Qv:=(M0.2 i z _ hz u).aK R.aS;have Lk:(r.step g m k).send (g.outs (g.goal m)) (g.ev r m) ((g.work r m k).cb.take (i+1))=((r.step g m k).send (g.outs (g.goal m)) (g.ev r m) ((g.work r m k).cb.take i)).send (g.outs (g.goal m)) (g.ev r m) [(g.work r m k).cb[i]]:=by
    rw[List.take_succ,u];exact pB _
   generalize (g.work r m k).cb[i]=p at *;obtain⟨S,px⟩:=p;obtain⟨tz,u1,u2,kz,rfl,DT,y1,y2⟩:=cy Qv;obtain rfl:=y1.bN;obtain rfl:=y2.bN;ac_rfl;calc yG (bM.of DT) ?_;have u:=R.at elo nlo;left;calc bE _ (.inl ⟨_,aR.of u,rfl⟩) ?_;left;have l:((sf g 0 (g.goal m)).map λi=>V.int ((i:Nat):Int)).length=(g.outs (g.goal m)).length:=by rw[List.length_map];rfl
   rw[l];have y:S.toNat=S.toNat:=rfl;have y:((S.toNat:Nat):Int)=S:=aaZ hp0;by_cases B:S<((g.outs (g.goal m)).length:Nat)
   ·rw[if_pos (by simpa using B)];have l:S.toNat < (g.outs (g.goal m)).length:=by lia
    have G:(g.outs (g.goal m)).getD S.toNat 0<g.ws.length:=by
     have:=getD_mem (d:=0) l;unfold NT.outs at this ⊢;rw[List.mem_filter,List.mem_range]at this;exact this.1
    left;obtain⟨L,M,J,O⟩:=Eh.ins;calc eV J (fz (by decide +kernel)) ?_;refine bC u (show hJ _ S=some (.int (((g.outs (g.goal m)).getD S.toNat 0:Nat):Int)) from by
     rw[<-y];calc aA ?_;rw[List.getElem?_map];show Option.map _ (g.outs (g.goal m))[_]?=_;rw[Int.toNat_natCast,bt (d:=0) l];rfl) ?_
    have J:=(RS.sO.send (outs:=g.outs (g.goal m)) (ev:=g.ev r m) ((g.work r m k).cb.take i) Qr Qs).mono (show _<=19999 by simp;lia);calc⟨F,x,N,g,_,ad,_,px,.ref ev,some (g.ev r m),rfl,Eh,lD.fr (Lj.trans R) I.cD.sj,G,(MZ.aK R.aS).mono (by decide),J,λu L y=>?_⟩;left;calc gN ⟨_,_,rfl,rfl⟩ (R.trans L) ?_;rw[Lk];show cO C CN CR F u x N g (if S.toNat<_ then _ else _) ad;rw[if_pos l];exact y
   ·rw[if_neg (by simpa using B)];left;calc gN ⟨_,_,rfl,rfl⟩ R ?_;rw[Lk];show cO C CN CR F H' x N g (if S.toNat<_ then _ else _) ad;rw[if_neg (by lia)];exact Eh
  ·intro σ H' jG;nofun;obtain⟨⟨Qt,Qu,rfl⟩,R,Eh⟩:=jG;ac_rfl;left;rw[VD,List.take_length]at Eh;calc q _ _ (Lj.trans R) Eh (MZ.aK R.aS)
def _root_.DD.RS.Ej(r:RS)(w:Nat):List Nat:=(List.range (r.ww w).say.length).filter λk=>((r.ww w).dy.getD k none).isNone
theorem fA{p:Nat->Bool}{i:Nat}:(List.range (i+1)).filter p=(List.range i).filter p++(if p i=true then[i] else[]):=by
 rw[List.range_succ,List.filter_append];congr 1
 cases h:p i<;>simp[h]
theorem HF{F:Addr->Prop}{H:Hp}{n:Nat->Nat}{ad:Nat->Nat->Addr}{ct:Nat->Nat->CO}(c:Nat->Hp)(k:∀t b,c t b≠none->c (t+1) b≠none)(r:∀t i,i<n t->c t (ad t i)=none)(w:∀t i,i<n t->c (t+1) (ad t i)≠none)
  (p:∀t i j,i<n t->j<n t->ad t i=ad t j->i=j) (q:∀b,F b->c 0 b≠none) (x:∀t i,i<n t->∃o,H (ad t i)=some o/\OR (jE (λb=>F b\/FP n ad b) H) (ct t i) o):dO F H n ad ct:=by
 have u:∀(d t:Nat) (b:Addr),c t b≠none->c (t+d) b≠none:=by
  intro d;induction d with
  |zero=>calc λt b h=>h
  |succ d c=>exact λt b h=>k _ _ (c t b h)
 have v:∀t i a g,i<n t->g<n a->t<a->ad t i≠ad a g:=by
  intro t i a g h m l e;obtain⟨d,rfl⟩:∃d,a=t+1+d:=⟨a-(t+1),by lia⟩
  exact u d (t+1) _ (w t i h) (e▸r _ g m)
 refine⟨λt i a g h m e=>?_,λt i h z=>?_,x⟩
 ·rcases Nat.lt_trichotomy t a with l | l | l
  ·exact absurd e (v _ _ _ _ h m l)
  ·subst l;exact⟨rfl,p t i g h m e⟩
  ·exact absurd e.symm (v _ _ _ _ m h l)
 ·have:=u t 0 _ (q _ z);rw[Nat.zero_add]at this;calc this (r t i h)
theorem HG(c:∀b,Z b->∃o,H b=some o/\soft o){m:Nat}{x:V}{d:DV}(g:HT H m x d):HD (jE Z H) m x d:=by
 calc HT.hd (g.aK λb h e=>?_);rw[gM (λz=>by
  obtain⟨o,a,f⟩:=c b z;rw[e] at a;cases a;calc f)]
 calc e
structure sQ(H0 H':Hp)(D:Addr)(as:List Addr)(n:Nat)(ct:Nat->Hp->List V->Prop):Prop where
 len:as.length=n
 nd:as.Nodup
 new:∀a∈as,H0 a=none/\a≠D
 ins:∀(j:Nat) a,as[j]?=some a->∃vs,H' a=some (.lst vs)/\ct j H' vs
theorem sQ.nil{ct:Nat->Hp->List V->Prop}:sQ H0 H' D [] 0 ct:=⟨rfl,List.nodup_nil,λa h=>by simp at h,λj a h=>by simp at h⟩
theorem sQ.snoc{n:Nat}{ct:Nat->Hp->List V->Prop}(h:sQ H0 H1 D as n ct)(p:av H0 H1)(q:H1 D≠none)(g:H1 a=none){vs:List V}(e:H' a=some (.lst vs))(c:ct n H' vs)(s:∀b o,b≠D->H1 b=some o->H' b=some o)(f:∀j vs,ct j H1 vs->ct j H' vs):sQ H0 H' D (as++[a]) (n+1) ct:=by
 refine⟨by simp[h.len],?_,λb d=>?_,λj b d=>?_⟩
 ·rw[List.nodup_append];calc gN h.nd (by simp) (λb d c l=>?_);simp at l;subst l;intro z;subst z;obtain⟨j,k⟩:=List.getElem?_of_mem d;obtain⟨vs,i,_⟩:=h.ins j b k;rw[g]at i;cases i
 ·rcases List.mem_append.mp d with d | d
  ·exact h.new b d
  ·simp at d;subst d;refine⟨?_,λz=>q (z ▸ g)⟩
   cases r:H0 b with
   |none=>rfl
   |some o=>rw[p _ _ r]at g;cases g
 ·by_cases k:j < as.length
  ·rw[List.getElem?_append_left k]at d;obtain⟨vs,i,g⟩:=h.ins j b d;exact⟨vs,s _ _ (h.new b (Y' d)).2 i,f _ _ g⟩
  ·rw[List.getElem?_append_right (by lia)] at d
   cases m:j-as.length with
   |zero=>
    rw[m]at d;simp at d;subst d;have:j=n:=by have:=h.len;lia
    subst this;calc⟨vs,e,c⟩
   |succ k=>rw[m]at d;simp at d
theorem sQ.keep{n:Nat}{ct:Nat->Hp->List V->Prop}(h:sQ H0 H1 D as n ct)(s:∀(b:Addr) (vs:List V),H1 b=some (.lst vs)->H' b=some (.lst vs))(c:∀j vs,ct j H1 vs->ct j H' vs):sQ H0 H' D as n ct:=
 ⟨h.len,h.nd,h.new,λj a e=>by
  obtain⟨vs,d,f⟩:=h.ins j a e;calc⟨vs,s _ _ d,c _ _ f⟩⟩
theorem kM{K:W.Frag}{ix:List (Option Nat)}{r:TE}{l:Addr}{xs vs:List V}(t:H l=some (.lst xs))(u:H D=none)(F:xs.length<=10)(w:∀x,Ext (vm ix σ) ((vm ix σ).set 0 (some x)))(d:∀g j (R:VK),(∀p,j p=none->R (.ref p) (upd j p (.lst vs)))->r g j R)(q:∀as H1,H1 D=some (.lst (as.map V.ref))->av H H1->sQ H H1 D as xs.length (λ_ _ ws=>ws=vs)->Q (.ref D) H1):lW ix (u7 K l) (gX 0) iM r σ H Q D:=by
 refine bx (n:=xs.length) (λi ys H'=>∃as:List Addr,ys=as.map V.ref/\av H H'/\sQ H H' D as i (λ_ _ ws=>ws=vs)) (P' (small (by lia))) ⟨[],rfl,av.new _ u,sQ.nil⟩ ?_ ?_ ?_ ?_
 ·rintro i ys H' k ⟨_,_,a,_⟩;exact⟨_,xs[i],aR.of (a _ _ t),cE k⟩
 ·rintro ys H' ⟨_,_,a,_⟩;exact⟨_,aR.of (a _ _ t),L' _⟩
 ·intro i ys H' k c v y z G B;obtain⟨as,rfl,a,m⟩:=y;obtain⟨rfl,g⟩:=B;calc⟨w z,?_⟩;simp only[iM,if_true];calc d _ _ _ λp g=>?_;have d:=av.new (.lst vs) g;have i:p≠D:=Ne.symm (au c g);refine cn (d _ _ c) v k (P' (small (by lia))) ⟨as++[p],by simp,λb o e=>?_,?_⟩
  ·rw[ay (au e u)];exact d _ _ (a _ _ e)
  ·refine m.snoc a (by rw[c];simp) g (vs:=vs) ?_ rfl (λb o a e=>?_) (λj vs e=>e)
   ·rw[ay i];exact af
   ·rw[ay a];exact d _ _ e
 ·intro ys H1 c v C;obtain⟨as,rfl,a,m⟩:=C;calc q as H1 c a m
abbrev mG:Stmt:=(cf (top 14)).getD 9 (.Pass ⟨0,0,0,0⟩)
inductive HH(C CN CR:Addr)(vs:List V)(H:Hp)(Q:VK):Prop
 |mk (F:Addr->Prop) (x bH:Addr) (nt:NT) (r:RS) (ad:Nat->Nat->Addr) (wy k:Nat) (h0:vs=[.ref x,.int (wy:Nat),.int (k:Nat)]) (h1:cO C CN CR F H x bH nt r ad) (h2:FS F H) (h3:r.Ok nt) (h4:r.Vq nt wy k) (h5:r.picks.length<=400) (h6:∀t H',Fr (FP nt.n ad) H H'->cO C CN CR F H' x bH nt (r.pick nt wy k) ad->HT H' 1 t (pairD (nt.ev r wy))->Q t H'):HH C CN CR vs H Q
def HI(C CN CR:Addr):Sp:=λvs H Q _=>HH C CN CR vs H Q
theorem Ah(D:gL K CR "pick" "Run.pick" mG ["self","way","number"])(T:Tx K mg C CN CR F FD)(l:d7 P w K mg base CR "pick_at" 6 ["self","way","number","at"] (BV C CN CR)):d7 P w K mg base CR "pick" 7 ["self","way","number"] (HI C CN CR):=by
 have sc:aE ["self","way","number"] ["self","way","number"] (az mG):=by walk_at "s"
 symm
 ·obtain⟨F,x,b,c,r,ad,d,k,rfl,a,e,g,i,j,q⟩:=h;rfl
 ·nofun;obtain⟨F,x,b,c,r,ad,d,k,rfl,a,e,g,i,j,q⟩:=h;ac_rfl;have m:=hr.units;calc⟨_,(ao (aI (jB l T.aZ hr (aq 0) (ag (aq 1) (ag (aq 2) (ag ai aa)))))),?_⟩;obtain⟨n,o,m,p⟩:=a.ins;left;calc eV m (fz (by decide +kernel)) ?_;calc⟨F,x,b,c,r,ad,d,k,_,rfl,a,e,g,i,j,q⟩
theorem uM{CR x a:Addr}{C:Hp}{f:List (Str×V)}(c:List (Str×V))(s:av C H)(d:H x=some (.ins CR a f)):∃G,upd H x (.ins CR a c)=G/\G x=some (.ins CR a c)/\(∀b o,b≠x->C b=some o->G b=some o)/\(∀b vs,H b=some (.lst vs)->G b=some (.lst vs))/\bS H G:=⟨_,rfl,af,λb o n e=>by rw[ay n];calc s _ _ e,λb vs e=>by rw[ay (λz=>by rw[z,d]at e;cases e)];calc e,λb vs e=>by rw[ay (λz=>by rw[z,d]at e;cases e)];calc e⟩
theorem fQ{C:Hp}{d:Addr}(a:List (Key×V))(s:av C H):∃G,upd H d (.dK a)=G/\G d=some (.dK a)/\(∀b o,b≠d->C b=some o->G b=some o)/\(∀b o,b≠d->H b=some o->G b=some o):=⟨_,rfl,af,λb o n e=>by rw[ay n];calc s _ _ e,λb o n e=>by rw[ay n];calc e⟩
theorem pC:∀(a:List (Int×Int)) {r:RS}{p:Int×Int},r.kq (a++[p])=(r.kq a).put p.1.toNat p.2 none
 | [],r,p=>rfl
 |q::a,r,p=>pC a
theorem Ai{nt:NT}(j:nt.Ok):(RS.new nt).sO nt 0:=by
 refine⟨λm e=>rfl,λm e=>rfl,λm e s d=>?_,λm e h f=>?_,λv i=>rfl,λv i=>rfl,λv i a c d=>?_,λm e=>L' _,λm e u b=>?_,λv i=>L' _,λm e u b=>?_⟩
 ·have g:=j.gd e;have d:s ∈ [((nt.ms.getD m default).ns,(nt.ms.getD m default).row)]:=d;simp at d;subst d;exact⟨rfl,g.bn,g.r12⟩
 ·have f:h∈([]:List (List Int)):=f;simp at f
 ·have d:some (a,c)∈([]:List (Option (Int×Int))):=d;simp at d
 ·have b:u∈([[]]:List (List Int)):=b;simp at b;subst b;exact L' _
 ·have b:u∈([[]]:List (List Int)):=b;simp at b;subst b;calc List.nil_prefix
theorem qV{nt:NT}:∀(b:List (Int×Int)) {r:RS}{B:Nat},r.sO nt B->(r.kq b).sO nt (B+b.length)
 | [],r,B,h=>h
 |p::b,r,B,h=>by
  have e:B+(p::b).length=B+1+b.length:=by simp;lia
  rw[e];calc qV b (h.put (λa c z=>by cases z))
theorem sC:∀(a:List (Int×Int)) {r:RS},(r.kq a).picks=r.picks
 | [],r=>rfl
 |p::a,r=>sC a
theorem HJ{nt:NT}(a:nt.Ok){ls:List (Int×Int)}(h:ls.length<=20):(RS.begin nt ls).Ok nt/\(RS.begin nt ls).picks=[]:=by
 have e:(RS.begin nt ls).picks=[]:=sC ls;calc⟨(qV ls (Ai a)).ok ?_,e⟩;show 0+ls.length<=20+24*(RS.begin nt ls).picks.length;rw[e];simp;lia
abbrev HK:Stmt:=(cf (top 14)).getD 0 (.Pass ⟨0,0,0,0⟩)
inductive HL(C CN CR:Addr)(vs:List V)(H:Hp)(Q:VK):Prop
 |mk (F:Addr->Prop) (x dx bH:Addr) (nt:NT) (ls:List (Int×Int)) (ms:List Addr) (wv lv:List V) (h0:vs=[.ref x,.ref bH]) (h1:H x=some (.ins CR dx [])) (h2:vS C CN H bH nt) (h3:pw CN H bH ms wv lv) (h4:gY H 1 lv (ls.map ql)) (h5:ls.length<=20) (h6:∀l∈ls,0<=l.1/\l.1<nt.ws.length) (lD:FS F H) (h7:∀ad H',(∀b o,b≠x->H b=some o->H' b=some o)->(∀b,FP nt.n ad b->H b=none)->cO C CN CR F H' x bH nt (RS.begin nt ls) ad->Q .bD H'):HL C CN CR vs H Q
def BX(C CN CR:Addr):Sp:=λvs H Q _=>HL C CN CR vs H Q
theorem VG(D:CI K mg "Run" CR "Run.__init__" HK ["self","net"])(T:Tx K mg C CN CR F FD)(eC:d7 P w K mg base C "first_state" 1 ["self"] (Hc C))(jc:d7 P w K mg base CN "letters" 1 ["self"] (p8 CN))(cI:d7 P w K mg base CN "machines" 1 ["self"] (jY CN))(cW:d7 P w K mg base CN "ways" 1 ["self"] (nR CN))(cQ:d7 P w K mg base CR "put_letter" 1 ["self","way","said","sender"] (sk C CN CR)):xc P w K mg base "Run" CR 2 ["self","net"] (BX C CN CR):=by
 have sc:aE ["self","net","way","said"] ["self","net"] (az HK):=by walk_at "s"
 symm
 ·obtain⟨FF,x,N,y,I,ls,ms0,wv0,lv,rfl,Z,hn,hf0,Js,xP,uk,lD,q⟩:=h;rfl
 ·nofun;obtain⟨FF,x,N,y,I,ls,ms0,wv0,lv,rfl,Z,hn,hf0,Js,xP,uk,lD,q⟩:=h;ac_rfl;have hu:=hr.units;refine⟨_,(aj (fJ (aq 0) (aq 1) (fL rfl))
   (aj (fJ (aq 0) (bR aa) (fL rfl))
   (aj (fJ (aq 0) (dE (N':=["machine"]) (ix:=[none]) (cu (ik cI T.cT hr (aq 1))) (λ_ _ _ _=>(bb (i:=0) (show(["machine"]:List Str).Nodup by decide +kernel) rfl (by grind))) oq (λ_ _ _ _=>(bR (ag (ik eC T.cN hr (aq 0)) aa)))) rfl)
   (aj (fJ (aq 0) (dE (N':=["machine"]) (ix:=[none]) (cu (ik cI T.cT hr (aq 1))) (λ_ _ _ _=>(bb (i:=0) (show(["machine"]:List Str).Nodup by decide +kernel) rfl (by grind))) oq (λ_ _ _ _=>(bR (ag ai aa)))) rfl)
   (aj (fJ (aq 0) (dE (N':=["machine"]) (ix:=[none]) (cu (ik cI T.cT hr (aq 1))) (λ_ _ _ _=>(bb (i:=0) (show(["machine"]:List Str).Nodup by decide +kernel) rfl (by grind))) oq (λ_ _ _ _=>(bR aa))) rfl)
   (aj (fJ (aq 0) (dE (N':=["way"]) (ix:=[none]) (cu (ik cW T.cT hr (aq 1))) (λ_ _ _ _=>(bb (i:=0) (show(["way"]:List Str).Nodup by decide +kernel) rfl (by grind))) oq (λ_ _ _ _=>(bR aa))) rfl)
   (aj (fJ (aq 0) (dE (N':=["way"]) (ix:=[none]) (cu (ik cW T.cT hr (aq 1))) (λ_ _ _ _=>(bb (i:=0) (show(["way"]:List Str).Nodup by decide +kernel) rfl (by grind))) oq (λ_ _ _ _=>(bR aa))) rfl)
   (aj (fJ (aq 0) (dE (N':=["way"]) (ix:=[none]) (cu (ik cW T.cT hr (aq 1))) (λ_ _ _ _=>(bb (i:=0) (show(["way"]:List Str).Nodup by decide +kernel) rfl (by grind))) oq (λ_ _ _ _=>(bR aa))) rfl)
   (ao (fH PassesOwn.never rfl (cu (ik jc T.cT hr (aq 1))) (iV (i:=2) (j:=3) rfl sc.nd rfl rfl (by grind) (by grind))
   (ao (cj (jB cQ T.aZ hr (aq 0) (ag (aq 2) (ag (aq 3) (ag iS aa)))))))))))))))),?_⟩
  have aW:=hn.ok;nofun;obtain⟨⟨ms,M,W,hf,ml,yI,MR⟩,_⟩:=id hn;obtain⟨dn,a1,b1,c1,R,g2,g3,g4⟩:=id hf;obtain⟨dn',a1',b1',c1',g1',g2',g3',g4'⟩:=id hf0;have O7:W=lv:=by
   rw[R]at g1'
   cases g1';rw[g4]at g4'
   cases g4';rfl
  subst O7;ac_rfl;have Jp:(ms.map V.ref).length<=5:=by simp[ml];exact aW.Z9
  have f6:M.length=I.ws.length:=by simpa using MR.1
  have vN:M.length<=10:=by rw[f6];exact aW.CS
  have X:y≠x:=λz=>by rw[z,Z]at R;cases R
  have M3:a1≠x:=λz=>by rw[z,Z]at g2;cases g2
  have M4:b1≠x:=λz=>by rw[z,Z]at g3;cases g3
  have M5:c1≠x:=λz=>by rw[z,Z]at g4;cases g4
  left;refine qk x CR N _ rfl Z T.aZ T.cU (by decide) ?_;have hxa:upd H x (.ins CR N (bf "own_net" (.ref y) [])) x=some (.ins CR N (bf "own_net" (.ref y) [])):=af;have nxa:∀b o,b≠x->H b=some o->upd H x (.ins CR N (bf "own_net" (.ref y) [])) b=some o:=λb o n e=>by rw[ay n];exact e
  generalize hGa:upd H x (.ins CR N (bf "own_net" (.ref y) []))=Ga at *;left;refine⟨aav _,λp hp=>?_⟩;have sp0:=av.new (.lst []) hp;have ep0:upd Ga p (.lst []) p=some (.lst []):=af;generalize hGb:upd Ga p (.lst [])=Gb at *;left;refine qk x CR N _ rfl (sp0 _ _ hxa) T.aZ T.dz (bU (n:=999) (by decide)) ?_;have Tz:upd Gb x (.ins CR N (bf "picks_done" (.ref p) (bf "own_net" (.ref y) []))) x=some (.ins CR N (bf "picks_done" (.ref p) (bf "own_net" (.ref y) []))):=af;have ka:∀b o,b≠x->Ga b=some o->upd Gb x (.ins CR N (bf "picks_done" (.ref p) (bf "own_net" (.ref y) []))) b=some o:=λb o n e=>by rw[ay n];exact sp0 _ _ e
  have npx:p≠x:=Ne.symm (au hxa hp);have ep:upd Gb x (.ins CR N (bf "picks_done" (.ref p) (bf "own_net" (.ref y) []))) p=some (.lst []):=by rw[ay npx];exact ep0
  generalize hG0:upd Gb x (.ins CR N (bf "picks_done" (.ref p) (bf "own_net" (.ref y) [])))=G0 at *;have M6:∀b o,b≠x->H b=some o->G0 b=some o:=λb o n e=>ka b o n (nxa b o n e);left;refine bT ?_;left;refine eV (M6 _ _ X R) (eI (by decide +kernel) (by decide +kernel) (by decide +kernel)) ?_;refine fS y ms M W rfl ⟨dn,a1,b1,c1,M6 _ _ X R,M6 _ _ M3 g2,M6 _ _ M4 g3,M6 _ _ M5 g4⟩ (λX3 abn=>?_);have Qw:=av.new (.lst (ms.map V.ref)) abn;have Ds:upd G0 X3 (.lst (ms.map V.ref)) X3=some (.lst (ms.map V.ref)):=af;generalize ahJ:upd G0 X3 (.lst (ms.map V.ref))=RE at *;left;refine .inl ⟨⟨_,aR.of Ds⟩,λD1 Dn=>?_⟩;refine bx (J:=u7 K X3) (n:=(ms.map V.ref).length) (λi ys H'=>∃as:List Addr,ys=as.map V.ref/\av RE H'/\sQ RE H' D1 as i (λj H' vs=>∃v,vs=[v]/\HT H' 2 v (yE (I.ms.getD j default).ns (I.ms.getD j default).row))) (P' (small (by lia))) ⟨[],rfl,av.new _ Dn,sQ.nil⟩ ?_ ?_ ?_ ?_
  ·rintro i ys H' a ⟨_,_,G,_⟩;exact⟨_,(ms.map V.ref)[i],aR.of (G _ _ Ds),cE a⟩
  ·rintro ys H' ⟨_,_,G,_⟩;exact⟨_,aR.of (G _ _ Ds),L' _⟩
  ·intro i ys H' a u hl jF xx H4 jG;nofun;obtain⟨as,rfl,G,hL⟩:=jF;obtain⟨rfl,hy⟩:=jG;ac_rfl;have ex:=hy _ (aR.of (G _ _ Ds));walk_at "xg";left
   try rw[if_pos trivial]
   have him:i<ms.length:=by simpa using a
   have exm:xx=.ref ms[i]:=by
    rw[List.getElem?_map,cE him]at ex
    cases ex;rfl
   nofun;subst exm;have Ll:i<I.ms.length:=by lia
   have nmx:ms[i]≠x:=λz=>by
    nofun;obtain⟨d1,s1,d2,w1,_⟩:=yI i ms[i] _ (cE him) (bt (d:=default) Ll);ac_rfl;rw[z,Z]at w1;cases w1
   have RF:Rr C H4 ms[i] (I.ms.getD i default):=by
    nofun;obtain⟨d1,s1,d2,w1,w2,w3⟩:=yI i ms[i] _ (cE him) (bt (d:=default) Ll);ac_rfl;have tt:bS H H4:=λb xs e=>G _ _ (Qw _ _ (M6 b _ (λz=>by rw[z,Z]at e;cases e) e));exact⟨d1,s1,d2,G _ _ (Qw _ _ (M6 _ _ nmx w1)),w2.aK tt,w3.aK tt⟩
   obtain⟨d1,s1,d2,w1,w2,w3⟩:=id RF;ac_rfl;calc mth w1 (BC (by decide +kernel) (by decide +kernel) (by decide +kernel)) ?_;calc⟨ms[i],_,_,_,_,rfl,RF,λst om=>?_⟩;left;calc⟨P' (small (by simp)),λp hp=>?_⟩;have sN:=av.new (.lst [st]) hp;have nD:p≠D1:=Ne.symm (au u hp);refine cn (sN _ _ u) hl a (P' (small (by lia))) ⟨as++[p],by simp,λb o e=>?_,?_⟩
   ·rw[ay (au e Dn)];exact sN _ _ (G _ _ e)
   ·refine hL.snoc G (by rw[u];simp) hp (vs:=[st]) ?_ ⟨st,rfl,om.aK (λb xs e=>by rw[ay (λz=>by rw[z,u] at e;cases e)];calc sN _ _ e)⟩ (λb o nb e=>?_) (λj vs ⟨v,e,h⟩=>⟨v,e,h.aK (λb xs e=>by rw[ay (λz=>by rw[z,u] at e;cases e)];calc sN _ _ e)⟩)
    ·rw[ay nD];exact af
    ·rw[ay nb];exact sN _ _ e
  intro ys H1 u hl oZ;nofun;obtain⟨A1,rfl,G,X4⟩:=oZ;ac_rfl;have VH:=G _ _ (Qw _ _ Tz);left;refine qk x CR N _ rfl VH T.aZ T.cm (bU (n:=999) (bU (n:=998) (by decide))) ?_;nofun;obtain⟨G1,XU,qH,X5,VI,abp⟩:=uM (bf "states_had" (.ref D1) (bf "picks_done" (.ref p) (bf "own_net" (.ref y) []))) G VH;ac_rfl;rw[XU];have VJ:=VI _ _ u;clear XU;have kg1:∀b o,b≠x->G0 b=some o->G1 b=some o:=λb o n e=>X5 b o n (Qw _ _ e);have RH:∀b o,b≠x->H b=some o->G1 b=some o:=λb o n e=>kg1 b o n (M6 b o n e);have VM:RE D1=none:=Dn;clear u;left;refine bT ?_;left;refine eV (RH _ _ X R) (eI (by decide +kernel) (by decide +kernel) (by decide +kernel)) ?_;refine fS y ms M W rfl ⟨dn,a1,b1,c1,RH _ _ X R,RH _ _ M3 g2,RH _ _ M4 g3,RH _ _ M5 g4⟩ (λlm2 G=>?_);have RI:=av.new (.lst (ms.map V.ref)) G;have tI:upd G1 lm2 (.lst (ms.map V.ref)) lm2=some (.lst (ms.map V.ref)):=af;generalize ahM:upd G1 lm2 (.lst (ms.map V.ref))=X6 at *;left;refine .inl ⟨⟨_,aR.of tI⟩,λD2 BG=>?_⟩;refine kM (vs:=[V.int 0]) tI BG (by lia) (λ_=>Ext.set (Ext.refl _) rfl) (λ_ _ _ r=>And.intro (by decide) r) ?_;intro A2 H2 u G X7;have VN:=G _ _ (RI _ _ qH);left;refine qk x CR N _ rfl VN T.aZ T.dW (bU (n:=999) (bU (n:=998) (bU (n:=997) (by decide)))) ?_;nofun;obtain⟨G2,MC,Dg,RJ,VO,ahN⟩:=uM (bf "words_had" (.ref D2) (bf "states_had" (.ref D1) (bf "picks_done" (.ref p) (bf "own_net" (.ref y) [])))) G VN;ac_rfl;rw[MC];have RK:=VO _ _ u;clear MC;have kg2:∀b o,b≠x->G1 b=some o->G2 b=some o:=λb o n e=>RJ b o n (RI _ _ e);have RL:∀b o,b≠x->H b=some o->G2 b=some o:=λb o n e=>kg2 b o n (RH b o n e);have PZ:X6 D2=none:=BG;clear u;left;refine bT ?_;left;refine eV (RL _ _ X R) (eI (by decide +kernel) (by decide +kernel) (by decide +kernel)) ?_;refine fS y ms M W rfl ⟨dn,a1,b1,c1,RL _ _ X R,RL _ _ M3 g2,RL _ _ M4 g3,RL _ _ M5 g4⟩ (λlm3 G=>?_);have RM:=av.new (.lst (ms.map V.ref)) G;have VP:upd G2 lm3 (.lst (ms.map V.ref)) lm3=some (.lst (ms.map V.ref)):=af;generalize ahO:upd G2 lm3 (.lst (ms.map V.ref))=X8 at *;left;refine .inl ⟨⟨_,aR.of VP⟩,λD3 Dk=>?_⟩;refine kM (vs:=[]) VP Dk (by lia) (λ_=>Ext.set (Ext.refl _) rfl) (λ_ _ _ r=>And.intro (by decide) r) ?_;intro A3 H3 u G X9;have VQ:=G _ _ (RM _ _ Dg);left;refine qk x CR N _ rfl VQ T.aZ T.cP (bU (n:=999) (bU (n:=998) (bU (n:=997) (bU (n:=996) (by decide))))) ?_;nofun;obtain⟨G3,Rz,zV,RN,VR,ahP⟩:=uM (bf "words_said" (.ref D3) (bf "words_had" (.ref D2) (bf "states_had" (.ref D1) (bf "picks_done" (.ref p) (bf "own_net" (.ref y) []))))) G VQ;ac_rfl;rw[Rz];have RO:=VR _ _ u;clear Rz;have kg3:∀b o,b≠x->G2 b=some o->G3 b=some o:=λb o n e=>RN b o n (RM _ _ e);have RP:∀b o,b≠x->H b=some o->G3 b=some o:=λb o n e=>kg3 b o n (RL b o n e);have P0:X8 D3=none:=Dk;clear u;left;refine bT ?_;left;refine eV (RP _ _ X R) (eI (by decide +kernel) (by decide +kernel) (by decide +kernel)) ?_;refine fS y ms M W rfl ⟨dn,a1,b1,c1,RP _ _ X R,RP _ _ M3 g2,RP _ _ M4 g3,RP _ _ M5 g4⟩ (λlm4 G=>?_);have RQ:=av.new (.lst M) G;have VS:upd G3 lm4 (.lst M) lm4=some (.lst M):=af;generalize ahQ:upd G3 lm4 (.lst M)=Ya at *;left;refine .inl ⟨⟨_,aR.of VS⟩,λD4 RT=>?_⟩;refine kM (vs:=[]) VS RT (by lia) (λ_=>Ext.set (Ext.refl _) rfl) (λ_ _ _ r=>And.intro (by decide) r) ?_;intro A4 H4 u G Yb;have VT:=G _ _ (RQ _ _ zV);left;refine qk x CR N _ rfl VT T.aZ T.bL (bU (n:=999) (bU (n:=998) (bU (n:=997) (bU (n:=996) (bU (n:=995) (by decide)))))) ?_;nofun;obtain⟨G4,XX,Qi,RU,VU,ahR⟩:=uM (bf "letters_say" (.ref D4) (bf "words_said" (.ref D3) (bf "words_had" (.ref D2) (bf "states_had" (.ref D1) (bf "picks_done" (.ref p) (bf "own_net" (.ref y) [])))))) G VT;ac_rfl;rw[XX];have RV:=VU _ _ u;clear XX;have kg4:∀b o,b≠x->G3 b=some o->G4 b=some o:=λb o n e=>RU b o n (RQ _ _ e);have RW:∀b o,b≠x->H b=some o->G4 b=some o:=λb o n e=>kg4 b o n (RP b o n e);have VW:Ya D4=none:=RT;clear u;left;refine bT ?_;left;refine eV (RW _ _ X R) (eI (by decide +kernel) (by decide +kernel) (by decide +kernel)) ?_;refine fS y ms M W rfl ⟨dn,a1,b1,c1,RW _ _ X R,RW _ _ M3 g2,RW _ _ M4 g3,RW _ _ M5 g4⟩ (λlm5 G=>?_);have RX:=av.new (.lst M) G;have VX:upd G4 lm5 (.lst M) lm5=some (.lst M):=af;generalize ahS:upd G4 lm5 (.lst M)=Yc at *;left;refine .inl ⟨⟨_,aR.of VX⟩,λD5 xJ=>?_⟩;refine kM (vs:=[]) VX xJ (by lia) (λ_=>Ext.set (Ext.refl _) rfl) (λ_ _ _ r=>And.intro (by decide) r) ?_;intro A5 H5 u G Yd;have VY:=G _ _ (RX _ _ Qi);left;refine qk x CR N _ rfl VY T.aZ T.eR (bU (n:=999) (bU (n:=998) (bU (n:=997) (bU (n:=996) (bU (n:=995) (bU (n:=994) (by decide))))))) ?_;nofun;obtain⟨G5,Vg,r6,RY,VZ,ahT⟩:=uM (bf "senders" (.ref D5) (bf "letters_say" (.ref D4) (bf "words_said" (.ref D3) (bf "words_had" (.ref D2) (bf "states_had" (.ref D1) (bf "picks_done" (.ref p) (bf "own_net" (.ref y) []))))))) G VY;ac_rfl;rw[Vg];have RZ:=VZ _ _ u;clear Vg;have kg5:∀b o,b≠x->G4 b=some o->G5 b=some o:=λb o n e=>RY b o n (RX _ _ e);have R0:∀b o,b≠x->H b=some o->G5 b=some o:=λb o n e=>kg5 b o n (RW b o n e);have V0:Yc D5=none:=xJ;clear u;left;refine bT ?_;left;refine eV (R0 _ _ X R) (eI (by decide +kernel) (by decide +kernel) (by decide +kernel)) ?_;refine fS y ms M W rfl ⟨dn,a1,b1,c1,R0 _ _ X R,R0 _ _ M3 g2,R0 _ _ M4 g3,R0 _ _ M5 g4⟩ (λlm6 G=>?_);have R1:=av.new (.lst M) G;have V1:upd G5 lm6 (.lst M) lm6=some (.lst M):=af;generalize ahU:upd G5 lm6 (.lst M)=Ye at *;left;refine .inl ⟨⟨_,aR.of V1⟩,λD6 V2=>?_⟩;refine kM (vs:=[]) V1 V2 (by lia) (λ_=>Ext.set (Ext.refl _) rfl) (λ_ _ _ r=>And.intro (by decide) r) ?_;intro A6 H6 u G Yf;have V3:=G _ _ (R1 _ _ r6);left;refine qk x CR N _ rfl V3 T.aZ T.cV (bU (n:=999) (bU (n:=998) (bU (n:=997) (bU (n:=996) (bU (n:=995) (bU (n:=994) (bU (n:=993) (by decide)))))))) ?_;nofun;obtain⟨S,T,Hv,QA,V4,ahV⟩:=uM (bf "workers" (.ref D6) (bf "senders" (.ref D5) (bf "letters_say" (.ref D4) (bf "words_said" (.ref D3) (bf "words_had" (.ref D2) (bf "states_had" (.ref D1) (bf "picks_done" (.ref p) (bf "own_net" (.ref y) [])))))))) G V3;ac_rfl;rw[T];have R3:=V4 _ _ u;clear T;have kg6:∀b o,b≠x->G5 b=some o->S b=some o:=λb o n e=>QA b o n (R1 _ _ e);have U:∀b o,b≠x->H b=some o->S b=some o:=λb o n e=>kg6 b o n (R0 b o n e);have V5:Ye D6=none:=V2;clear u;have c:∀(G T:Hp),(∀b o,b≠x->G b=some o->T b=some o)->(∃fs,G x=some (.ins CR N fs))->(∀b vs,G b=some (.lst vs)->T b=some (.lst vs))/\bS G T:=λG T h ⟨fs,e⟩=>⟨λb vs e'=>h b _ (λz=>by rw[z,e]at e';cases e') e',λb vs e'=>h b _ (λz=>by rw[z,e]at e';cases e') e'⟩
  have Lm:=kg6;have M9:∀b o,b≠x->G4 b=some o->S b=some o:=λb o n e=>Lm b o n (kg5 b o n e);have Na:∀b o,b≠x->G3 b=some o->S b=some o:=λb o n e=>M9 b o n (kg4 b o n e);have QB:∀b o,b≠x->G2 b=some o->S b=some o:=λb o n e=>Na b o n (kg3 b o n e);have V6:∀b o,b≠x->G1 b=some o->S b=some o:=λb o n e=>QB b o n (kg2 b o n e);have kc0:∀b o,b≠x->G0 b=some o->S b=some o:=λb o n e=>V6 b o n (kg1 b o n e);have QC:sQ RE G1 D1 A1 (ms.map V.ref).length (λj H' vs=>∃v,vs=[v]/\HT H' 2 v (yE (I.ms.getD j default).ns (I.ms.getD j default).row)):=X4.keep VI (λj vs ⟨v,e,h⟩=>⟨v,e,h.aK abp⟩);have vU:=QC.keep (c _ _ V6 ⟨_,qH⟩).1 (λj vs ⟨v,e,h⟩=>⟨v,e,h.aK (c _ _ V6 ⟨_,qH⟩).2⟩);have Nb:=(c _ _ V6 ⟨_,qH⟩).1 _ _ VJ;have QE:sQ X6 G2 D2 A2 (ms.map V.ref).length (λ_ _ vs=>vs=[V.int 0]):=X7.keep VO (λj vs e=>e);have vV:=QE.keep (c _ _ QB ⟨_,Dg⟩).1 (λj vs e=>e);have Nc:=(c _ _ QB ⟨_,Dg⟩).1 _ _ RK;have QF:sQ X8 G3 D3 A3 (ms.map V.ref).length (λ_ _ vs=>vs=[]):=X9.keep VR (λj vs e=>e);have vW:=QF.keep (c _ _ Na ⟨_,zV⟩).1 (λj vs e=>e);have Nd:=(c _ _ Na ⟨_,zV⟩).1 _ _ RO;have QG:sQ Ya G4 D4 A4 M.length (λ_ _ vs=>vs=[]):=Yb.keep VU (λj vs e=>e);have vX:=QG.keep (c _ _ M9 ⟨_,Qi⟩).1 (λj vs e=>e);have Nf:=(c _ _ M9 ⟨_,Qi⟩).1 _ _ RV;have QH:sQ Yc G5 D5 A5 M.length (λ_ _ vs=>vs=[]):=Yd.keep VZ (λj vs e=>e);have pD:=QH.keep (c _ _ Lm ⟨_,r6⟩).1 (λj vs e=>e);have uN:=(c _ _ Lm ⟨_,r6⟩).1 _ _ RZ;have tJ:sQ Ye S D6 A6 M.length (λ_ _ vs=>vs=[]):=Yf.keep V4 (λj vs e=>e);have QI:=(c _ _ kc0 ⟨_,Tz⟩).1 _ _ ep;have Dt:(ms.map V.ref).length=I.ms.length:=by simp[ml]
  rw[Dt]at vU;rw[Dt]at vV;rw[Dt]at vW;rw[f6]at vX;rw[f6]at pD;rw[f6]at tJ;have u:∃ad:Nat->Nat->Addr,ad 0=(λ_=>p)/\(∀i,ad 1 i=A1.getD i 0)/\(∀i,ad 2 i=A2.getD i 0)/\(∀i,ad 3 i=A3.getD i 0)/\(∀i,ad 4 i=A4.getD i 0)/\(∀i,ad 5 i=A5.getD i 0)/\(∀i,ad 6 i=A6.getD i 0):=
   ⟨λt i=>match t with
    |0=>p
    |1=>A1.getD i 0
    |2=>A2.getD i 0
    |3=>A3.getD i 0
    |4=>A4.getD i 0
    |5=>A5.getD i 0
    | _=>A6.getD i 0,rfl,λ_=>rfl,λ_=>rfl,λ_=>rfl,λ_=>rfl,λ_=>rfl,λ_=>rfl⟩
  nofun;obtain⟨ad,Ng,f7,gs,yi,yj,yk,yl⟩:=u;have Du:∀i,ad 0 i=p:=λi=>by rw[Ng]
  have u:∃L:Nat->Hp,L 0=Ga/\L 1=RE/\L 2=X6/\L 3=X8/\L 4=Ya/\L 5=Yc/\L 6=Ye/\∀t,L (t+7)=S:=
   ⟨λt=>match t with
    |0=>Ga
    |1=>RE
    |2=>X6
    |3=>X8
    |4=>Ya
    |5=>Yc
    |6=>Ye
    | _=>S,rfl,rfl,rfl,rfl,rfl,rfl,rfl,λ_=>rfl⟩
  obtain⟨L,q0,q1,q2,q3,q4,q5,q6,q7⟩:=u;have pz:∀(A B:Hp),(∀b o,b≠x->A b=some o->B b=some o)->(∃o,B x=some o)->∀b,A b≠none->B b≠none:=λA B h ⟨o,e⟩ b hb=>by
   by_cases z:b=x
   ·rw[z,e];simp
   ·cases g:A b with
    |none=>calc absurd g hb
    |some u=>rw[h b u z g];simp
  have k:∀{A:List Addr} {H0 H':Hp} {D:Addr} {n:Nat} {ct:Nat->Hp->List V->Prop},sQ H0 H' D A n ct->∀i,i<n->A[i]?=some (A.getD i 0)/\H0 (A.getD i 0)=none/\∃vs,H' (A.getD i 0)=some (.lst vs)/\ct i H' vs:=λ{A H0 H' D n ct} h i a=>by
   have e:=bt (l:=A) (i:=i) (d:=0) (by rw[h.len];calc a);exact⟨e,(h.new _ (Y' e)).1,h.ins i _ e⟩
  have pE:∀{A:List Addr} {H0 H':Hp} {D:Addr} {n:Nat} {ct:Nat->Hp->List V->Prop},sQ H0 H' D A n ct->∀i j,i<n->j<n->A.getD i 0=A.getD j 0->i=j:=λ{A H0 H' D n ct} h i j a O e=>by
   have g:=(k h i a).1;have e2:=(k h j O).1;rw[e]at g;exact(List.getElem?_inj (by rw[h.len];calc a) h.nd).mp (g.trans e2.symm)
  have fp:∀b,FP I.n ad b->b≠x/\(∃vs,S b=some (.lst vs))/\∃t,t<=6/\L t b=none:=by
   intro b vJ;nofun;obtain⟨t,i,a,rfl⟩:=vJ;ac_rfl
   match t,a with
   |0,a=>calc⟨by rw[Du];calc npx,⟨_,by rw[Du];calc QI⟩,0,by decide,by rw[q0,Du];calc hp⟩
   |1,a=>
    nofun;obtain⟨_,e0,vs,g,_⟩:=k vU i a;ac_rfl;rw[f7];calc⟨λz=>(by rw[z,Hv]at g;cases g),⟨vs,g⟩,1,by decide,by rw[q1];calc e0⟩
   |2,a=>
    nofun;obtain⟨_,e0,vs,g,_⟩:=k vV i a;ac_rfl;rw[gs];calc⟨λz=>(by rw[z,Hv]at g;cases g),⟨vs,g⟩,2,by decide,by rw[q2];calc e0⟩
   |3,a=>
    nofun;obtain⟨_,e0,vs,g,_⟩:=k vW i a;ac_rfl;rw[yi];calc⟨λz=>(by rw[z,Hv]at g;cases g),⟨vs,g⟩,3,by decide,by rw[q3];calc e0⟩
   |4,a=>
    nofun;obtain⟨_,e0,vs,g,_⟩:=k vX i a;ac_rfl;rw[yj];calc⟨λz=>(by rw[z,Hv]at g;cases g),⟨vs,g⟩,4,by decide,by rw[q4];calc e0⟩
   |5,a=>
    nofun;obtain⟨_,e0,vs,g,_⟩:=k pD i a;ac_rfl;rw[yk];calc⟨λz=>(by rw[z,Hv]at g;cases g),⟨vs,g⟩,5,by decide,by rw[q5];calc e0⟩
   |6,a=>
    nofun;obtain⟨_,e0,vs,g,_⟩:=k tJ i a;ac_rfl;rw[yl];calc⟨λz=>(by rw[z,Hv]at g;cases g),⟨vs,g⟩,6,by decide,by rw[q6];calc e0⟩
   |(t+7),a=>exact absurd a (aao i)
  have mono:∀t b,L t b≠none->L (t+1) b≠none:=by
   intro t
   match t with
   |0=>rw[q0,q1];calc pz _ _ (λb o n e=>Qw _ _ (ka b o n e)) ⟨_,Qw _ _ Tz⟩
   |1=>rw[q1,q2];calc pz _ _ (λb o n e=>RI _ _ (X5 b o n e)) ⟨_,RI _ _ qH⟩
   |2=>rw[q2,q3];calc pz _ _ (λb o n e=>RM _ _ (RJ b o n e)) ⟨_,RM _ _ Dg⟩
   |3=>rw[q3,q4];calc pz _ _ (λb o n e=>RQ _ _ (RN b o n e)) ⟨_,RQ _ _ zV⟩
   |4=>rw[q4,q5];calc pz _ _ (λb o n e=>RX _ _ (RU b o n e)) ⟨_,RX _ _ Qi⟩
   |5=>rw[q5,q6];calc pz _ _ (λb o n e=>R1 _ _ (RY b o n e)) ⟨_,R1 _ _ r6⟩
   |6=>rw[q6,q7 0];calc pz _ _ QA ⟨_,Hv⟩
   |(t+7)=>rw[q7,show t+7+1=(t+1)+7 by lia,q7];exact λb h=>h
  have u:∀t,t<=6->∀b,L t b≠none->S b≠none:=by
   intro t ht b h;have up:∀(d t:Nat) (b:Addr),L t b≠none->L (t+d) b≠none:=by
    intro d;induction d with
    |zero=>calc λt b h=>h
    |succ d ih=>exact λt b h=>mono _ _ (ih t b h)
   have:=up (7-t) t b h;rw[show t+(7-t)=0+7 by lia,q7]at this;exact this
  have Y:∀b,FP I.n ad b->H b=none:=by
   intro b hb;nofun;obtain⟨nb,_,t,ht,e⟩:=fp b hb;ac_rfl
   cases e0:H b with
   |none=>rfl
   |some o=>
    exfalso;have a0:L 0 b≠none:=by rw[q0,nxa b o nb e0];simp
    have up:∀(d t:Nat) (b:Addr),L t b≠none->L (t+d) b≠none:=by
     intro d;induction d with
     |zero=>calc λt b h=>h
     |succ d ih=>exact λt b h=>mono _ _ (ih t b h)
    have:=up t 0 b a0;rw[Nat.zero_add]at this;exact this e
  have nFx:∀b,FF b->b≠x:=λb h z=>by
   obtain⟨o,e,so⟩:=lD b h;rw[z,Z]at e;cases e;exact so
  have hz:∀b,(FF b\/FP I.n ad b)->∃o,S b=some o/\soft o:=by
   rintro b (h|h)
   ·obtain⟨o,e,so⟩:=lD b h;exact⟨o,U b o (nFx b h) e,so⟩
   ·obtain⟨_,⟨vs,e⟩,_⟩:=fp b h;exact⟨_,e,trivial⟩
  have F0:∀t i,i<I.n t->L t (ad t i)=none:=by
    intro t i a
    match t,a with
    |0,a=>rw[q0,Du];calc hp
    |1,a=>rw[q1,f7];calc(k vU i a).2.1
    |2,a=>rw[q2,gs];calc(k vV i a).2.1
    |3,a=>rw[q3,yi];calc(k vW i a).2.1
    |4,a=>rw[q4,yj];calc(k vX i a).2.1
    |5,a=>rw[q5,yk];calc(k pD i a).2.1
    |6,a=>rw[q6,yl];calc(k tJ i a).2.1
    |(t+7),a=>exact absurd a (aao i)
  have F1:∀t i,i<I.n t->L (t+1) (ad t i)≠none:=by
    intro t i a
    match t,a with
    |0,a=>rw[q1,Du,Qw _ _ ep];simp
    |1,a=>
     rw[q2,f7];nofun;obtain⟨_,_,vs,e,_⟩:=k QC i (by rw[Dt];calc a);ac_rfl;rw[RI _ _ e];simp
    |2,a=>
     rw[q3,gs];nofun;obtain⟨_,_,vs,e,_⟩:=k QE i (by rw[Dt];calc a);ac_rfl;rw[RM _ _ e];simp
    |3,a=>
     rw[q4,yi];nofun;obtain⟨_,_,vs,e,_⟩:=k QF i (by rw[Dt];calc a);ac_rfl;rw[RQ _ _ e];simp
    |4,a=>
     rw[q5,yj];nofun;obtain⟨_,_,vs,e,_⟩:=k QG i (by rw[f6];calc a);ac_rfl;rw[RX _ _ e];simp
    |5,a=>
     rw[q6,yk];nofun;obtain⟨_,_,vs,e,_⟩:=k QH i (by rw[f6];calc a);ac_rfl;rw[R1 _ _ e];simp
    |6,a=>
     rw[q7 0,yl];nofun;obtain⟨_,_,vs,e,_⟩:=k tJ i a;ac_rfl;rw[e];simp
    |(t+7),a=>exact absurd a (aao i)
  have F00:∀b,FF b->L 0 b≠none:=λb h=>by
   obtain⟨o,e,_⟩:=lD b h;rw[q0,nxa b o (nFx b h) e];simp
  have cD:dO FF S I.n ad (RS.new I).ct:=by
   refine HF L mono F0 F1 ?_ F00 ?_
   ·intro t i j a O e
    match t,a,O with
    |0,a,O=>
     have h1:i<1:=a;have h2:j<1:=O;lia
    |1,a,O=>rw[f7,f7]at e;calc pE vU i j a O e
    |2,a,O=>rw[gs,gs]at e;calc pE vV i j a O e
    |3,a,O=>rw[yi,yi]at e;calc pE vW i j a O e
    |4,a,O=>rw[yj,yj]at e;calc pE vX i j a O e
    |5,a,O=>rw[yk,yk]at e;calc pE pD i j a O e
    |6,a,O=>rw[yl,yl]at e;calc pE tJ i j a O e
    |(t+7),a,_=>exact absurd a (aao i)
   ·intro t i a
    match t,a with
    |0,a=>calc⟨.lst [],by rw[Du];calc QI,(dP.nil:dP _ 4 [] [])⟩
    |1,a=>
     nofun;obtain⟨_,_,vs,e,v,rfl,u⟩:=k vU i a;ac_rfl;calc⟨.lst [v],by rw[f7];calc e,(dP.one ((HG hz u).mono (by decide)):dP _ 4 [v] [_])⟩
    |2,a=>
     nofun;obtain⟨_,_,vs,e,rfl⟩:=k vV i a;ac_rfl;calc⟨.lst [.int 0],by rw[gs];calc e,(dP.one (.int 0):dP _ 4 [.int 0] [.int 0])⟩
    |3,a=>
     nofun;obtain⟨_,_,vs,e,rfl⟩:=k vW i a;ac_rfl;calc⟨.lst [],by rw[yi];calc e,(dP.nil:dP _ 4 [] [])⟩
    |4,a=>
     nofun;obtain⟨_,_,vs,e,rfl⟩:=k vX i a;ac_rfl;calc⟨.lst [],by rw[yj];calc e,(dP.nil:dP _ 4 [] [])⟩
    |5,a=>
     nofun;obtain⟨_,_,vs,e,rfl⟩:=k pD i a;ac_rfl;calc⟨.lst [],by rw[yk];calc e,(dP.nil:dP _ 4 [] [])⟩
    |6,a=>
     nofun;obtain⟨_,_,vs,e,rfl⟩:=k tJ i a;ac_rfl;calc⟨.lst [],by rw[yl];calc e,(dP.nil:dP _ 4 [] [])⟩
    |(t+7),a=>exact absurd a (aao i)
  have u:∃o:Nat->Addr,o 1=D1/\o 2=D2/\o 3=D3/\o 4=D4/\o 5=D5/\o 6=D6:=
   ⟨λt=>match t with
    |1=>D1
    |2=>D2
    |3=>D3
    |4=>D4
    |5=>D5
    | _=>D6,rfl,rfl,rfl,rfl,rfl,rfl⟩
  obtain⟨o,o1,o2,o3,o4,o5,o6⟩:=u;ac_rfl;have rf:∀{A:List Addr} {n:Nat} {H0 H':Hp} {D:Addr} {ct:Nat->Hp->List V->Prop} (t:Nat),sQ H0 H' D A n ct->I.n t=n->(∀i,ad t i=A.getD i 0)->A.map V.ref=iu I.n ad t:=λ{A n H0 H' D ct} t h g e2=>by
   unfold iu;rw[g];apply aa2 (by simp[h.len]);intro j h1 h2;have O:j<A.length:=by simpa using h1
   simp only[List.getElem_map,List.getElem_range,e2];congr 1;exact(getD_at (cE O)).symm
  have up:∀(d t:Nat) (b:Addr),L t b≠none->L (t+d) b≠none:=by
   intro d;induction d with
   |zero=>calc λt b h=>h
   |succ d ih=>exact λt b h=>mono _ _ (ih t b h)
  have Ln:∀(t:Nat) (D:Addr),L t D=none->L (t+1) D≠none->(∀i,i<I.n t->ad t i≠D)->¬FP I.n ad D:=by
   intro t D h0 h1 qg vL;nofun;obtain⟨t',i,a,rfl⟩:=vL;ac_rfl;rcases Nat.lt_trichotomy t t' with l|l|l
   ·obtain⟨d,rfl⟩:∃d,t'=t + 1 + d:=⟨t' - (t + 1),by lia⟩
    exact up d _ _ h1 (F0 _ i a)
   ·subst l;exact qg i a rfl
   ·obtain⟨d,rfl⟩:∃d,t=t' + 1 + d:=⟨t - (t' + 1),by lia⟩
    exact up d _ _ (F1 _ i a) h0
  have j:∀t D,L t D=none->¬FF D:=λt D h z=>by
   have:=up t 0 D (F00 D z);rw[Nat.zero_add]at this;exact this h
  have hR:cO C CN CR FF S x y I (RS.new I) ad:=by
   refine⟨⟨N,o,?_,?_⟩,cD,?_⟩
   ·rw[Hv,Ng,Ef,o1,o2,o3,o4,o5,o6];congr 2
   ·intro t u l
    match t,u,l with
    |1,_,_=>calc⟨by rw[o1,Nb,rf 1 vU rfl f7],by rw[o1];calc j 1 _ (by rw[q1];calc VM),by rw[o1];calc Ln 1 _ (by rw[q1];calc VM) (by rw[q2,RI _ _ VJ];simp) (λi a z=>(vU.new _ (Y' (k vU i a).1)).2 (by rw[<-f7];calc z))⟩
    |2,_,_=>calc⟨by rw[o2,Nc,rf 2 vV rfl gs],by rw[o2];calc j 2 _ (by rw[q2];calc PZ),by rw[o2];calc Ln 2 _ (by rw[q2];calc PZ) (by rw[q3,RM _ _ RK];simp) (λi a z=>(vV.new _ (Y' (k vV i a).1)).2 (by rw[<-gs];calc z))⟩
    |3,_,_=>calc⟨by rw[o3,Nd,rf 3 vW rfl yi],by rw[o3];calc j 3 _ (by rw[q3];calc P0),by rw[o3];calc Ln 3 _ (by rw[q3];calc P0) (by rw[q4,RQ _ _ RO];simp) (λi a z=>(vW.new _ (Y' (k vW i a).1)).2 (by rw[<-yi];calc z))⟩
    |4,_,_=>calc⟨by rw[o4,Nf,rf 4 vX rfl yj],by rw[o4];calc j 4 _ (by rw[q4];calc VW),by rw[o4];calc Ln 4 _ (by rw[q4];calc VW) (by rw[q5,RX _ _ RV];simp) (λi a z=>(vX.new _ (Y' (k vX i a).1)).2 (by rw[<-yj];calc z))⟩
    |5,_,_=>calc⟨by rw[o5,uN,rf 5 pD rfl yk],by rw[o5];calc j 5 _ (by rw[q5];calc V0),by rw[o5];calc Ln 5 _ (by rw[q5];calc V0) (by rw[q6,R1 _ _ RZ];simp) (λi a z=>(pD.new _ (Y' (k pD i a).1)).2 (by rw[<-yk];calc z))⟩
    |6,_,_=>calc⟨by rw[o6,R3,rf 6 tJ rfl yl],by rw[o6];calc j 6 _ (by rw[q6];calc V5),by rw[o6];calc Ln 6 _ (by rw[q6];calc V5) (by rw[q7 0,R3];simp) (λi a z=>(tJ.new _ (Y' (k tJ i a).1)).2 (by rw[<-yl];calc z))⟩
    |(t+7),_,h=>exact absurd h (by lia)
   ·calc⟨⟨ms,M,W,⟨dn,a1,b1,c1,U _ _ X R,U _ _ M3 g2,U _ _ M4 g3,U _ _ M5 g4⟩,ml,λi m d g e2=>?_,MR.aK (c _ _ U ⟨_,Z⟩).2⟩,aW⟩;nofun;obtain⟨d1,s1,d2,w1,w2,w3⟩:=yI i m d g e2;ac_rfl;have nm:m≠x:=λz=>by rw[z,Z] at w1;cases w1
    exact⟨d1,s1,d2,U _ _ nm w1,w2.aK (c _ _ U ⟨_,Z⟩).2,w3.aK (c _ _ U ⟨_,Z⟩).2⟩
  have abF:=Js.aK (c _ _ U ⟨_,Z⟩).2;clear QC vU QE vV QF vW QG vX QH pD tJ Nb Nc Nd Nf uN VJ X4 RK X7 RO X9 RV Yb RZ Yd R3 Yf QI kc0 V6 QB Na M9 Lm;left;calc⟨y,dn,_,rfl,U _ _ X R,eI (by decide +kernel) (by decide +kernel) (by decide +kernel),y,ms,M,W,rfl,⟨dn,a1,b1,c1,U _ _ X R,U _ _ M3 g2,U _ _ M4 g3,U _ _ M5 g4⟩,λll xU=>?_⟩;have s7:=av.new (.lst W) xU;have ell:upd S ll (.lst W) ll=some (.lst W):=af;generalize X0:upd S ll (.lst W)=G7 at *;have nll:¬FP I.n ad ll:=λz=>by
   obtain⟨_,⟨vs,e⟩,_⟩:=fp ll z;rw[xU]at e;cases e
  have c:=hR.same s7;have V7:=abF.aK s7.aS;have V8:W.length=ls.length:=by simpa using V7.1
  refine .inl ⟨⟨_,aR.of ell⟩,jv (K:=K) (xs:=W) (λi σ H'=>(∃z2 z3,σ=[some (V.ref x),some (V.ref y),z2,z3])/\Fr (FP I.n ad) G7 H'/\cO C CN CR FF H' x y I ((RS.new I).kq (ls.take i)) ad) ?_ ?_ ?_ ?_⟩
  ·exact⟨⟨_,_,rfl⟩,Fr.refl,c⟩
  ·rintro i σ H' a ⟨_,fi,_⟩;exact aR.of (fi.at ell nll)
  ·intro i z σ H' hz xK;nofun;obtain⟨⟨z2,z3,rfl⟩,fi,Eh⟩:=xK;have a:i < ls.length:=by rw[<-V8];exact(List.getElem?_eq_some_iff.mp hz).1
   have c:ls[i]?=some ls[i]:=cE a;have Qv:=(V7.2 i z (ql ls[i]) hz (by rw[List.getElem?_map,c];rfl)).aK fi.aS;have HM:=uk _ (aai a);have Lk:(RS.new I).kq (ls.take (i+1))=((RS.new I).kq (ls.take i)).put ls[i].1.toNat ls[i].2 none:=by
    rw[List.take_succ,c];exact pC _
   generalize ls[i]=p at *;obtain⟨pj,px⟩:=p;obtain⟨tz,u1,u2,kz,rfl,DT,y1,y2⟩:=cy Qv;obtain rfl:=y1.bN;obtain rfl:=y2.bN;ac_rfl;calc yG (bM.of DT) ?_;left;obtain⟨c,g,a,j⟩:=Eh.ins;calc eV a (fz (by decide +kernel)) ?_;have c:((pj.toNat:Nat):Int)=pj:=aaZ HM.1;refine⟨FF,x,y,I,_,ad,pj.toNat,px,.bD,none,by rw[c],Eh,λb h=>by
    obtain⟨o,e,so⟩:=lD b h;calc⟨o,fi.at (s7 _ _ (U b o (nFx b h) e)) (λz=>by rw[Y b z] at e;cases e),so⟩,by have:=HM.2;show pj.toNat < _;simp at this;lia,.bD,(qV (ls.take i) (Ai aW)).mono (by simp;lia),λc g a=>?_⟩
   left;calc gN ⟨_,_,rfl,rfl⟩ (fi.trans g) ?_;rw[Lk];exact a
  ·rintro σ H' ⟨_,fi,Eh⟩;rw[V8,List.take_length]at Eh;calc q ad _ (λb o n e=>?_) Y Eh;calc fi.at (s7 _ _ (U b o n e)) λz=>?_;rw[Y b z]at e;cases e
def gR(H:Hp)(x:V)(M:Int)(ns a:List Int)(e:List bF):Prop:=∃t b c d xs,x=.ref t/\H t=some (.tup [.int M,.ref b,.ref c,.ref d])/\H b=some (.lst (ns.map V.int))/\H c=some (.lst (a.map V.int))/\H d=some (.lst xs)/\gY H 2 xs (e.map bF.dv)
theorem gR.cv{x:V}{M:Int}{a:List Int}{b:List bF}(s:Cv H H')(h:gR H x M ns a b):gR H' x M ns a b:=by
 obtain⟨t,a,b,c,d,e,f,g,i,j,l⟩:=h;calc⟨t,a,b,c,d,e,s _ _ f (λk z=>by cases z),s _ _ g (λk z=>by cases z),s _ _ i (λk z=>by cases z),s _ _ j (λk z=>by cases z),l.aK s.aS⟩
def Ak(H:Hp)(mv:List V)(gO:List MD):Prop:=mv.length=gO.length/\∀(i:Nat) v d,mv[i]?=some v->gO[i]?=some d->gR H v d.M d.ns d.row d.ds
theorem Ak.cv(s:Cv H H')(h:Ak H mv gO):Ak H' mv gO:=⟨h.1,λi v d a b=>(h.2 i v d a b).cv s⟩
def ToldN(H:Hp)(x:V)(gO:List MD)(ws:List (Int×Int×Str))(ls:List (Int×Int)):Prop:=∃t a b c mv d e,x=.ref t/\H t=some (.tup [.ref a,.ref b,.ref c])/\H a=some (.lst mv)/\H b=some (.lst d)/\H c=some (.lst e)/\Ak H mv gO/\gY H 1 d (ws.map lL)/\gY H 1 e (ls.map ql)
theorem ToldN.cv{x:V}(s:Cv H H')(h:ToldN H x gO ws ls):ToldN H' x gO ws ls:=by
 obtain⟨t,a,b,c,mv,d,f,e,g,i,j,l,m,n,o⟩:=h;calc⟨t,a,b,c,mv,d,f,e,s _ _ g (λk z=>by cases z),s _ _ i (λk z=>by cases z),s _ _ j (λk z=>by cases z),s _ _ l (λk z=>by cases z),m.cv s,n.aK s.aS,o.aK s.aS⟩
def Jx(tn:V)(ev:Addr)(o:Nat->Addr):List (Key×V):=[(.inr "net",tn),(.inr "put",.ref (o 4)),(.inr "sender",.ref (o 5)),(.inr "worker",.ref (o 6)),(.inr "states",.ref (o 1)),(.inr "words",.ref (o 2)),(.inr "heard",.ref (o 3)),(.inr "events",.ref ev)]
section
variable {H:Hp}{d:Addr}{tn:V}{ev:Addr}{o:Nat->Addr}
theorem Dv(h:H d=some (.dK (Jx tn ev o))):gc H d (.str "net") (some tn):=.inl ⟨_,.inr "net",.inl h,rfl,by kernel_rfl⟩
theorem tK(h:H d=some (.dK (Jx tn ev o))):gc H d (.str "put") (some (.ref (o 4))):=.inl ⟨_,.inr "put",.inl h,rfl,by kernel_rfl⟩
theorem HN(h:H d=some (.dK (Jx tn ev o))):gc H d (.str "sender") (some (.ref (o 5))):=.inl ⟨_,.inr "sender",.inl h,rfl,by kernel_rfl⟩
theorem Lo(h:H d=some (.dK (Jx tn ev o))):gc H d (.str "worker") (some (.ref (o 6))):=.inl ⟨_,.inr "worker",.inl h,rfl,by kernel_rfl⟩
theorem QJ(h:H d=some (.dK (Jx tn ev o))):gc H d (.str "states") (some (.ref (o 1))):=.inl ⟨_,.inr "states",.inl h,rfl,by kernel_rfl⟩
theorem V9(h:H d=some (.dK (Jx tn ev o))):gc H d (.str "words") (some (.ref (o 2))):=.inl ⟨_,.inr "words",.inl h,rfl,by kernel_rfl⟩
theorem Lp(h:H d=some (.dK (Jx tn ev o))):gc H d (.str "heard") (some (.ref (o 3))):=.inl ⟨_,.inr "heard",.inl h,rfl,by kernel_rfl⟩
theorem Lq(h:H d=some (.dK (Jx tn ev o))):gc H d (.str "events") (some (.ref ev)):=.inl ⟨_,.inr "events",.inl h,rfl,by kernel_rfl⟩
end
def _root_.DD.RS.tv(r:RS):Nat->Nat->CO
 |0,_=>.l (r.picks.map pairD)
 |1,m=>.l ((r.mm m).gC.map rR)
 |2,m=>.l ((r.mm m).wp.map λw=>.lst (w.map .int))
 |3,m=>.l ((r.mm m).hr.map λw=>.lst (w.map .int))
 |4,w=>.l ((r.ww w).say.map .int)
 |5,w=>.l ((r.ww w).snd.map nh)
 |_,w=>.d (jR (r.ww w).dy) ((r.ww w).dy.countP Option.isSome)
theorem count_set{e:Int×Int}:∀{l:List (Option (Int×Int))}{k:Nat},l[k]?=some none->(l.set k (some e)).countP Option.isSome=l.countP Option.isSome+1
 | [],k,h=>by simp at h
 |a::r,0,h=>by simp at h;subst h;simp
 |a::r,k+1,h=>by
  have b:=count_set (e:=e) (l:=r) (k:=k) (by simpa using h);simp only[List.set_cons_succ,List.countP_cons];rw[b];lia
theorem HQ{l:List (Option (Int×Int))}{k:Nat}(h:k<l.length)(j:Int):jR (l.set k (some e)) j=if j=((k:Nat):Int) then some (pairD e) else jR l j:=by
 unfold jR;by_cases a:0<=j
 ·rw[if_pos a,if_pos a];by_cases z:j=((k:Nat):Int)
  ·subst z;rw[if_pos rfl,Int.toNat_natCast,List.getD_eq_getElem?_getD,List.getElem?_set];simp[h]
  ·rw[if_neg z,List.getD_eq_getElem?_getD,List.getElem?_set,if_neg (by lia),<-List.getD_eq_getElem?_getD]
 ·rw[if_neg a,if_neg a,if_neg (by lia)]
theorem Dw{l:List (Option (Int×Int))}:jR (l++[none])=jR l:=by
 funext j;unfold jR;split
 ·congr 1;rw[List.getD_eq_getElem?_getD,List.getD_eq_getElem?_getD,List.getElem?_append];split
  ·rfl
  ·next z=>
   rw[List.getElem?_eq_none (l:=l) (by lia)]
   cases a:j.toNat-l.length with
   |zero=>rfl
   |succ n=>rfl
 ·rfl
structure cq(F:Addr->Prop)(H:Hp)(d:Addr)(tn:V)(nt:NT)(r:RS)(ad:Nat->Nat->Addr):Prop where
 dk:∃o,H d=some (.dK (Jx tn (ad 0 0) o))/\¬F d/\¬FP nt.n ad d/\∀t,1<=t->t<=6->H (o t)=some (.lst (iu nt.n ad t))/\¬F (o t)/\¬FP nt.n ad (o t)
 cD:dO F H nt.n ad r.tv
 told:∃ls,ToldN (jE (λb=>F b\/FP nt.n ad b) H) tn nt.ms nt.ws ls
 ok:nt.Ok
section
variable {F:Addr->Prop}{H H':Hp}{d:Addr}{tn:V}{nt:NT}{r:RS}{ad:Nat->Nat->Addr}
theorem cq.keep(h:cq F H d tn nt r ad)(f:Fr F H H'):cq F H' d tn nt r ad:=by
 obtain⟨⟨o,g,e,i,c⟩,j,⟨ls,k⟩,l⟩:=h;calc⟨⟨o,f.at g e,e,i,λt a b=>⟨f.at (c t a b).1 (c t a b).2.1,(c t a b).2⟩⟩,j.keep f,⟨ls,k.cv (f.mono λb z=>.inl z).jE⟩,l⟩
theorem cq.same(h:cq F H d tn nt r ad)(s:av H H'):cq F H' d tn nt r ad:=h.keep s.fr
theorem cq.own{c:RS}(h:cq F H d tn nt r ad)(f:Fr (FP nt.n ad) H H')(b:dO F H' nt.n ad c.tv):cq F H' d tn nt c ad:=by
 obtain⟨⟨o,g,i,e,c⟩,l,⟨ls,j⟩,k⟩:=h;calc⟨⟨o,f.at g e,i,e,λt a b=>⟨f.at (c t a b).1 (c t a b).2.2,(c t a b).2⟩⟩,b,⟨ls,j.cv (f.mono λb z=>.inr z).jE⟩,k⟩
end
theorem Dx{l:List (Option (Int×Int))}{k:Nat}:(jR l ((k:Nat):Int)).isSome= !(l.getD k none).isNone:=by
 unfold jR;rw[if_pos (by lia),Int.toNat_natCast]
 cases l.getD k none<;>rfl
theorem Dy{H0 H:Hp}{a:Addr}{b:List (Key×V)}{g:Int->Option DV}{N:Nat}(e:H a=some (.dK b))(h:OR H0 (.d g N) (.dK b))(k:Int):∃o,gc H a (.int k) o/\o.isSome=(g k).isSome:=by
 calc bE _ (gc.k (k:=Sum.inl k) e) ?_;have:=h.2 k;revert this
 cases g k with
 |none=>intro h;rw[h];rfl
 |some d=>intro⟨v,h,_⟩;rw[h];rfl
abbrev kN:Stmt:=top 57
def HR:Sp:=λvs H Q _=>∃(F:Addr->Prop) (d:Addr) (tn:V) (nt:NT) (r:RS) (ad:Nat->Nat->Addr) (m:Nat),vs=[.ref d,.int m]/\cq F H d tn nt r ad/\r.Ok nt/\r.picks.length<=400/\m<nt.ws.length/\∀l H',av H H'->H l=none->H' l=some (.lst ((r.Ej m).map λk=>.int (k:Nat)))->Q (.ref l) H'
theorem ym(D:cZ K mg "_law_lying" "_law_lying" kN ["_law_run","_law_way"])(T:Tx K mg C CN CR F FD):Def P w K mg base "_law_lying" 1 ["_law_run","_law_way"] HR:=by
 have sc:aE ["_law_run","_law_way"] ["_law_run","_law_way"] (az kN):=by walk_at "s"
 symm
 ·obtain⟨F,d,tn,g,r,ad,m,rfl,j,k,B,b,q⟩:=h;rfl
 ·nofun;obtain⟨F,d,tn,g,r,ad,m,rfl,j,k,B,b,q⟩:=h;ac_rfl;have g:=hr.units;have B:=Ut g;calc⟨_,(ao (aI (dE (N':=["_law_k","_law_way","_law_run"]) (ix:=[none,some 1,some 0]) (de rfl T.eW (ag (bg aP rfl T.b4 U' (ag (ak g (ak g (aq 0) aD) (aq 1)) aa)) aa)) (λ_ _ _ _=>(bb (i:=0) (show(["_law_k","_law_way","_law_run"]:List Str).Nodup by decide +kernel) rfl (by grind))) (λ_ _ _ _=>(lp (NX (Cs B (aq 0) (eU (K:=K) rfl g (eU (K:=K) rfl g (aq 2) aD) (aq 1)))))) (λ_ _ _ _=>(aq 0))))),?_⟩;nofun;obtain⟨o,v,B,I,g⟩:=j.dk;have B:=(g 4 (by decide) (by decide)).1;have G:=(g 6 (by decide) (by decide)).1;obtain⟨I,L,M⟩:=j.cD.lst (t:=4) (i:=m) b rfl;obtain⟨g,N,O⟩:=j.cD.Z7 (t:=6) (i:=m) b rfl;ac_rfl;have g:I.length=(r.ww m).say.length:=by simpa using M.1
  have j:=k.bs m b;left;calc bT ?_;left;calc bE _ (tK v) ?_;left;calc bC B (aY b) ?_;calc bE _ (.inl ⟨_,aR.of L,rfl⟩) ?_;left;rw[g];calc gN (by lia) (by lia) (λD p=>?_);rw[Int.toNat_natCast];refine bx (J:=AF 0 (r.ww m).say.length) (n:=(r.ww m).say.length) (λi ys H'=>av H H'/\ys=((List.range i).filter λk=>((r.ww m).dy.getD k none).isNone).map λk=>V.int (k:Nat)) (P' (small (by lia))) ⟨av.new _ p,rfl⟩ (λi ys H' u _=>u) (λys H' _=>L' _) ?_ ?_
  ·intro i ys H' u l y R x H2 S;nofun;obtain⟨a,rfl⟩:=R;obtain⟨rfl,rfl⟩:=S;ac_rfl;walk_at "xg";left;refine bE _ (Lo (a _ _ v)) ?_;left;refine bC (a _ _ G) (aY b) ?_;rw[Int.zero_add];obtain⟨g,j,k⟩:=Dy (a _ _ N) O ((i:Nat):Int);refine⟨ad 6 m,g,rfl,j,?_⟩;rw[k,Dx,Bool.not_not];left;by_cases z:((r.ww m).dy.getD i none).isNone=true
   ·rw[z]
    try rw[if_pos rfl]
    calc cn l y u (P' (small (by lia))) ⟨λc o e=>by rw[ay (au e p)];calc a _ _ e,?_⟩;rw[fA,if_pos z,List.map_append];rfl
   ·rw[Bool.not_eq_true] at z;rw[z]
    try rw[if_neg (by decide)]
    exact⟨_,l,by lia,a,by rw[fA,if_neg (by rw[z];decide),List.append_nil]⟩
  ·rintro ys H' l y ⟨a,rfl⟩;calc q _ _ a p l
def fB(nt:NT)(r:RS)(w:Nat):List Nat:=if (nt.w w).2.2="row" then(r.Ej w).take 1 else r.Ej w
def kd(nt:NT)(r:RS)(n:Nat):List (Nat×Nat):=(List.range n).flatMap λw=>(fB nt r w).map λk=>(w,k)
theorem mI{nt:NT}{n:Nat}:kd nt r (n+1)=kd nt r n++(fB nt r n).map λk=>(n,k):=by
 unfold kd;rw[List.range_succ,List.flatMap_append];simp
theorem gY.app{n:Nat}{vs us:List V}{c:List DV}(h:gY H n vs c)(g:gY H n us es):gY H n (vs++us) (c++es):=by
 calc⟨by simp[h.1,g.1],λi v d a b=>?_⟩;by_cases c:i<vs.length
 ·rw[List.getElem?_append_left c]at a;rw[List.getElem?_append_left (by rw[<-h.1];calc c)]at b;exact h.2 i _ _ a b
 ·rw[List.getElem?_append_right (by lia)]at a;rw[List.getElem?_append_right (by rw[<-h.1];lia),<-h.1]at b;calc g.2 _ _ _ a b
theorem vY{w:Nat}:(r.Ej w).length<=(r.ww w).say.length:=by
 unfold RS.Ej;calc aap (List.length_filter_le _ _) (by simp)
theorem uO{nt:NT}{w:Nat}:(fB nt r w).length<=(r.ww w).say.length:=by
 unfold fB;split
 ·rw[List.length_take];have:=vY (r:=r) (w:=w);lia
 ·calc vY
theorem pF{nt:NT}{r:RS}{B:Nat}:∀n,(∀w,w<n->(r.ww w).say.length<=B)->(kd nt r n).length<=n*B
 |0,_=>by simp[kd]
 |n+1,h=>by
  rw[mI,List.length_append,List.length_map];have a:=pF (nt:=nt) n (λw a=>h w (by lia));have a:=h n (by lia);have a:=uO (nt:=nt) (r:=r) (w:=n);rw[Nat.succ_mul];lia
def Yg(p:Nat×Nat):DV:=pairD (((p.1:Nat):Int),((p.2:Nat):Int))
theorem Dz{r:RS}{w k:Nat}(h:k∈(r.Ej w).take 1):∀j,j<k->((r.ww w).dy.getD j none).isNone=false:=by
 unfold RS.Ej at h;generalize b:(List.range (r.ww w).say.length).filter (λk=>((r.ww w).dy.getD k none).isNone)=l at h
 cases l with
 |nil=>simp at h
 |cons a t=>
  simp at h;subst h;intro j g;have f:(List.range (r.ww w).say.length).Pairwise (· < ·):=List.pairwise_lt_range;have c:=f.filter (λk=>((r.ww w).dy.getD k none).isNone);rw[b]at c;have f:k∈(List.range (r.ww w).say.length).filter (λk=>((r.ww w).dy.getD k none).isNone):=by rw[b];simp
  rw[List.mem_filter,List.mem_range]at f
  cases z:((r.ww w).dy.getD j none).isNone with
  |false=>rfl
  |true=>
   exfalso;have d:j∈(List.range (r.ww w).say.length).filter (λk=>((r.ww w).dy.getD k none).isNone):=by
    rw[List.mem_filter,List.mem_range];exact⟨by lia,z⟩
   rw[b]at d;rcases List.mem_cons.mp d with e|e
   ·lia
   ·have:=(List.pairwise_cons.mp c).1 j e;lia
theorem HS{nt:NT}(h:r.Ok nt){w k:Nat}(c:(w,k)∈kd nt r nt.ws.length):r.Vq nt w k:=by
 unfold kd at c;rw[List.mem_flatMap]at c;obtain⟨j,a,c⟩:=c;rw[List.mem_range]at a;rw[List.mem_map]at c;obtain⟨j,b,e⟩:=c
 cases e;have f:k∈r.Ej w:=by
  unfold fB at b;split at b
  ·exact List.mem_of_mem_take b
  ·exact b
 have g:k<(r.ww w).say.length/\((r.ww w).dy.getD k none).isNone=true:=by
  unfold RS.Ej at f;rw[List.mem_filter,List.mem_range]at f;exact f
 have c:=h.lk w a;refine⟨a,?_,λi c=>?_⟩
 ·rw[bt (d:=none) (by lia)]
  cases z:(r.ww w).dy.getD k none with
  |none=>rfl
  |some e=>rw[z]at g;simp at g
 ·unfold fB at b;rw[if_pos i] at b;have:=Dz b (k - 1) (by lia);rw[bt (d:=none) (show k - 1 < (r.ww w).dy.length by lia)]
  cases z:(r.ww w).dy.getD (k-1) none with
  |none=>rw[z]at this;simp at this
  |some e=>calc⟨e,rfl⟩
theorem QK{xs:List V}:eJ xs none (some 1)=xs.take 1:=by
 unfold eJ;have b:HT.eE xs.length 0 none=0:=rfl;rw[b]
 cases xs with
 |nil=>simp
 |cons a r=>
  have b:HT.eE (a::r).length (a::r).length (some 1)=1:=by
   unfold HT.eE;simp
  rw[b];simp
abbrev mJ:Stmt:=top 58
def HU:Sp:=λvs H Q _=>∃(F:Addr->Prop) (d:Addr) (tn:V) (nt:NT) (r:RS) (ad:Nat->Nat->Addr),vs=[.ref d]/\cq F H d tn nt r ad/\r.Ok nt/\r.picks.length<=400/\∀l ys H',av H H'->H l=none->H' l=some (.lst ys)->gY H' 1 ys ((kd nt r nt.ws.length).map Yg)->Q (.ref l) H'
theorem Al(D:cZ K mg "_law_free" "_law_free" mJ ["_law_run"])(T:Tx K mg C CN CR F FD)(kO:Def P w K mg base "_law_lying" 1 ["_law_run","_law_way"] HR):Def P w K mg base "_law_free" 2 ["_law_run"] HU:=by
 have sc:aE ["_law_run","_law_free_here","_law_way","_law_told_here","_law_numbers"] ["_law_run"] (az mJ):=by walk_at "s"
 symm
 ·obtain⟨F,d,tn,a,r,ad,rfl,O,fU,Dp,q⟩:=h;rfl
 ·nofun;obtain⟨F,d,tn,a,r,ad,rfl,O,fU,Dp,q⟩:=h;ac_rfl;have hu:=hr.units;refine⟨_,(aj (ba (i:=1) sc.nd rfl (by grind) (bR aa))
   (aj (fH PassesOwn.never rfl (ly rfl T.eQ (ag (ak hu (ak hu (aq 0) aD) ai) aa)) (iV (i:=2) (j:=3) rfl sc.nd rfl rfl (by grind) (by grind))
   (aj (ba (i:=4) sc.nd rfl (by grind) (aM kO hr (ag (aq 0) (ag (aq 2) aa))))
   (aj (aT (aC (aV hu) (ak hu (aq 3) ai) aD (aH _)) (ao (ba (i:=4) sc.nd rfl (by grind) (vD (aq 4) qG (lj ai)))) aJ)
   (ao (ba (i:=1) sc.nd rfl (by grind) (aU cR (aq 1) (dE (N':=["_law_number","_law_way"]) (ix:=[none,some 2]) (cu (pv 4)) (λ_ _ _ _=>(bb (i:=0) (show(["_law_number","_law_way"]:List Str).Nodup by decide +kernel) rfl (by grind))) oq (λ_ _ _ _=>(bQ (ag (aq 1) (ag (aq 0) aa)))))))))))
   (ao (aI (aq 1))))),?_⟩
  nofun;obtain⟨o,hd,T,nP,ho⟩:=O.dk;obtain⟨ls,t,am,aw,al,mv,wv,lv,rfl,T,h2,h3,h4,h5,h6,h7⟩:=O.told;have g1:=(dG T (λk z=>by cases z)).2;have g3:=(dG h3 (λk z=>by cases z)).2
  replace h6:=h6.aK eA.aS
  ac_rfl;have f6:wv.length=a.ws.length:=by simpa using h6.1
  have t:wv.length<=10:=by rw[f6];exact O.ok.CS
  have hB:∀w,w<a.ws.length->(r.ww w).say.length<=9620:=λw hw=>by have:=fU.bs w hw;lia
  left;calc⟨aav _,λl0 Va=>?_⟩;have s0:=av.new (.lst []) Va;have Yi:upd H l0 (.lst []) l0=some (.lst []):=af;generalize hG0:upd H l0 (.lst [])=G0 at *;left;refine Dv (s0 _ _ hd) |> λh=>⟨_,h,?_⟩
  refine dR (s0 _ _ g1) (aA (j:=1) rfl) ⟨true,wv,Sq.l (s0 _ _ g3),nE (xs:=wv) (λi σ H'=>∃z2 z3 z4 R ys,σ=[some (V.ref d),some (V.ref R),z2,z3,z4]/\av H H'/\H R=none/\H' R=some (.lst ys)/\gY H' 1 ys ((kd a r i).map Yg)) ?_ ?_ ?_ ?_⟩
  ·exact⟨_,_,_,l0,[],rfl,s0,Va,Yi,show gY _ 1 [] [] from gY.nil⟩
  ·intro i σ H' t;nofun;obtain⟨_,_,_,_,_,_,v,_⟩:=t;ac_rfl;exact Sq.l (v _ _ g3)
  ·intro i x σ H' tt hx vJ Vk;nofun;obtain⟨z2,z3,z4,R,ys,rfl,v,S,Yj,G⟩:=vJ;have Eb:i < a.ws.length:=by rw[<-f6];exact(List.getElem?_eq_some_iff.mp hx).1
   have s2:=av.new (.tup [.int (i:Nat),x]) Vk;have ett:upd H' tt (.tup [.int (i:Nat),x]) tt=some (.tup [.int (i:Nat),x]):=af;have zY:=(h6.2 i x (lL (a.w i)) hx (by rw[List.getElem?_map,show a.ws[i]?=some (a.w i) from bt Eb];rfl)).aK (v.trans s2).aS;generalize MC:upd H' tt (.tup [.int (i:Nat),x])=G2 at *;obtain⟨ta,u1,u2,u3,kk,rfl,ye,y1,y2,y3⟩:=bX zY;obtain rfl:=y1.bN;obtain rfl:=y2.bN;obtain rfl:=y3.bO;ac_rfl;calc yG (bM.of ett) ?_;left;calc⟨F,d,_,a,r,ad,i,rfl,(O.same v).same s2,fU,Dp,Eb,λln U t x m=>?_⟩;have pq:av H' U:=s2.trans t;have x:=vY (r:=r) (w:=i);have x:=uO (nt:=a) (r:=r) (w:=i);have x:=hB i Eb;left;calc dR (t _ _ ye) (aA (j:=2) rfl) ?_;left;by_cases hV:(a.w i).2.2="row"
   ·rw[if_pos (by simp[hV])];left;calc .inl ⟨_,m,λl2 t=>?_⟩;rw[QK];have s4:=av.new (.lst (((r.Ej i).map λk=>V.int ((k:Nat):Int)).take 1)) t;have QL:upd U l2 (.lst (((r.Ej i).map λk=>V.int ((k:Nat):Int)).take 1)) l2=some (.lst ((fB a r i).map λk=>V.int ((k:Nat):Int))):=by
     unfold fB;rw[af,if_pos hV,List.map_take]
    generalize t:upd U l2 (.lst (((r.Ej i).map λk=>V.int ((k:Nat):Int)).take 1))=H5 at *;have Ed:=pq.trans s4;clear m;have m:=QL;left;calc bT ?_;left;calc .inl ⟨⟨_,aR.of m⟩,λD W=>?_⟩;refine bx (J:=u7 K l2) (n:=(fB a r i).length) (λj g H'=>av H5 H'/\gY H' 1 g (((fB a r i).take j).map λk=>Yg (i,k))) (P' (small (by lia))) ⟨av.new _ W,show gY _ 1 [] [] from gY.nil⟩ ?_ ?_ ?_ ?_
    ·rintro j g H' p ⟨b,_⟩;exact⟨_,_,aR.of (b _ _ m),by rw[List.getElem?_map,cE p];rfl⟩
    ·rintro g H' ⟨b,_⟩;exact⟨_,aR.of (b _ _ m),by simp⟩
    ·intro j g H' p I X vL xx Y xK;nofun;obtain⟨b,u⟩:=vL;obtain⟨rfl,hy⟩:=xK;have Z:=hy _ (aR.of (b _ _ m));rw[List.getElem?_map,cE p] at Z;obtain rfl:=Option.some.inj Z;ac_rfl;walk_at "xg";left
     try rw[if_pos trivial]
     calc⟨dq,λL ou=>?_⟩;have M:=av.new (.tup [.int ((i:Nat):Int),.int (((fB a r i)[j]:Nat):Int)]) ou;have HW:=M _ _ I;calc cn HW X p (P' (small (by lia))) ⟨λc o e=>by rw[ay (au e W)];calc M _ _ (b _ _ e),?_⟩;have tu:bS (upd Y L (.tup [.int ((i:Nat):Int),.int (((fB a r i)[j]:Nat):Int)])) (upd (upd Y L (.tup [.int ((i:Nat):Int),.int (((fB a r i)[j]:Nat):Int)])) D (.lst (g++[.ref L]))):=(bS.refl _).upd λzs e=>by rw[HW]at e;cases e
     rw[List.take_succ,cE p,List.map_append];exact((u.aK M.aS).snoc (c9 (n:=0) af (.int _) (.int _))).aK tu
    rintro g H6 I X ⟨b,u⟩;rw[List.take_length]at u;have y:av H' H6:=Ed.trans b;left;refine .inl ⟨_,_,y _ _ Yj,I,?_,λN HX=>?_⟩
    ·have a1:=G.1;have a2:=u.1;have a3:=pF (nt:=a) (r:=r) (B:=9620) i (λw hw=>hB w (by lia));simp at a1 a2;rw[sizeLine_eq];have a5:i<=9:=by lia
     have a4:i*9620<=9*9620:=Nat.mul_le_mul_right _ a5;lia
    have s7:=av.new (.lst (ys++g)) HX;left;calc Uw _ _ _ N _ ⟨rfl,rfl,rfl,rfl⟩ (v.trans (y.trans s7)) ((v.trans y).free HX) af ?_;rw[mI,List.map_append];calc((G.aK y.aS).app ?_).aK s7.aS;rw[List.map_map];exact u
   ·rw[if_neg (by simp[hV])];have QL:U ln=some (.lst ((fB a r i).map λk=>V.int ((k:Nat):Int))):=by
     unfold fB;rw[if_neg hV];exact m
    clear m;have m:=QL;left;calc bT ?_;left;calc .inl ⟨⟨_,aR.of m⟩,λD W=>?_⟩;refine bx (J:=u7 K ln) (n:=(fB a r i).length) (λj g H'=>av U H'/\gY H' 1 g (((fB a r i).take j).map λk=>Yg (i,k))) (P' (small (by lia))) ⟨av.new _ W,show gY _ 1 [] [] from gY.nil⟩ ?_ ?_ ?_ ?_
    ·rintro j g H' p ⟨b,_⟩;exact⟨_,_,aR.of (b _ _ m),by rw[List.getElem?_map,cE p];rfl⟩
    ·rintro g H' ⟨b,_⟩;exact⟨_,aR.of (b _ _ m),by simp⟩
    ·intro j g H' p I X K7 xx Y Qa;nofun;obtain⟨b,u⟩:=K7;obtain⟨rfl,hy⟩:=Qa;have Z:=hy _ (aR.of (b _ _ m));rw[List.getElem?_map,cE p] at Z;obtain rfl:=Option.some.inj Z;ac_rfl;walk_at "xg";left
     try rw[if_pos trivial]
     calc⟨dq,λL ou=>?_⟩;have M:=av.new (.tup [.int ((i:Nat):Int),.int (((fB a r i)[j]:Nat):Int)]) ou;have HW:=M _ _ I;calc cn HW X p (P' (small (by lia))) ⟨λc o e=>by rw[ay (au e W)];calc M _ _ (b _ _ e),?_⟩;have tu:bS (upd Y L (.tup [.int ((i:Nat):Int),.int (((fB a r i)[j]:Nat):Int)])) (upd (upd Y L (.tup [.int ((i:Nat):Int),.int (((fB a r i)[j]:Nat):Int)])) D (.lst (g++[.ref L]))):=(bS.refl _).upd λzs e=>by rw[HW]at e;cases e
     rw[List.take_succ,cE p,List.map_append];exact((u.aK M.aS).snoc (c9 (n:=0) af (.int _) (.int _))).aK tu
    rintro g H6 I X ⟨b,u⟩;rw[List.take_length]at u;have y:av H' H6:=pq.trans b;left;refine .inl ⟨_,_,y _ _ Yj,I,?_,λN HX=>?_⟩
    ·have a1:=G.1;have a2:=u.1;have a3:=pF (nt:=a) (r:=r) (B:=9620) i (λw hw=>hB w (by lia));simp at a1 a2;rw[sizeLine_eq];have a5:i<=9:=by lia
     have a4:i*9620<=9*9620:=Nat.mul_le_mul_right _ a5;lia
    have s7:=av.new (.lst (ys++g)) HX;left;calc Uw _ _ _ N _ ⟨rfl,rfl,rfl,rfl⟩ (v.trans (y.trans s7)) ((v.trans y).free HX) af ?_;rw[mI,List.map_append];calc((G.aK y.aS).app ?_).aK s7.aS;rw[List.map_map];exact u
  ·intro σ H' Qc;nofun;obtain⟨z2,z3,z4,R,ys,rfl,v,S,Yj,G⟩:=Qc;ac_rfl;rw[f6]at G;left;calc q _ _ _ v S Yj G
def DB(H H':Hp):Prop:=∀b o,H b=some o->(∀k,o≠.own k)->H' b=some o
theorem DB.aS(h:DB H H'):bS H H':=λb a e=>h b _ e (λk z=>by cases z)
theorem _root_.L2.av.Jz(s:av H H'):DB H H':=λb o e _=>s b o e
theorem DB.trans(a:DB H H1)(b:DB H1 H2):DB H H2:=λc o e n=>b c o (a c o e n) n
theorem gR.Jz{x:V}{M:Int}{a:List Int}{b:List bF}(s:DB H H')(h:gR H x M ns a b):gR H' x M ns a b:=by
 obtain⟨t,a,b,c,d,e,f,g,i,j,l⟩:=h;calc⟨t,a,b,c,d,e,s _ _ f (λk z=>by cases z),s _ _ g (λk z=>by cases z),s _ _ i (λk z=>by cases z),s _ _ j (λk z=>by cases z),l.aK s.aS⟩
theorem Ak.Jz(s:DB H H')(h:Ak H mv gO):Ak H' mv gO:=⟨h.1,λi v d a b=>(h.2 i v d a b).Jz s⟩
theorem Ak.nil:Ak H [] []:=⟨rfl,λi v d a=>by simp at a⟩
theorem Ak.snoc{v:V}{d:MD}(h:Ak H mv gO)(g:gR H v d.M d.ns d.row d.ds):Ak H (mv++[v]) (gO++[d]):=by
 calc⟨by simp[h.1],λi y e a b=>?_⟩;by_cases c:i<mv.length
 ·rw[List.getElem?_append_left c]at a;rw[List.getElem?_append_left (by rw[<-h.1];calc c)]at b;exact h.2 i _ _ a b
 ·rw[List.getElem?_append_right (by lia)] at a;rw[List.getElem?_append_right (by rw[<-h.1];lia),<-h.1] at b
  cases f:i-mv.length with
  |zero=>rw[f]at a b;cases a;cases b;calc g
  |succ k=>rw[f]at a;simp at a
def mask(a b c:Addr)(H:Hp):Hp:=λx=>if x=a\/x=b\/x=c then some (.own 0) else H x
theorem nZ{c x:Addr}(d:x≠a)(e:x≠b)(f:x≠c):mask a b c H x=H x:=by unfold mask;rw[if_neg (by simp[d,e,f])]
theorem uP{c x:Addr}(h:mask a b c H x=some o)(d:∀k,o≠.own k):x≠a/\x≠b/\x≠c/\H x=some o:=by
 unfold mask at h;split at h
 ·cases h;exact absurd rfl (d 0)
 ·rename_i hn;simp only[not_or]at hn;calc⟨hn.1,hn.2.1,hn.2.2,h⟩
theorem HY{c:Addr}:DB (mask a b c H) H:=λx o e n=>(uP e n).2.2.2
theorem yn{c:Addr}(h:∀x o,x≠a->x≠b->x≠c->H x=some o->H' x=some o):DB (mask a b c H) (mask a b c H'):=λx o e n=>by
 obtain⟨d,f,g,i⟩:=uP e n;rw[nZ d f g];calc h x o d f g i
theorem DC{c t d f g:Addr}{xs:List V}{M:Int}{h:List Int}{o:List bF}(q:H t=some (.tup [.int M,.ref d,.ref f,.ref g]))(r:H d=some (.lst (ns.map V.int)))(s:H f=some (.lst (h.map V.int)))(u:H g=some (.lst xs))(v:gY H 2 xs (o.map bF.dv))
  (i:∃ys,H a=some (.lst ys)) (j:∃ys,H b=some (.lst ys)) (k:∃ys,H c=some (.lst ys)) (l:d≠a/\d≠b/\d≠c) (m:f≠a/\f≠b/\f≠c) (n:g≠a/\g≠b/\g≠c):gR (mask a b c H) (.ref t) M ns h o:=by
 obtain⟨h,i⟩:=i;obtain⟨h,j⟩:=j;obtain⟨h,k⟩:=k;have p:bS H (mask a b c H):=λx ys e=>by
  rw[nZ (λz=>by rw[z,i]at e;cases e) (λz=>by rw[z,j]at e;cases e) (λz=>by rw[z,k]at e;cases e)];exact e
 calc⟨t,d,f,g,xs,rfl,p _ _ q,by rw[nZ l.1 l.2.1 l.2.2];calc r,by rw[nZ m.1 m.2.1 m.2.2];calc s,by rw[nZ n.1 n.2.1 n.2.2];calc u,v.aK p⟩
structure BZ(gO:List MD)(ws:List (Int×Int×Str))(ls:List (Int×Int)):Prop where
 m1:1<=gO.length
 m5:gO.length<=5
 Xq:ws.length<=10
 Yk:ls.length<=20
 mg:∀d∈gO,d.good
 wo:∀w∈ws,uC gO.length w
 lo:∀l∈ls,uD ws.length l
theorem BZ.nt(h:BZ gO ws ls):(NT.mk gO ws).Ok:=⟨h.m5,h.m1,h.Xq,h.mg,h.wo⟩
abbrev pG:Stmt:=top 53
def B0(K:W.Frag):Sp:=λvs H Q _=>∃(a:Addr) (ns:List Int),vs=[.ref a]/\aR K H a (ns.map V.int)/\ns.length<=63/\∀t b c d mv e f gO ws ls H',av H H'->H' t=some (.tup [.ref b,.ref c,.ref d])->H' b=some (.lst mv)->H' c=some (.lst e)->H' d=some (.lst f)->Ak H' mv gO->gY H' 1 e (ws.map lL)->gY H' 1 f (ls.map ql)->BZ gO ws ls->Q (.ref t) H'
theorem DE(D:cZ K mg "_law_net" "_law_net" pG ["_law_script"])(T:Tx K mg C CN CR F FD)(x:Def P w K mg base "_law_at" 1 ["_law_script","_law_k"] (GW K))(v:Def P w K mg base "_law_digit" 1 ["_law_pot_here","_law_many"] jH)(je:Def P w K mg base "_law_machine" 4 ["_law_pot_here"] xT)(M:Def P w K mg base "_law_pot" 1 ["_law_cell"] GY):Def P w K mg base "_law_net" 5 ["_law_script"] (B0 K):=by
 have sc:aE ["_law_script","_law_many","_law_machines","_law_pot_here","_law_ways","_law_k","_law_letters","_law_way","_law_said"] ["_law_script"] (az pG):=by walk_at "s"
 symm
 ·obtain⟨a,ns,rfl,hS,Yl,q⟩:=h;rfl
 ·nofun;obtain⟨a,ns,rfl,hS,Yl,q⟩:=h;ac_rfl;have hu:=hr.units;refine⟨_,(aj (ba (i:=1) sc.nd rfl (by grind) (aU cR ai (aU cK (aM x hr (ag (aq 0) (ag ai aa))) ai)))
   (aj (ij (i:=2) sc.nd rfl (by grind) (N':=["_law_k","_law_script"]) (ix:=[none,some 0]) (de rfl T.eW (ag (aq 1) aa)) (λ_ _ _ _=>(bb (i:=0) (show(["_law_k","_law_script"]:List Str).Nodup by decide +kernel) rfl (by grind))) oq (λ_ _ _ _=>(aM je hr (ag (aM M hr (ag (aM x hr (ag (aq 1) (ag (aU cR ai (aq 0)) aa))) aa)) aa))))
   (aj (ba (i:=3) sc.nd rfl (by grind) (aM M hr (ag (aM x hr (ag (aq 0) (ag ai aa))) aa)))
   (aj (ba (i:=4) sc.nd rfl (by grind) (bR aa))
   (aj (fH PassesOwn.never rfl (de rfl T.eW (ag (aM v hr (ag (aq 3) (ag ai aa))) aa)) (bb (i:=5) sc.nd rfl (by grind))
   (ao (cj (dD oj qA qB ck (aq 4) (ag (bQ (ag (aM v hr (ag (aq 3) (ag (aq 1) aa))) (ag (aM v hr (ag (aq 3) (ag (aq 1) aa))) (ag (ak hu (bR (ag aD (ag aD aa))) (aM v hr (ag (aq 3) (ag ai aa)))) aa)))) aa)))))
   (aj (ba (i:=3) sc.nd rfl (by grind) (aM M hr (ag (aM x hr (ag (aq 0) (ag ai aa))) aa)))
   (aj (ba (i:=6) sc.nd rfl (by grind) (bR aa))
   (aj (fH PassesOwn.never rfl (de rfl T.eW (ag (aM v hr (ag (aq 3) (ag ai aa))) aa)) (bb (i:=5) sc.nd rfl (by grind))
   (ao (aT (aC (gD hu) (aq 4) (bR aa) (aH _)) (aj (ba (i:=7) sc.nd rfl (by grind) (aM v hr (ag (aq 3) (ag (bg aP rfl T.b4 U' (ag (aq 4) aa)) aa))))
   (aj (ba (i:=8) sc.nd rfl (by grind) (bR (ag (aM v hr (ag (aq 3) (ag ai aa))) (ag (aM v hr (ag (aq 3) (ag (aU nv ai ai) aa))) aa))))
   (ao (cj (dD oj qA qB ck (aq 6) (ag (bQ (ag (aq 7) (ag (ak hu (aq 8) (aM v hr (ag (aq 3) (ag ai aa)))) aa))) aa)))))) aJ)))
   (ao (aI (bQ (ag (aq 2) (ag (aq 4) (ag (aq 6) aa)))))))))))))),?_⟩
  right;calc⟨a,ns,_,rfl,hS,by lia,λg=>⟨(by decide:(0:Int)<5),?_⟩⟩;have v:=aaE g (b:=5) (by decide);have v:=aaC g (b:=5) (by decide);right;calc bT ?_;right;calc gN (by lia) (by lia) (λD hD=>?_);refine bx (J:=AF 0 (1+g%5).toNat) (n:=(1+g%5).toNat) (λi ys H'=>av H H'/\∃gO,gO.length=i/\Ak (mask D D D H') ys gO/\∀d∈gO,d.good) (P' (aG (by lia))) ⟨av.new _ hD,[],rfl,Ak.nil,λd hd=>by simp at hd⟩ (λi ys H' hi _=>hi) (λys H' _=>L' _) ?_ ?_
  ·intro i ys H1 hi bG hl jF x H2 jG;nofun;obtain⟨s1,gO,ml,hM,S⟩:=jF;obtain⟨rfl,rfl⟩:=jG;ac_rfl;walk_at "xg";right;rw[if_pos trivial];refine⟨a,ns,_,rfl,s1.seq hS,by lia,λv=>⟨v,rfl,λp R5 U qH=>⟨p,rfl,⟨_,af,qH⟩,λt v T ld xs M mns row ds x st h1 h2 h3 h4 h5 f1 f2 f3 hg=>?_⟩⟩⟩;have q3:∀b o,H2 b=some o->x b=some o:=λb o e=>st.rest b o ((av.new _ U) _ _ e) (au e U);have T:=q3 _ _ bG;have p1:=(av.new (.lst (R5.map V.int)) U) _ _ bG;have v:∀{b:Addr},upd H2 p (.lst (R5.map V.int)) b=none->b≠D:=λf=>Ne.symm (au p1 f);refine cn T hl hi (P' (aG (by lia))) ⟨λb o e=>by rw[ay (au e hD)];exact q3 _ _ (s1 _ _ e),gO++[⟨M,mns,row,ds⟩],by simp[ml],?_,λd hd=>?_⟩
   ·have c4:DB (mask D D D H2) (mask D D D (upd x D (.lst (ys++[.ref t])))):=yn λb o M b2 b3 e=>by rw[ay M];exact q3 _ _ e
    have c5:DB (mask D D D x) (mask D D D (upd x D (.lst (ys++[.ref t])))):=yn λb o M b2 b3 e=>by rw[ay M];exact e
    exact(hM.Jz c4).snoc (gR.Jz c5 (DC h1 h2 h3 h4 h5 ⟨_,T⟩ ⟨_,T⟩ ⟨_,T⟩ ⟨v f1,v f1,v f1⟩ ⟨v f2,v f2,v f2⟩ ⟨v f3,v f3,v f3⟩))
   ·rcases List.mem_append.mp hd with hd | hd
    ·exact S d hd
    ·simp only[List.mem_singleton]at hd;subst hd;exact hg
  intro mv H1 Wa hl v;nofun;obtain⟨s1,gO,ml,hM0,S⟩:=v;have hM:=hM0.Jz HY;generalize hDa:D=am at *;ac_rfl;right;calc⟨a,ns,_,rfl,s1.seq hS,by lia,λv=>⟨v,rfl,λp R5 U qH=>?_⟩⟩;have s2:=av.new (.lst (R5.map V.int)) U;have Jf:eG (upd H1 p (.lst (R5.map V.int))) p:=⟨_,af,qH⟩
  generalize MC:upd H1 p (.lst (R5.map V.int))=G2 at *;right;calc⟨aav _,λG v=>?_⟩;have s3:=av.new (.lst []) v;have Vf:G≠p:=Step.ne Jf v;have hp3:=Jf.same s3;have eaw:upd G2 G (.lst []) G=some (.lst []):=af;have faw:H1 G=none:=s2.free v;have pq:=s2.trans s3;generalize Rz:upd G2 G (.lst [])=G3 at *;calc ma p 11 rfl hp3 (by decide) (by decide +kernel) (λx T qR M v=>?_);refine⟨x,rfl,by lia,by lia,jw (n:=x.toNat) (λi σ H'=>(∃W,σ=[some (.ref a),some (.int (1+g%5)),some (.ref am),some (.ref p),some (.ref G),W,none,none,none])/\eG H' p/\av H1 H'/\∃(m:List V) (ws:List (Int×Int×Str)),H' G=some (.lst m)/\gY H' 1 m (ws.map lL)/\ws.length=i/\∀w∈ws,uC (1+g%5) w) ?_ ?_ ?_⟩
  ·exact⟨⟨_,rfl⟩,v.fX,v.over pq U,[],[],v.rest _ _ eaw Vf,gY.nil,rfl,λw B=>by simp at B⟩
  ·intro i σ H5 hi vJ;nofun;obtain⟨⟨W,rfl⟩,X,s5,m,ws,QM,hW,f6,KY⟩:=vJ;ac_rfl;have HZ:m.length=i:=by have:=hW.1;simp at this;lia
   right;calc⟨.inl ⟨rfl,_,aR.of QM⟩,?_⟩;have l5:(1+g%5).natAbs.log2<9000:=by
    have:1+g%5=1\/1+g%5=2\/1+g%5=3\/1+g%5=4\/1+g%5=5:=by lia
    rcases this with e|e|e|e|e<;>(rw[e];decide +kernel)
   refine dig X (by lia) l5 λc x h60 h61 v=>?_;right;refine dig v.fX (by lia) l5 λr x h70 h71 M=>?_;have x:=v.trans M;right;refine⟨dq,λl hl=>?_⟩;have Jq:=x.new (o:=.lst [.str "row",.str "heap"]) hl;have Rt:l≠p:=Step.ne x.fX hl;refine dig Jq.fX (by decide) (by decide +kernel) λk Y hk0 Ru Jr=>?_;have abN:=Jq.trans Jr;obtain⟨u,ew3,hw3⟩:∃u:Str,hJ [V.str "row",V.str "heap"] k=some (.str u)/\(u="row"\/u="heap"):=by
    have:k=0\/k=1:=by lia
    rcases this with rfl|rfl
    ·exact⟨_,aA (j:=0) rfl,.inl rfl⟩
    ·exact⟨_,aA (j:=1) rfl,.inr rfl⟩
   right;calc bC (Jr.rest _ _ af Rt) ew3 ?_;right;calc⟨by show 3<=sizeLine;decide,λt ht=>?_⟩;have L:=abN.new (o:=.tup [.int c,.int r,.str u]) ht;have Wc:=L.rest _ _ QM Vf;have eT:upd Y t (.tup [.int c,.int r,.str u]) t=some (.tup [.int c,.int r,.str u]):=af;have Z:=L.fX;have tA:=L.aS X;have sA:av H1 (upd Y t (.tup [.int c,.int r,.str u])):=L.over s5 U;generalize hGA:upd Y t (.tup [.int c,.int r,.str u])=GA at *;have tB:bS GA (upd GA G (.lst (m++[.ref t]))):=(bS.refl _).upd λys e=>by rw[Wc]at e;cases e
   refine⟨_,Wc,aG (by lia),⟨_,rfl⟩,Z.upd (Ne.symm Vf),λb o e=>by rw[ay (au e faw)];calc sA _ _ e,m++[.ref t],ws++[(c,r,u)],af,?_,by simp[f6],λw B=>?_⟩
   ·have h6:=((hW.aK tA).snoc (lZ (n:=0) eT (.int c) (.int r) (.str u))).aK tB;simpa[lL] using h6
   ·rcases List.mem_append.mp B with B | B
    ·exact KY w B
    ·simp only[List.mem_singleton]at B;subst B;exact⟨h60,h61,h70,h71,hw3⟩
  intro σ H5 vL;nofun;obtain⟨⟨W,rfl⟩,X,s5,m,ws,QM,hW,f6,KY⟩:=vL;ac_rfl;have HZ:m.length=ws.length:=by have:=hW.1;simpa using this
  have Jp:=s5 _ _ Wa;have hM5:=hM.Jz s5.Jz;right;calc⟨a,ns,_,rfl,(s1.trans s5).seq hS,by lia,λv=>⟨v,rfl,λO xs1 DW u=>?_⟩⟩;have s6:=av.new (.lst (xs1.map V.int)) DW;have hp6:eG (upd H5 O (.lst (xs1.map V.int))) O:=⟨_,af,u⟩
  generalize PR:upd H5 O (.lst (xs1.map V.int))=G6 at *;right;calc⟨aav _,λI u=>?_⟩;have s7:=av.new (.lst []) u;have Qh:I≠O:=Step.ne hp6 u;have hp7:=hp6.same s7;have eal:upd G6 I (.lst []) I=some (.lst []):=af;have fal:H5 I=none:=s6.free u;have s57:=s6.trans s7;generalize X0:upd G6 I (.lst [])=G7 at *;calc ma O 13 rfl hp7 (by decide) (by decide +kernel) (λu M v x Jq=>?_);refine⟨u,rfl,by lia,by lia,jw (n:=u.toNat) (λi σ H'=>(∃W z7 z8,σ=[some (.ref a),some (.int (1+g%5)),some (.ref am),some (.ref O),some (.ref G),W,some (.ref I),z7,z8])/\eG H' O/\av H5 H'/\∃(N:List V) (ls:List (Int×Int)),H' I=some (.lst N)/\gY H' 1 N (ls.map ql)/\ls.length<=i/\∀l∈ls,uD ws.length l) ?_ ?_ ?_⟩
  ·exact⟨⟨_,_,_,rfl⟩,Jq.fX,Jq.over s57 DW,[],[],Jq.rest _ _ eal Qh,gY.nil,L' _,λw B=>by simp at B⟩
  ·intro i σ Y hi xK;nofun;obtain⟨⟨W,z7,z8,rfl⟩,hp9,R,N,ls,Js,hL,xU,uk⟩:=xK;ac_rfl;have i:N.length=ls.length:=by have:=hL.1;simpa using this
   have i:=R _ _ QM;right;calc⟨aav _,λl0 u=>?_⟩;have y:=av.new (.lst []) u;have Ia:=y _ _ i;have Yi:upd Y l0 (.lst []) l0=some (.lst []):=af;have Ib:=y _ _ Js;have QN:=hp9.same y;have DG:=R.trans y;have Wd:=hL.aK y.aS;generalize Vv:upd Y l0 (.lst [])=G10 at *
   cases ws with
   |nil=>
    have uJ:m=[]:=by simpa using HZ
    subst uJ;calc .inl ⟨.inr ⟨_,_,_,_,rfl,rfl,.inr ⟨aR.of Ia,aR.of Yi⟩,rfl,λj u v hu=>by simp at hu⟩,?_⟩;right
    try rw[if_neg Bool.false_ne_true]
    calc⟨⟨_,_,_,rfl,rfl,rfl⟩,QN,DG,N,ls,Ib,Wd,by lia,uk⟩
   |cons i u=>
    have i:0<(m.length:Int):=by rw[HZ];simp
    have u:m.length<=10:=by lia
    calc .inr ⟨⟨_,_,by simp[HZ],.inl ⟨aR.of Ia,aR.of Yi⟩⟩,?_⟩;right
    try rw[if_pos trivial]
    calc bE _ (.inl ⟨_,aR.of Ia,rfl⟩) ?_;have u:((m.length:Nat):Int).natAbs.log2<9000:=He i (by lia);calc dig QN i u λc x abS abT v=>?_;right;calc dig v.fX (by decide) (by decide +kernel) λr M u x i=>?_;have x:=v.trans i;right;calc⟨zK,dig x.fX PJ PK λe3 Li M abV u=>?_⟩;have i:=x.trans u;right;calc⟨dq,λYn v=>?_⟩;have QO:=i.new (o:=.lst [.int r,.int e3]) v;have abX:Yn≠O:=Step.ne i.fX v;have abY:upd Li Yn (.lst [.int r,.int e3]) Yn=some (.lst [.int r,.int e3]):=af;generalize abZ:upd Li Yn (.lst [.int r,.int e3])=G14 at *;have i:=QO.rest _ _ Ib Qh;right;calc⟨.inl ⟨rfl,_,aR.of i⟩,?_⟩;calc dig QO.fX (by decide) (by decide +kernel) λk Nh hk0 Ru Dj=>?_;have QP:=QO.trans Dj;have i:(10:Int)^Int.toNat 60=1000000000000000000000000000000000000000000000000000000000000:=by decide +kernel
    rw[i]at abV;obtain⟨z,ez,hz0,DS⟩:∃z:Int,hJ [V.int r,V.int e3] k=some (.int z)/\1-1000000000000000000000000000000000000000000000000000000000000<=z/\z<1000000000000000000000000000000000000000000000000000000000000:=by
     have:k=0\/k=1:=by lia
     rcases this with rfl|rfl
     ·exact⟨_,aA (j:=0) rfl,by lia,by lia⟩
     ·exact⟨_,aA (j:=1) rfl,by lia,by lia⟩
    right;calc bC (Dj.rest _ _ abY abX) ez ?_;right;calc⟨dq,λt ht=>?_⟩;have L:=QP.new (o:=.tup [.int c,.int z]) ht;have Wh:=L.rest _ _ Ib Qh;have eT:upd Nh t (.tup [.int c,.int z]) t=some (.tup [.int c,.int z]):=af;have Z:=L.fX;have tA:=L.aS QN;have sA:av H5 (upd Nh t (.tup [.int c,.int z])):=L.over DG DW;generalize hGA:upd Nh t (.tup [.int c,.int z])=GA at *;have tB:bS GA (upd GA I (.lst (N++[.ref t]))):=(bS.refl _).upd λys e=>by rw[Wh]at e;cases e
    refine⟨_,Wh,aG (by lia),⟨_,_,_,rfl,rfl,rfl⟩,Z.upd (Ne.symm Qh),λb o e=>by rw[ay (au e fal)];calc sA _ _ e,N++[.ref t],ls++[(c,z)],af,?_,by simp;lia,λl hl=>?_⟩
    ·have h6:=((Wd.aK tA).snoc (c9 (n:=0) eT (.int c) (.int z))).aK tB;simpa[ql] using h6
    ·rcases List.mem_append.mp hl with hl | hl
     ·exact uk l hl
     ·simp only[List.mem_singleton]at hl;subst hl;exact⟨abS,by have:=abT;rw[HZ]at this;calc this,hz0,DS⟩
  intro σ Y K7;nofun;obtain⟨⟨W,z7,z8,rfl⟩,hp9,R,N,ls,Js,hL,xU,uk⟩:=K7;ac_rfl;right;calc⟨by show 3<=sizeLine;decide,λt ht=>?_⟩;have y:=av.new (.tup [.ref am,.ref G,.ref I]) ht;calc q t am G I mv m N gO ws ls _ (s1.trans (s5.trans (R.trans y))) af (y _ _ (R _ _ Jp)) (y _ _ (R _ _ QM)) (y _ _ Js) (hM5.Jz (R.trans y).Jz) (hW.aK (R.trans y).aS) (hL.aK y.aS) ⟨by lia,by lia,by lia,by lia,S,λw B=>?_,uk⟩;have e:((gO.length:Nat):Int)=1+g%5:=by lia
  rw[e];calc KY w B
def R6(M:Int)(ns a:List Int)(b:List bF):DV:=.tup [.int M,.lst (ns.map .int),.lst (a.map .int),.lst (b.map bF.dv)]
theorem iQ(v:Val):sM v.dv:=by
 cases v<;>(calc .tup λe a=>?_;simp at a)<;>first|(rcases a with rfl|rfl;calc .str _;calc .int _)|(subst a;calc .str _)
theorem Ig(d:bF):sM d.dv:=by
 cases d with
 |set i v=>calc .tup λe a=>?_;simp at a;rcases a with rfl|rfl|rfl;calc .str _;calc .int _;calc iQ v
 |add i v=>calc .tup λe a=>?_;simp at a;rcases a with rfl|rfl|rfl;calc .str _;calc .int _;calc iQ v
 |times i v=>calc .tup λe a=>?_;simp at a;rcases a with rfl|rfl|rfl;calc .str _;calc .int _;calc iQ v
 |put v=>calc .tup λe a=>?_;simp at a;rcases a with rfl|rfl;calc .str _;calc iQ v
 |drop=>calc .tup λe a=>?_;simp at a;subst a;calc .str _
 |send j v=>calc .tup λe a=>?_;simp at a;rcases a with rfl|rfl|rfl;calc .str _;calc .int _;calc iQ v
 |say v=>calc .tup λe a=>?_;simp at a;rcases a with rfl|rfl;calc .str _;calc iQ v
 |skip v w k=>calc .tup λe a=>?_;simp at a;rcases a with rfl|rfl|rfl|rfl;calc .str _;calc iQ v;calc iQ w;calc .int _
theorem n0:sM (.lst (ns.map .int)):=.lst λe a=>by
 obtain⟨z,_,rfl⟩:=List.mem_map.mp a;calc .int z
theorem uQ{a:List bF}:sM (.lst (a.map bF.dv)):=.lst λe b=>by
 obtain⟨z,_,rfl⟩:=List.mem_map.mp b;calc Ig z
theorem kP{n:Nat}{vs:List V}{b:List DV}(e:H a=some (.lst vs))(h:dP H n vs b):HD H (n+1) (.ref a) (.lst b):=.lst e h.1 h.2
theorem gY.JU{n:Nat}{vs:List V}{c:List DV}(h:gY H n vs c):dP H n vs c:=⟨h.1,λi v d a b=>(h.2 i v d a b).hd⟩
theorem Lu{K:W.Frag}{c:Addr}{d d':MD}(h:gR H (.ref a) d.M d.ns d.row d.ds)(h':gR H (.ref c) d'.M d'.ns d'.row d'.ds):∃b,XJ K H 19 a c b/\(b=true->R6 d.M d.ns d.row d.ds=R6 d'.M d'.ns d'.row d'.ds):=by
 obtain⟨t,u,v,w,L,e,n,p,q,r,s⟩:=h;obtain⟨L,t,u,v,w,z,j,i,k,l,A⟩:=h'
 cases e
 cases z;obtain⟨h,B,C⟩:=vF (K:=K) (H:=H) 4 (x:=.int d.M) (y:=.int d'.M) (m:=4) (.int _) (.int _) (.int _) (.int _);obtain⟨t,D,E⟩:=vF (K:=K) (H:=H) 4 (m:=4) (kP p (dP.ints d.ns)) (kP i (dP.ints d'.ns)) n0 n0;obtain⟨u,F,G⟩:=vF (K:=K) (H:=H) 4 (m:=4) (kP q (dP.ints d.row)) (kP k (dP.ints d'.row)) n0 n0;obtain⟨p,I,J⟩:=vF (K:=K) (H:=H) 4 (m:=4) (kP r ((s.JU).mono (by decide))) (kP l ((A.JU).mono (by decide))) uQ uQ;refine⟨_,⟨_,_,λi=>match i with
  |0=>h
  |1=>t
  |2=>u
  | _=>p,.inl ⟨bM.of n,bM.of j⟩,λi u v f g=>?_,rfl⟩,λo=>?_⟩
 ·match i,f,g with
  |0,f,g=>simp at f g;subst f g;calc B.mono (by decide)
  |1,f,g=>simp at f g;subst f g;calc D.mono (by decide)
  |2,f,g=>simp at f g;subst f g;calc F.mono (by decide)
  |3,f,g=>simp at f g;subst f g;calc I.mono (by decide)
  |(n+4),f,g=>simp at f
 ·simp[List.range_succ]at o;obtain⟨f,g,h,i⟩:=o;unfold R6;rw[C.mp f,E.mp g,G.mp h,J.mp i]
theorem Lv{C:Addr}{M d:Int}{a b c:List Int}{f g:List bF}(e:R6 M ns b f=R6 d a c g)(h:ip C H m M ns b f):ip C H m d a c g:=by
 unfold R6 at e;simp only[DV.tup.injEq,List.cons.injEq,DV.int.injEq,DV.lst.injEq,and_true]at e;obtain⟨i,j,k,l⟩:=e;obtain⟨n,st,dd,o,p,q⟩:=h;subst i;refine⟨n,st,dd,o,?_,?_⟩
 ·show HT H 2 st (.tup [.tup (a.map .int),.tup (c.map .int)]);rw[<-j,<-k];exact p
 ·rw[<-l];calc q
theorem j0{C:Addr}{M:Int}{a:List Int}{f:List bF}(t:bS H H')(i:∀b c d e,H b=some (.ins c d e)->H' b=some (.ins c d e))(h:ip C H m M ns a f):ip C H' m M ns a f:=by
 obtain⟨a,st,dd,f,g,j⟩:=h;calc⟨a,st,dd,i _ _ _ _ f,g.aK t,j.aK t⟩
abbrev iC:Stmt:=top 60
inductive yo(C CN:Addr)(vs:List V)(H:Hp)(Q:VK):Prop
 |mk (x:V) (gO:List MD) (ws:List (Int×Int×Str)) (ls:List (Int×Int)) (h0:vs=[x]) (h1:ToldN H x gO ws ls) (h2:BZ gO ws ls) (h3:∀n ms wv lv H',av H H'->vS C CN H' n ⟨gO,ws⟩->pw CN H' n ms wv lv->gY H' 1 lv (ls.map ql)->Q (.ref n) H'):yo C CN vs H Q
def uR(C CN:Addr):Sp:=λvs H Q _=>yo C CN vs H Q
theorem sD(D:cZ K mg "_law_net_made" "_law_net_made" iC ["_law_net_here"])(T:Tx K mg C CN CR F FD)(pH:xc P w K mg base "Machine" C 7 ["self","modulus","numbers","row","deeds"] (BD C))(Ih:xc P w K mg base "Net" CN 7 ["self","machines","ways","letters"] (yc C CN)):Def P w K mg base "_law_net_made" 9 ["_law_net_here"] (uR C CN):=by
 have sc:aE ["_law_net_here","_law_machines","_law_k","_law_one"] ["_law_net_here"] (az iC):=by walk_at "s"
 symm
 ·obtain⟨x,gO,ws,ls,rfl,hT,g,q⟩:=h;rfl
 ·nofun;obtain⟨x,gO,ws,ls,rfl,hT,g,q⟩:=h;ac_rfl;have u:=hr.units;refine⟨_,(aj (ba (i:=1) sc.nd rfl (by grind) (bR aa))
   (aj (fH PassesOwn.never rfl (ly rfl T.eQ (ag (ak u (aq 0) ai) aa)) (iV (i:=2) (j:=3) rfl sc.nd rfl rfl (by grind) (by grind))
   (ao (aT (PW.pt (pw_and (aC oM (aq 2) ai (aH _)) (pw_and1 (aC (KD u) (aq 3) (ak u (ak u (aq 0) ai) ai) (aH _))))) (ao (cj (dD oj qA qB ck (aq 1) (ag (ak u (aq 1) ai) aa)))) (ao (cj (dD oj qA qB ck (aq 1) (ag (Gi pH hr (ag (ak u (aq 3) ai) (ag (dZ cM rfl T.fe AB (ag (ak u (aq 3) ai) aa)) (ag (dZ cM rfl T.fe AB (ag (ak u (aq 3) ai) aa)) (ag (dZ cM rfl T.fe AB (ag (ak u (aq 3) ai) aa)) aa))))) aa)))))))
   (ao (aI (Gi Ih hr (ag (aq 1) (ag (dZ cM rfl T.fe AB (ag (ak u (aq 0) ai) aa)) (ag (dZ cM rfl T.fe AB (ag (ak u (aq 0) ai) aa)) aa)))))))),?_⟩
  nofun;obtain⟨t,am,aw,al,mv,N,O,rfl,ht,Wa,QM,Js,hM,hW,hL⟩:=id hT;ac_rfl;have aio:mv.length<=5:=by have:=hM.1;have:=g.m5;lia
  left;calc⟨aav _,λy R=>?_⟩;have s0:=av.new (.lst []) R;have elm:upd H y (.lst []) y=some (.lst []):=af;generalize hG0:upd H y (.lst [])=G0 at *;left;refine dR (s0 _ _ ht) (aA (j:=0) rfl) ⟨true,mv,Sq.l (s0 _ _ Wa),nE (xs:=mv) (λi σ H'=>∃(z2 z3:Option V) (n:List Addr),σ=[some (V.ref t),some (V.ref y),z2,z3]/\av H H'/\H' y=some (.lst (n.map V.ref))/\n.length=i/\(∀(j:Nat) m d,n[j]?=some m->gO[j]?=some d->Rr C H' m d)) ?_ ?_ ?_ ?_⟩
  ·exact⟨_,_,[],rfl,s0,elm,rfl,λj m d e=>by simp at e⟩
  ·intro i σ H' jF;nofun;obtain⟨_,_,_,_,s1,_⟩:=jF;ac_rfl;exact Sq.l (s1 _ _ Wa)
  ·intro i x σ H' tt hx jG Vk;nofun;obtain⟨z2,z3,n,rfl,s1,Ds,RF,yI⟩:=jG;have hiv:i < mv.length:=(List.getElem?_eq_some_iff.mp hx).1;have jE:i < gO.length:=by have:=hM.1;lia
   have J:=g.mg _ (aai jE);have s2:=av.new (.tup [.int (i:Nat),x]) Vk;have ett:upd H' tt (.tup [.int (i:Nat),x]) tt=some (.tup [.int (i:Nat),x]):=af;generalize MC:upd H' tt (.tup [.int (i:Nat),x])=G at *;ac_rfl;have nk:=s1.trans s2;have Ni:=(hM.2 i x gO[i] hx (cE jE)).cv nk.cv;have S:=s2 _ _ Ds;calc yG (bM.of ett) ?_;nofun;obtain⟨ta,ln,lr,ld,xs,rfl,h1,h2,h3,h4,h5⟩:=id Ni;ac_rfl;left;rename_i T2 U2 Jj hU2;have mk:U2 [some (V.ref t),some (V.ref y),some (V.int ((i:Nat):Int)),some (V.ref ta)] G:=by
    clear Jj T2;generalize hmd:gO[i]=r at *;left;calc⟨.inl ⟨rfl,_,aR.of S⟩,?_⟩;calc dR h1 (aA (j:=0) rfl) ?_;calc dR h1 (aA (j:=1) rfl) ?_;left;calc bE _ (.inl (aR.of h2)) (λI MA=>?_);have s4:=av.new (.lst (r.ns.map V.int)) MA;calc dR (s4 _ _ h1) (aA (j:=2) rfl) ?_;left;calc bE _ (.inl (aR.of (s4 _ _ h3))) (λL Cq=>?_);have Yo:=av.new (.lst (r.row.map V.int)) Cq;calc dR (Yo _ _ (s4 _ _ h1)) (aA (j:=3) rfl) ?_;left;calc bE _ (.inl (aR.of (Yo _ _ (s4 _ _ h4)))) (λl3 Jv=>?_);have U:=av.new (.lst xs) Jv;have s46:=s4.trans (Yo.trans U);have p:=U _ _ (Yo _ _ (af (H:=G) (a:=I) (o:=.lst (r.ns.map V.int))));have B:=U _ _ (af (H:=upd G I (.lst (r.ns.map V.int))) (a:=L) (o:=.lst (r.row.map V.int)));have e3:upd (upd (upd G I (.lst (r.ns.map V.int))) L (.lst (r.row.map V.int))) l3 (.lst xs) l3=some (.lst xs):=af;generalize PR:upd (upd (upd G I (.lst (r.ns.map V.int))) L (.lst (r.row.map V.int))) l3 (.lst xs)=G6 at *;intro m W Jh BH Wi;have X:av G6 (upd (upd G6 W (.own m)) m (.ins C W [])):=λb o e=>by rw[ay (au e Jh),ay (au e BH)];exact e
    have Wj:=s46.trans X;calc⟨m,W,r.M,I,L,l3,r.ns,r.row,xs,r.ds,2,rfl,af,J.m2,J.Z6,.inl (X _ _ p),.inl (X _ _ B),.inl (X _ _ e3),J.l1,J.l4,J.r12,J.bn,J.br,(h5.aK Wj.aS).dl,by decide,J.XM,J.ok,λH8 BW hk=>⟨rfl,?_⟩⟩;have Y:av G H8:=λb o e=>hk b o (au (s46 _ _ e) Jh) (Wj _ _ e);have QS:=Y _ _ S;left;calc hX _ QS (aG (by simp;lia)) ?_;have t7:bS H8 (upd H8 y (.lst (n.map V.ref++[.ref m]))):=(bS.refl _).upd λzs e=>by rw[QS]at e;cases e
    have i7:∀b c d e,H8 b=some (.ins c d e)->upd H8 y (.lst (n.map V.ref++[.ref m])) b=some (.ins c d e):=λb c d e h=>by
     rw[ay (λz=>by subst z;rw[QS]at h;cases h)];exact h
    left;refine⟨_,_,n++[m],⟨rfl,rfl⟩,λb o e=>?_,by rw[List.map_append];calc af,by simp[RF],λj m' d p B=>?_⟩
    ·rw[ay (au e R)];exact Y _ _ (nk _ _ e)
    ·by_cases hj:j < n.length
     ·rw[List.getElem?_append_left hj]at p;exact j0 t7 i7 ((yI j m' d p B).same (s2.trans Y))
     ·rw[List.getElem?_append_right (by lia)] at p
      cases DA:j-n.length with
      |succ k=>rw[DA]at p;simp at p
      |zero=>
       rw[DA]at p;nofun;obtain rfl:=Option.some.inj p;have Rm:j=i:=by lia
       subst Rm;rw[cE jE,hmd]at B;obtain rfl:=Option.some.inj B;ac_rfl;exact j0 t7 i7 BW
   by_cases h0:0<i
   ·rw[if_pos (by simpa using h0)];have Wk:0 < gO.length:=by lia
    have Wl:0<mv.length:=by lia
    have An:=(hM.2 0 mv[0] gO[0] (cE Wl) (cE Wk)).cv nk.cv;have ht0:∃c,mv[0]=.ref c:=by
     nofun;obtain⟨c,_,_,_,_,e,_⟩:=An;ac_rfl;exact⟨c,e⟩
    obtain⟨c,ec⟩:=ht0;rw[ec]at An;calc dR (nk _ _ ht) (aA (j:=0) rfl) ?_;calc bC (nk _ _ Wa) (aA (j:=0) (v:=.ref c) (by rw[<-ec];calc cE Wl)) ?_;obtain⟨b,U3,MH⟩:=Lu (K:=K) Ni An;refine KO ta c b rfl rfl U3 ?_
    cases b with
    |false=>rw[if_neg (by decide)];calc mk
    |true=>
     have MH:=MH rfl;rw[if_pos rfl];clear mk;left;calc⟨.inl ⟨rfl,_,aR.of S⟩,?_⟩;have Kb:0<n.length:=by lia
     calc bC S (aA (j:=0) (v:=.ref n[0]) (by rw[List.getElem?_map,cE Kb];rfl)) ?_;left;calc hX _ S (aG (by simp;lia)) ?_;have t7:bS G (upd G y (.lst (n.map V.ref++[.ref n[0]]))):=(bS.refl _).upd λzs e=>by rw[S]at e;cases e
     have i7:∀b c d e,G b=some (.ins c d e)->upd G y (.lst (n.map V.ref++[.ref n[0]])) b=some (.ins c d e):=λb c d e h=>by
      rw[ay (λz=>by subst z;rw[S]at h;cases h)];exact h
     left;refine⟨_,_,n++[n[0]],⟨rfl,rfl⟩,λb o e=>?_,by rw[List.map_append];calc af,by simp[RF],λj m' d p B=>?_⟩
     ·rw[ay (au e R)];exact nk _ _ e
     ·by_cases hj:j < n.length
      ·rw[List.getElem?_append_left hj]at p;exact j0 t7 i7 ((yI j m' d p B).same s2)
      ·rw[List.getElem?_append_right (by lia)] at p
       cases DA:j-n.length with
       |succ k=>rw[DA]at p;simp at p
       |zero=>
        rw[DA]at p;nofun;obtain rfl:=Option.some.inj p;have Rm:j=i:=by lia
        subst Rm;rw[cE jE]at B;obtain rfl:=Option.some.inj B;ac_rfl;exact Lv MH.symm (j0 t7 i7 ((yI 0 n[0] gO[0] (cE Kb) (cE Wk)).same s2))
   ·rw[if_neg (by simpa using h0),if_neg (by decide)];exact mk
  ·intro σ H4 oZ;nofun;obtain⟨z2,z3,n,rfl,s5,bG,RF,yI⟩:=oZ;ac_rfl;have ml:n.length=gO.length:=by have:=hM.1;lia
   have zP:=s5 _ _ ht;left;calc dR zP (aA (j:=1) rfl) ?_;left;calc bE _ (.inl (aR.of (s5 _ _ QM))) (λI MA=>?_);have U:=av.new (.lst N) MA;calc dR (U _ _ zP) (aA (j:=2) rfl) ?_;left;calc bE _ (.inl (aR.of (U _ _ (s5 _ _ Js)))) (λL Cq=>?_);have X:=av.new (.lst O) Cq;have p:=X _ _ (af (H:=H4) (a:=I) (o:=.lst N));have B:upd (upd H4 I (.lst N)) L (.lst O) L=some (.lst O):=af;have vR:=U.trans X;generalize X0:upd (upd H4 I (.lst N)) L (.lst O)=G7 at *;have f6:N.length=ws.length:=by have:=hW.1;simpa using this
   have xU:O.length=ls.length:=by have:=hL.1;simpa using this
   intro x W hx BH Wi;have s8:av G7 (upd (upd G7 W (.own x)) x (.ins CN W [])):=λb o e=>by rw[ay (au e hx),ay (au e BH)];exact e
   have s58:=s5.trans (vR.trans s8);have hgm:=g.m1;have ais:=g.m5;have hgw:=g.Xq;have zU:=g.Yk;refine⟨x,W,y,I,L,n,N,O,ws,ls,rfl,af,s8 _ _ (vR _ _ bG),s8 _ _ p,s8 _ _ B,by lia,by lia,by lia,by lia,λm hm=>?_,hW.aK s58.aS,hL.aK s58.aS,λw hw=>by rw[ml];calc g.wo w hw,λl hl=>by rw[f6];calc g.lo l hl,λH9 hn9 hk9=>⟨rfl,?_⟩⟩
   ·nofun;obtain⟨j,hj,rfl⟩:=List.getElem_of_mem hm;obtain⟨D8,EH,J1,h1,_,_⟩:=(yI j _ gO[j] (cE hj) (cE (by lia))).same (vR.trans s8);ac_rfl;exact⟨_,_,h1⟩
   ·have R7:av H4 H9:=λb o e=>hk9 b o (au (vR _ _ e) hx) (s8 _ _ (vR _ _ e));have Z:=s5.trans R7;calc q x n N O H9 Z ⟨⟨n,N,O,hn9,ml,λj m d a b=>(yI j m d a b).same R7,hW.aK Z.aS⟩,g.nt⟩ hn9 (hL.aK Z.aS)
def oa(n:NT)(r:RS)(w k:Nat):List Int:=match (r.ww w).snd.getD k none with
 |none=>(r.mm (n.goal w)).hr.bI (List.replicate n.ms.length 0)
 |some (s,c)=>List.zipWith max ((r.mm (n.goal w)).hr.bI (List.replicate n.ms.length 0)) ((r.mm s.toNat).hr.getD (c-1).toNat [])
theorem Lw{n:NT}{w k:Nat}:n.hV r w k=(oa n r w k).set (n.goal w) (n.ev r w).2:=rfl
theorem Lx{l:List Int}{m:Nat}{c:Int}{n:Nat}(a:l.length=n)(b:m<n):((List.range n).map λj=>V.int (l.getD j 0+(if decide (((j:Nat):Int)=((m:Nat):Int))=true then 1 else 0))).set m (.int c)=(l.set m c).map V.int:=by
 apply aa2 (by simp[a]);intro j b d;have e:j<n:=by simpa using b
 simp only[List.getElem_map,List.getElem_set,List.getElem_range];by_cases z:m=j
 ·rw[if_pos z,if_pos z]
 ·rw[if_neg z,if_neg z,if_neg (by simp;lia),getD_at (cE (by lia)),Int.add_zero]
theorem QT{l:List (Option (Int×Int))}{k:Nat}{a:List (Key×V)}{v:V}(h:OR H0 (.d (jR l) (l.countP Option.isSome)) (.dK a))(b:l[k]?=some none)(c:HD H0 4 v (pairD e)):OR H0 (.d (jR (l.set k (some e))) ((l.set k (some e)).countP Option.isSome)) (.dK (putK a (Sum.inl ((k:Nat):Int)) v)):=by
 have f:k<l.length:=(List.getElem?_eq_some_iff.mp b).1;have g:eY a (Sum.inl ((k:Nat):Int))=none:=by
  have:=h.2 ((k:Nat):Int);have a:jR l ((k:Nat):Int)=none:=by
   unfold jR;rw[if_pos (by lia),Int.toNat_natCast,getD_at b];rfl
  rw[a]at this;exact this
 refine⟨?_,λj=>?_⟩
 ·rw[wM v g,count_set b,List.length_append,List.length_singleton];have:=h.1;lia
 ·rw[HQ f,q9];by_cases z:j=((k:Nat):Int)
  ·rw[if_pos z,if_pos (by rw[z])];exact⟨v,rfl,c⟩
  ·rw[if_neg z,if_neg (λq=>z (Sum.inl.inj q))];calc h.2 j
theorem Ly{r:RS}{n:NT}{w k:Nat}:∀t i,i<n.n t->setC (setC (setC (setC (setC r.tv 3 (n.goal w) (.l (((r.mm (n.goal w)).hr.map λu=>DV.lst (u.map .int))++[.lst ((n.hV r w k).map .int)]))) 6 w (.d (jR ((r.ww w).dy.set k (some (n.ev r w)))) (((r.ww w).dy.set k (some (n.ev r w))).countP Option.isSome))) 1 (n.goal w) (.l ((r.mm (n.goal w)).gC.map rR++[rR ((n.work r w k).ns,(n.work r w k).row)]))) 2 (n.goal w) (.l (((r.mm (n.goal w)).wp.map λu=>DV.lst (u.map .int))++[.lst (((r.mm (n.goal w)).wp.bI []++(n.work r w k).words).map .int)]))) 0 0 (.l (r.picks.map pairD++[pairD ((w:Int),(k:Int))])) t i=(r.step n w k).tv t i:=by
 intro t i a;unfold setC
 match t,a with
 |0,a=>
  have:i=0:=by have:i<1:=a;lia
  subst this;simp[RS.tv,RS.step]
 |1,_=>by_cases e:i=n.goal w<;>simp[RS.tv,RS.step,e]
 |2,_=>by_cases e:i=n.goal w<;>simp[RS.tv,RS.step,e]
 |3,_=>by_cases e:i=n.goal w<;>simp[RS.tv,RS.step,e]
 |4,_=>by_cases e:i=w<;>simp[RS.tv,RS.step,e]
 |5,_=>by_cases e:i=w<;>simp[RS.tv,RS.step,e]
 |6,_=>by_cases e:i=w<;>simp[RS.tv,RS.step,e]
 |(t+7),a=>calc absurd a (aao i)
theorem Ii{r:RS}{n:NT}{w:Nat}{x:Int}{s:Option (Int×Int)}:∀t i,i<n.n t->setC (setC r.tv 4 w (.l ((r.ww w).say.map .int++[.int x]))) 5 w (.l ((r.ww w).snd.map nh++[nh s])) t i=(r.put w x s).tv t i:=by
 intro t i a;unfold setC
 match t,a with
 |0,_=>simp[RS.tv,RS.put]
 |1,_=>simp[RS.tv,RS.put]
 |2,_=>simp[RS.tv,RS.put]
 |3,_=>simp[RS.tv,RS.put]
 |4,_=>by_cases e:i=w<;>simp[RS.tv,RS.put,e]
 |5,_=>by_cases e:i=w<;>simp[RS.tv,RS.put,e]
 |6,_=>by_cases e:i=w<;>simp[RS.tv,RS.put,e,Dw]
 |(t+7),a=>calc absurd a (aao i)
theorem vZ{H:Hp}{n:Nat}{v:V}{ns:List Int}(h:HD H n v (.lst (ns.map .int))):∃a,v=.ref a/\H a=some (.lst (ns.map V.int)):=by
 cases h with
 | @lst n a b _ e l i=>calc⟨a,rfl,by rw[e,show b=ns.map V.int from dP.ko ⟨l,i⟩]⟩
theorem Ij{x y:HO}(h:a≠b):upd (upd H a x) b y=upd (upd H b y) a x:=by
 funext c;by_cases d:c=a
 ·subst d;rw[ay h,af,af]
 ·by_cases e:c=b
  ·subst e;rw[af,ay d,af]
  ·rw[ay e,ay d,ay d,ay e]
abbrev mK:Stmt:=top 59
inductive Ao(vs:List V)(H:Hp)(Q:VK):Prop
 |mk (F:Addr->Prop) (d:Addr) (tn:V) (nt:NT) (r:RS) (ad:Nat->Nat->Addr) (wy k:Nat) (h0:vs=[.ref d,.int (wy:Nat),.int (k:Nat)]) (h1:cq F H d tn nt r ad) (h2:FS F H) (h3:r.Ok nt) (h4:r.Vq nt wy k) (h5:r.picks.length<=400) (h6:∀t H',Fr (FP nt.n ad) H H'->cq F H' d tn nt (r.pick nt wy k) ad->HT H' 1 t (pairD (nt.ev r wy))->Q t H'):Ao vs H Q
def B1:Sp:=λvs H Q _=>Ao vs H Q
theorem Ap(D:cZ K mg "_law_pick" "_law_pick" mK ["_law_run","_law_way","_law_number"])(T:Tx K mg C CN CR F FD)(j1:Def P w K mg base "_law_worked" 2 ["_law_machine_here","_law_state","_law_way","_law_said"] (BO K)):Def P w K mg base "_law_pick" 3 ["_law_run","_law_way","_law_number"] B1:=by
 have sc:aE ["_law_run","_law_way","_law_number","_law_m","_law_place","_law_outs","_law_event_here","_law_state","_law_sent","_law_words","_law_row","_law_source","_law_c","_law_j","_law_said"] ["_law_run","_law_way","_law_number"] (az mK):=by walk_at "s"
 symm
 ·obtain⟨F,d,tn,g,r,ad,m,k,rfl,N,lD,U,hc,Dp,q⟩:=h;rfl
 ·nofun;obtain⟨F,d,tn,g,r,ad,m,k,rfl,N,lD,U,hc,Dp,q⟩:=h;ac_rfl;have B:=hr.units;have xH:=Ut B;refine⟨_,(aj (ba (i:=3) sc.nd rfl (by grind) (ak B (ak B (ak B (ak B (aq 0) aD) ai) (aq 1)) ai))
   (aj (ba (i:=4) sc.nd rfl (by grind) (dD oj PySem.F.slot_list_index PySem.F.type_list_index uy (dE (N':=["_law_k","_law_told_here","_law_m"]) (ix:=[none,none,some 3]) (ly rfl T.eQ (ag (ak B (ak B (aq 0) aD) ai) aa)) (λ_ _ _ _=>(lA (K:=K) rfl (i:=0) (j:=1) rfl (show(["_law_k","_law_told_here","_law_m"]:List Str).Nodup by decide +kernel) rfl rfl (by grind) (by grind))) (λ_ _ _ _=>(lp (aC (kr (K:=K) rfl B) (eU (K:=K) rfl B (aq 1) ai) (aq 2) (aH _)))) (λ_ _ _ _=>(aq 0))) (ag (aq 1) aa)))
   (aj (ij (i:=5) sc.nd rfl (by grind) (N':=["_law_k","_law_told_here","_law_m"]) (ix:=[none,none,some 3]) (ly rfl T.eQ (ag (ak B (ak B (aq 0) aD) ai) aa)) (λ_ _ _ _=>(lA (K:=K) rfl (i:=0) (j:=1) rfl (show(["_law_k","_law_told_here","_law_m"]:List Str).Nodup by decide +kernel) rfl rfl (by grind) (by grind))) (λ_ _ _ _=>(lp (aC (kr (K:=K) rfl B) (eU (K:=K) rfl B (aq 1) ai) (aq 2) (aH _)))) (λ_ _ _ _=>(aq 0)))
   (aj (ba (i:=6) sc.nd rfl (by grind) (bQ (ag (aq 3) (ag (bg aP rfl T.b4 U' (ag (ak B (ak B (aq 0) aD) (aq 3)) aa)) aa))))
   (aj (fG (aM j1 hr (ag (ak B (ak B (ak B (aq 0) aD) ai) (aq 3)) (ag (ak B (ak B (ak B (aq 0) aD) (aq 3)) (ki ig ai)) (ag (aq 4) (ag (ak B (ak B (ak B (aq 0) aD) (aq 1)) (aq 2)) aa))))) (xu (i:=7) (j:=8) (l:=9) rfl sc.nd rfl rfl rfl (by grind) (by grind) (by grind)))
   (aj (ba (i:=10) sc.nd rfl (by grind) (ak B (aU cR (bR (ag (aU Gu (bR (ag ai aa)) (bg aP rfl T.b4 U' (ag (ak B (ak B (aq 0) aD) ai) aa))) aa)) (ak B (ak B (aq 0) aD) (aq 3))) (ki ig ai)))
   (aj (aT (aC oN (ak B (ak B (ak B (aq 0) aD) (aq 1)) (aq 2)) iS (aH _)) (aj (fG (ak B (ak B (ak B (aq 0) aD) (aq 1)) (aq 2)) (iV (i:=11) (j:=12) rfl sc.nd rfl rfl (by grind) (by grind)))
   (ao (EC (i:=10) sc.nd rfl (by grind) (dE (N':=["_law_one","_law_other"]) (ix:=[none,none]) (FX rfl T.GP (ag (aq 10) (ag (ak B (ak B (ak B (aq 0) aD) (aq 11)) (aU e9 (aq 12) ai)) aa))) (λ_ _ _ _=>(lA (K:=K) rfl (i:=0) (j:=1) rfl (show(["_law_one","_law_other"]:List Str).Nodup by decide +kernel) rfl rfl (by grind) (by grind))) oq (λ_ _ _ _=>(bg (Cz rfl) rfl T.Mw PyProof.Rows.boot_max (ag (aq 0) (ag (aq 1) aa))))) rfl))) aJ)
   (aj (cj (dD oj qA qB ck (ak B (ak B (aq 0) aD) (aq 3)) (ag (dE (N':=["_law_k","_law_row","_law_m"]) (ix:=[none,some 10,some 3]) (de rfl T.eW (ag (bg aP rfl T.b4 U' (ag (aq 10) aa)) aa)) (λ_ _ _ _=>(bb (i:=0) (show(["_law_k","_law_row","_law_m"]:List Str).Nodup by decide +kernel) rfl (by grind))) oq (λ_ _ _ _=>(aU cR (eU (K:=K) rfl B (aq 1) (aq 0)) (dZ Cj rfl T.Em PyProof.Rows.boot_int (ag (gB (kr (K:=K) rfl B) (aq 0) (aq 2) (aH _)) aa))))) aa)))
   (aj (fG (ak B (aq 6) ai) (iT (ak B (ak B (ak B (aq 0) aD) (aq 3)) (ki ig ai)) (aq 3) d9))
   (aj (jO xH (ak B (ak B (aq 0) aD) (aq 1)) (aq 2) (aq 6) rfl)
   (aj (cj (dD oj qA qB ck (ak B (ak B (aq 0) aD) (aq 3)) (ag (aq 7) aa)))
   (aj (cj (dD oj qA qB ck (ak B (ak B (aq 0) aD) (aq 3)) (ag (aU cR (ak B (ak B (ak B (aq 0) aD) (aq 3)) (ki ig ai)) (aq 9)) aa)))
   (aj (cj (dD oj qA qB ck (ak B (aq 0) aD) (ag (bQ (ag (aq 1) (ag (aq 2) aa))) aa)))
   (aj (fH PassesOwn.never rfl (cu (pv 8)) (iV (i:=13) (j:=14) rfl sc.nd rfl rfl (by grind) (by grind))
   (ao (aT (aC gK (aq 13) (bg aP rfl T.b4 U' (ag (aq 5) aa)) (aH _)) (aj (cj (dD oj qA qB ck (ak B (ak B (aq 0) aD) (ak B (aq 5) (aq 13))) (ag (aq 14) aa)))
   (ao (cj (dD oj qA qB ck (ak B (ak B (aq 0) aD) (ak B (aq 5) (aq 13))) (ag (aq 6) aa))))) aJ)))
   (ao (aI (aq 6))))))))))))))))),?_⟩
  nofun;obtain⟨o,R,nF,nP,ho⟩:=N.dk;obtain⟨ls,tt,am,aw,al,mv,X,lv,rfl,h1,h2,h3,h4,h5,h6,h7⟩:=N.told;have g1:=(dG h1 (λk z=>by cases z)).2;have g2:=(dG h2 (λk z=>by cases z)).2;have g3:=(dG h3 (λk z=>by cases z)).2
  replace h5:=h5.cv eA
  replace h6:=h6.aK eA.aS
  have aW:=N.ok;have M:=hc.lt;have I:=aW.iO M;have f6:X.length=g.ws.length:=by simpa using h6.1
  have ml:mv.length=g.ms.length:=h5.1;have vN:X.length<=10:=by rw[f6];exact aW.CS
  have Jp:g.ms.length<=5:=aW.Z9;obtain⟨wk1,wk2,wk3,wk4⟩:=qM aW U M k;ac_rfl;have Bm:k<(r.ww m).say.length:=by rw[U.lk m M];exact(List.getElem?_eq_some_iff.mp hc.lies).1
  left;calc bE _ (Dv R) ?_;left;calc dR g1 (aA (j:=1) rfl) ?_;have Vr:g.ws[m]?=some (g.w m):=bt M;have aiu:m<X.length:=by lia
  have zY:=h6.2 m X[m] (lL (g.w m)) (by simp) (by rw[List.getElem?_map,Vr];rfl);nofun;obtain⟨ta,u1,u2,u3,kk,eta,ye,q1,q2,q3⟩:=bX zY;obtain rfl:=q1.bN;obtain rfl:=q2.bN;obtain rfl:=q3.bO;ac_rfl;calc bC g3 (aA (j:=m) (v:=.ref ta) (by rw[<-eta];simp)) ?_;calc dR ye (show hJ _ 1=some (.int ((g.goal m:Nat):Int)) from by rw[<-qT aW M];calc aA (j:=1) rfl) ?_;left;calc bT ?_;left;calc bE _ (Dv ((av.refl H) _ _ R)) ?_;left;calc dR ((av.refl H) _ _ g1) (aA (j:=1) rfl) ?_;left;calc Gz true X (Sq.l ((av.refl H) _ _ g3)) (λD1 Dn=>?_);refine bx (J:=Ml true K aw) (n:=X.length) (λi ys H'=>av H H'/\ys=((List.range i).filter λj=>decide (nU g 1 j=((g.goal m:Nat):Int))).map λj=>V.int (j:Nat)) (P' (aG (by lia))) ⟨av.new _ Dn,rfl⟩ ?_ ?_ ?_ ?_
  ·rintro i ys H' W ⟨L,_⟩;exact⟨X,X[i],Sq.l (L _ _ ((av.refl H) _ _ g3)),cE W⟩
  ·rintro ys H' ⟨L,_⟩;exact⟨X,Sq.l (L _ _ ((av.refl H) _ _ g3)),rfl⟩
  ·intro i ys H' W S O jF xx H4 jG;nofun;obtain⟨L,rfl⟩:=jF;obtain⟨t',Wm,rfl,y⟩:=jG;obtain⟨xw,ex,rfl⟩:=y X (Sq.l (L _ _ ((av.refl H) _ _ g3)));have Eb:i < g.ws.length:=by lia
   have s2:=av.new (.tup [.int (i:Nat),xw]) Wm;have zY:=(h6.2 i xw (lL (g.w i)) ex (by rw[List.getElem?_map,show g.ws[i]?=some (g.w i) from bt Eb];rfl)).aK (((av.refl H).trans L).trans s2).aS;have ou:upd H' t' (.tup [.int (i:Nat),xw]) t'=some (.tup [.int (i:Nat),xw]):=af;have yd:=s2 _ _ S;have nk:=L.trans s2;generalize hG:upd H' t' (.tup [.int (i:Nat),xw])=G at *;obtain⟨ta,u1,u2,u3,kk,rfl,ye,y1,y2,y3⟩:=bX zY;obtain rfl:=y1.bN;obtain rfl:=y2.bN;obtain rfl:=y3.bO;ac_rfl;calc yG (bM.of ou) ⟨Ext.set (Ext.set (Ext.refl _) rfl) rfl,?_⟩;left;calc dR ye (show hJ _ 1=some (.int (nU g 1 i)) from aA (j:=1) rfl) ?_;left;by_cases z:nU g 1 i=((g.goal m:Nat):Int)
   ·rw[if_pos (by simp[z])];calc cn yd O W (P' (aG (by lia))) ⟨λc o e=>by rw[ay (au e Dn)];calc nk _ _ e,?_⟩;rw[fA,if_pos (by simp[z]),List.map_append];rfl
   ·rw[if_neg (by simp[z])];exact⟨_,yd,by lia,nk,by rw[fA,if_neg (by simp[z]),List.append_nil]⟩
  rintro ys H1 S O ⟨s1x,rfl⟩;rw[f6]at S;have H1e:H1 D1=some (.lst ((sf g 1 (g.goal m)).map λi=>V.int ((i:Nat):Int))):=S;have Lz:av H H1:=(av.refl H).trans s1x;clear S O;left;calc⟨.inl ⟨rfl,_,aR.of H1e⟩,?_⟩;obtain⟨ix1,ix2⟩:=su (HB aW M);refine⟨D1,_,g.place m,m,rfl,rfl,by rw[H1e,uL],?_,?_,?_⟩
  ·rw[List.getElem?_map,<-nY aW M,ix1];rfl
  ·intro i y W hy;rw[List.getElem?_map]at hy;nofun;obtain⟨z,hz,rfl⟩:=Option.map_eq_some_iff.mp hy;ac_rfl;have:=ix2 i z (by rw[nY aW M];calc W) hz;lia
  left;calc bT ?_;left;calc bE _ (Dv (Lz _ _ R)) ?_;left;calc dR (Lz _ _ g1) (aA (j:=1) rfl) ?_;left;calc Gz true X (Sq.l (Lz _ _ g3)) (λD2 BG=>?_);refine bx (J:=Ml true K aw) (n:=X.length) (λi ys H'=>av H1 H'/\ys=((List.range i).filter λj=>decide (nU g 0 j=((g.goal m:Nat):Int))).map λj=>V.int (j:Nat)) (P' (aG (by lia))) ⟨av.new _ BG,rfl⟩ ?_ ?_ ?_ ?_
  ·rintro i ys H' W ⟨L,_⟩;exact⟨X,X[i],Sq.l (L _ _ (Lz _ _ g3)),cE W⟩
  ·rintro ys H' ⟨L,_⟩;exact⟨X,Sq.l (L _ _ (Lz _ _ g3)),rfl⟩
  ·intro i ys H' W S O oZ xx H4 vJ;nofun;obtain⟨L,rfl⟩:=oZ;obtain⟨t',Wm,rfl,y⟩:=vJ;obtain⟨xw,ex,rfl⟩:=y X (Sq.l (L _ _ (Lz _ _ g3)));have Eb:i < g.ws.length:=by lia
   have s2:=av.new (.tup [.int (i:Nat),xw]) Wm;have zY:=(h6.2 i xw (lL (g.w i)) ex (by rw[List.getElem?_map,show g.ws[i]?=some (g.w i) from bt Eb];rfl)).aK ((Lz.trans L).trans s2).aS;have ou:upd H' t' (.tup [.int (i:Nat),xw]) t'=some (.tup [.int (i:Nat),xw]):=af;have yd:=s2 _ _ S;have nk:=L.trans s2;generalize hG:upd H' t' (.tup [.int (i:Nat),xw])=G at *;obtain⟨ta,u1,u2,u3,kk,rfl,ye,y1,y2,y3⟩:=bX zY;obtain rfl:=y1.bN;obtain rfl:=y2.bN;obtain rfl:=y3.bO;ac_rfl;calc yG (bM.of ou) ⟨Ext.set (Ext.set (Ext.refl _) rfl) rfl,?_⟩;left;calc dR ye (show hJ _ 0=some (.int (nU g 0 i)) from aA (j:=0) rfl) ?_;left;by_cases z:nU g 0 i=((g.goal m:Nat):Int)
   ·rw[if_pos (by simp[z])];calc cn yd O W (P' (aG (by lia))) ⟨λc o e=>by rw[ay (au e BG)];calc nk _ _ e,?_⟩;rw[fA,if_pos (by simp[z]),List.map_append];rfl
   ·rw[if_neg (by simp[z])];exact⟨_,yd,by lia,nk,by rw[fA,if_neg (by simp[z]),List.append_nil]⟩
  rintro ys H2 S O ⟨s2x,rfl⟩;rw[f6]at S;have H2e:H2 D2=some (.lst ((sf g 0 (g.goal m)).map λi=>V.int ((i:Nat):Int))):=S;have Yp:av H H2:=Lz.trans s2x;clear S O;left;calc bE _ (QJ (Yp _ _ R)) ?_;have o1:=ho 1 (by decide) (by decide);have o2:=ho 2 (by decide) (by decide);have o3:=ho 3 (by decide) (by decide);have o4:=ho 4 (by decide) (by decide);have o5:=ho 5 (by decide) (by decide);have o6:=ho 6 (by decide) (by decide);have i0:0<g.n 0:=by show 0<1;decide
  obtain⟨v1,e1,d1⟩:=N.cD.lst (t:=1) (i:=g.goal m) I rfl;have z1:v1.length=(r.mm (g.goal m)).gC.length:=by simpa using d1.1
  have Vb:=U.zD I;left;calc bC (Yp _ _ o1.1) (aY I) ?_;calc hX _ (.inl ⟨_,aR.of (Yp _ _ e1),rfl⟩) dq (λev XY=>?_);rw[z1];have XW:=av.new (.tup [.int ((g.goal m:Nat):Int),.int (((r.mm (g.goal m)).gC.length:Nat):Int)]) XY;have Y:=Yp.trans XW;have ab5:HT (upd H2 ev (.tup [.int ((g.goal m:Nat):Int),.int (((r.mm (g.goal m)).gC.length:Nat):Int)])) 1 (.ref ev) (pairD (g.ev r m)):=c9 (n:=0) af (.int _) (.int _);have ab6:upd H2 ev (.tup [.int ((g.goal m:Nat):Int),.int (((r.mm (g.goal m)).gC.length:Nat):Int)]) ev=some (.tup [.int ((g.goal m:Nat):Int),.int (((r.mm (g.goal m)).gC.length:Nat):Int)]):=af;generalize Rz:upd H2 ev (.tup [.int ((g.goal m:Nat):Int),.int (((r.mm (g.goal m)).gC.length:Nat):Int)])=H3 at *;have H3o:=XW _ _ H2e;left;calc bE _ (Dv (Y _ _ R)) ?_;left;calc dR (Y _ _ g1) (aA (j:=0) rfl) ?_;have aiz:g.goal m<mv.length:=by lia
  have emd:g.ms[g.goal m]?=some (g.ms.getD (g.goal m) default):=bt I;nofun;obtain⟨mt,ln,lr,ld,xsd,emt,t1,t2,t3,t4,t5⟩:=h5.2 (g.goal m) mv[g.goal m] _ (by simp) emd;ac_rfl;have FO:=aW.gd I;calc bC (Y _ _ g2) (aA (j:=g.goal m) (v:=.ref mt) (by rw[<-emt];simp)) ?_;calc bE _ (QJ (Y _ _ R)) ?_;left;calc bC (Y _ _ o1.1) (aY I) ?_;obtain⟨sv,esv,dsv⟩:=d1.get (i:=(r.mm (g.goal m)).gC.length-1) (d:=rR ((r.mm (g.goal m)).gC.bI ([],[]))) (by rw[List.getElem?_map,nK (d:=([],[])) Vb];rfl);have RA:=(MT (dsv.cv eA)).aK Y.aS;calc bC (Y _ _ e1) (nX (by lia) (by rw[z1];calc esv)) ?_;left;calc bE _ (tK (Y _ _ R)) ?_;nofun;obtain⟨v4,e4,d4⟩:=N.cD.lst (t:=4) (i:=m) M rfl;have z4:=d4.ko;subst z4;ac_rfl;left;calc bC (Y _ _ o4.1) (aY M) ?_;calc bC (Y _ _ e4) (aA (j:=k) (v:=.int ((r.ww m).say.getD k 0)) (by rw[List.getElem?_map,bt (d:=0) Bm];rfl)) ?_;have sy:=U.last I;calc⟨mt,ln,lr,ld,sv,_,_,_,xsd,_,_,_,rfl,Y _ _ t1,Y _ _ t4,t5.aK Y.aS,xm.of RA,FO.m2,FO.Z6,sy.bn,sy.lr,FO.XM,by rw[sy.ln];calc FO.ok,λrx H4 yJ Qm=>?_⟩;have Yq:=Y.trans yJ;nofun;obtain⟨rp,Ac,RB,MX,zs,rfl,hrp,Ad,Qn,ni,Ae,fl1,fl2,aa5⟩:=Qm.ex
  replace Ad:HT H4 2 Ac (yE (g.work r m k).ns (g.work r m k).row):=Ad
  replace ni:SL H4 zs (g.work r m k).cb:=ni
  replace Ae:H4 MX=some (.lst ((g.work r m k).words.map V.int)):=Ae
  ac_rfl;have Wn:=ab5.aK yJ.aS;have ab7:=yJ _ _ ab6;have H4o:=yJ _ _ H3o;calc un3 (bM.of hrp) ?_;left;calc⟨by decide,λlz hlz=>?_⟩;have MW:=av.new (.lst [.int 0]) hlz;have elz:upd H4 lz (.lst [.int 0]) lz=some (.lst [.int 0]):=af;generalize Vg:upd H4 lz (.lst [.int 0])=H5 at *;have Ee:=Yq.trans MW;calc bE _ (Dv (Ee _ _ R)) ?_;left;calc dR (Ee _ _ g1) (aA (j:=0) rfl) ?_;calc bE _ (.inl ⟨_,aR.of (Ee _ _ g2),rfl⟩) ?_;calc Pt _ elz (by lia) (by lia) (λlq Yr=>?_);rw[Int.toNat_natCast,ml];have XZ:=av.new (.lst (List.replicate g.ms.length (V.int 0))) Yr;have elq:upd H5 lq (.lst (List.replicate g.ms.length (V.int 0))) lq=some (.lst ((List.replicate g.ms.length 0).map V.int)):=by rw[af,List.map_replicate]
  generalize PR:upd H5 lq (.lst (List.replicate g.ms.length (V.int 0)))=H6 at *;calc⟨by decide,λla hla=>?_⟩;have vR:=av.new (.lst [.ref lq]) hla;have ela:upd H6 la (.lst [.ref lq]) la=some (.lst [.ref lq]):=af;generalize X0:upd H6 la (.lst [.ref lq])=H7 at *;have Wj:=MW.trans (XZ.trans vR);have sH7:=Yq.trans Wj;calc bE _ (Lp (sH7 _ _ R)) ?_;obtain⟨v3,e3,d3⟩:=N.cD.lst (t:=3) (i:=g.goal m) I rfl;have z3:v3.length=(r.mm (g.goal m)).hr.length:=by simpa using d3.1
  have hlh:=U.lh _ I;have X2:=U.bp _ I;left;calc bC (sH7 _ _ o3.1) (aY I) ?_;calc .inl ⟨_,_,ela,sH7 _ _ e3,P' (small (by simp;lia)),λlb hlb=>?_⟩;have s78:=av.new (.lst ([.ref lq]++v3)) hlb;have elb:upd H7 lb (.lst ([.ref lq]++v3)) lb=some (.lst ([.ref lq]++v3)):=af;generalize X1:upd H7 lb (.lst ([.ref lq]++v3))=H8 at *;have s48:=Wj.trans s78;have Ek:=Yq.trans s48;have Wo:∃rl,hJ ([V.ref lq]++v3) (-1)=some (.ref rl)/\H8 rl=some (.lst (((r.mm (g.goal m)).hr.bI (List.replicate g.ms.length 0)).map V.int)):=by
   by_cases h1:1<=(r.mm (g.goal m)).hr.length
   ·nofun;obtain⟨v,ev',dv⟩:=d3.get (i:=(r.mm (g.goal m)).hr.length-1) (d:=.lst (((r.mm (g.goal m)).hr.bI (List.replicate g.ms.length 0)).map .int)) (by rw[List.getElem?_map,nK (d:=List.replicate g.ms.length 0) h1];rfl);obtain⟨a,rfl,ea⟩:=vZ (dv.cv eA);ac_rfl;calc⟨a,nX (by simp) ?_,Ek _ _ ea⟩;rw[List.length_append,List.length_singleton,List.getElem?_append_right (by simp;lia)];rw[show 1+v3.length-1 - [V.ref lq].length=(r.mm (g.goal m)).hr.length-1 by simp;lia];exact ev'
   ·have ez:(r.mm (g.goal m)).hr=[]:=List.length_eq_zero_iff.mp (by lia);have ev3:v3=[]:=List.length_eq_zero_iff.mp (by lia);refine⟨lq,?_,?_⟩
    ·rw[ev3];exact nX (by simp) rfl
    ·rw[ez];show H8 lq=some (.lst (List.map V.int (List.getD ([]:List (List Int)) _ _)));exact s78 _ _ (vR _ _ elq)
  obtain⟨rl,erl,mB⟩:=Wo;calc bC elb erl ?_;left;calc bE _ (HN (Ek _ _ R)) ?_;obtain⟨v5,e5,d5⟩:=N.cD.lst (t:=5) (i:=m) M rfl;have ME:=U.ls m M;left;calc bC (Ek _ _ o5.1) (aY M) ?_;obtain⟨v5k,ev5,Ys⟩:=d5.get (i:=k) (d:=nh ((r.ww m).snd.getD k none)) (by rw[List.getElem?_map,bt (d:=none) (by lia)];rfl);calc bC (Ek _ _ e5) (aA ev5) ?_;left;rename_i N2 hN2 T2 U2 Jj hU2;have Wq:(oa g r m k).length=g.ms.length:=by
   have:=xt aW U M (k:=k);rw[Lw,List.length_set]at this;exact this
  have rest:∀(Yt:Addr) (z11 Qt:Option V) (H9:Hp),av H8 H9->H9 Yt=some (.lst ((oa g r m k).map V.int))->N2 [some (V.ref d),some (V.int ((m:Nat):Int)),some (V.int ((k:Nat):Int)),some (V.int ((g.goal m:Nat):Int)),some (V.int ((g.place m:Nat):Int)),some (V.ref D2),some (V.ref ev),some Ac,some (V.ref RB),some (V.ref MX),some (V.ref Yt),z11,Qt,none,none] H9:=by
   clear Jj hU2 T2 U2;intro Yt z11 Qt H9 s89 Wr;have R7:=s48.trans s89;have Nj:=Yq.trans R7;have b9:=N.cD.same Nj;left;calc bE _ (Lp (Nj _ _ R)) ?_;left;calc bC (Nj _ _ o3.1) (aY I) ?_;calc⟨.inl ⟨rfl,_,aR.of (Nj _ _ e3)⟩,?_⟩;calc bT ?_;left;calc bE _ (.inl ⟨_,aR.of Wr,rfl⟩) ?_;left;rw[List.length_map,Wq];calc gN (by lia) (by lia) (λO Ws=>?_);rw[Int.toNat_natCast];refine bx (J:=AF 0 g.ms.length) (n:=g.ms.length) (λi ys H'=>av H9 H'/\ys=(List.range i).map λj=>V.int ((oa g r m k).getD j 0+(if decide (((j:Nat):Int)=((g.goal m:Nat):Int))=true then 1 else 0))) (P' (aG (by lia))) ⟨av.new _ Ws,rfl⟩ (λi ys H' W _=>W) (λys H' _=>L' _) ?_ ?_
   ·intro i ys H' W S kb vL x H2' xK;nofun;obtain⟨L,rfl⟩:=vL;obtain⟨rfl,rfl⟩:=xK;ac_rfl;walk_at "xg";left
    try rw[if_pos trivial]
    calc bC (L _ _ Wr) (show hJ _ (0+(i:Int))=some (.int ((oa g r m k).getD i 0)) from by rw[Int.zero_add];calc aA (by rw[List.getElem?_map,bt (d:=0) (by lia)];rfl)) ?_;refine .inr ?_
    try rw[Int.zero_add]
    calc cn S kb W (P' (aG (by lia))) ⟨λc o e=>by rw[ay (au e Ws)];calc L _ _ e,?_⟩;rw[List.range_succ,List.map_append];rfl
   rintro ys yH S kb ⟨DG,rfl⟩;clear kb;have DH:=Nj.trans DG;left;calc hX v3 (DH _ _ e3) (small (by lia)) ?_;left;have nA:ad 3 (g.goal m)≠O:=λz=>by have:=Nj _ _ e3;rw[z,Ws]at this;cases this
   have kA:∀b o,b≠ad 3 (g.goal m)->yH b=some o->upd yH (ad 3 (g.goal m)) (.lst (v3++[.ref O])) b=some o:=λb o n e=>by rw[ay n];exact e
   have Ik:∀{b:Addr} {o:HO},yH b=some o->¬FP g.n ad b->b≠ad 3 (g.goal m):=λ{b o} _ h z=>h ⟨3,g.goal m,I,z⟩;have Nk:=DG _ _ (R7 _ _ ab7);have nev:ev≠ad 3 (g.goal m):=λz=>by have:=DH _ _ e3;rw[<-z,Nk]at this;cases this
   calc dR (kA _ _ nev Nk) (aA (j:=1) rfl) ?_;calc bE _ (Lp (kA _ _ (Ik (DH _ _ R) nP) (DH _ _ R))) ?_;left;calc bC (kA _ _ (Ik (DH _ _ o3.1) o3.2.2) (DH _ _ o3.1)) (aY I) ?_;calc bC af jz ?_;left;calc⟨_,g.goal m,kA _ _ (Ne.symm nA) S,BS (by simp;lia),?_⟩;rw[Lx Wq I,show(oa g r m k).set (g.goal m) (((r.mm (g.goal m)).gC.length:Nat):Int)=g.hV r m k from rfl,Ij nA];have sK:av H9 (upd yH O (.lst ((g.hV r m k).map V.int))):=λb o e=>by rw[ay (au e Ws)];exact DG _ _ e
   have eK:upd yH O (.lst ((g.hV r m k).map V.int)) O=some (.lst ((g.hV r m k).map V.int)):=af;generalize hGK:upd yH O (.lst ((g.hV r m k).map V.int))=Wt at *;have Yu:=Nj.trans sK;have bK:=N.cD.same Yu;have FSK:FS F Wt:=lD.fr (Z:=λ_=>False) Yu.fr (λ_ _ h=>h);have fresh:∀{b:Addr},H9 b=none->¬(F b\/FP g.n ad b):=λ{b} hb z=>by
    rcases z with z|z
    ·obtain⟨o,e,_⟩:=lD b z;rw[Nj _ _ e]at hb;cases hb
    ·obtain⟨o,e,_⟩:=b9.fp z;rw[e]at hb;cases hb
   have e3K:=Yu _ _ e3;have MY:=bK.app (t:=3) (i:=g.goal m) I rfl e3K (dP.one (show HD _ 4 (.ref O) (.lst ((g.hV r m k).map .int)) from .lst (by rw[gM (fresh Ws)];calc eK) (by simp) (λi u e B he=>(dP.ints (H:=jE (λb=>F b\/FP g.n ad b) Wt) (n:=3) (g.hV r m k)).2 i u e B he)));have Af:Fr (FP g.n ad) H (upd Wt (ad 3 (g.goal m)) (.lst (v3++[.ref O]))):=Yu.fr.upd ⟨3,g.goal m,I,rfl⟩ e3K trivial;have Wu:Fr (FP g.n ad) H4 (upd Wt (ad 3 (g.goal m)) (.lst (v3++[.ref O]))):=(R7.trans sK).fr.upd ⟨3,g.goal m,I,rfl⟩ e3K trivial;generalize Vw:upd Wt (ad 3 (g.goal m)) (.lst (v3++[.ref O]))=Dr at *;have acd:FS F Dr:=lD.fr Af N.cD.sj;clear kA Ik;left;calc bE _ (Lo (Af.at R nP)) ?_;obtain⟨Jy,e6,d6⟩:=MY.Z7 (t:=6) (i:=m) M rfl;have hlk:=U.lk m M;have hbs:=U.bs m M;left;calc bC (Af.at o6.1 o6.2.2) (aY M) ?_;have Tp:((r.ww m).dy.countP Option.isSome)<=(r.ww m).dy.length:=List.countP_le_length;have h6l:=d6.1;calc⟨ad 6 m,_,rfl,oJ.k (k:=Sum.inl ((k:Nat):Int)) e6 (small (by lia)),?_⟩;have Qq:=MY.upd (t:=6) (i:=m) M (QT d6 hc.lies ((MY.ht acd (Wn.aK Wu.aS)).mono (by decide)));have Jw:Fr (FP g.n ad) H (upd Dr (ad 6 m) (.dK (putK Jy (Sum.inl ((k:Nat):Int)) (.ref ev)))):=Af.upd ⟨6,m,M,rfl⟩ e6 trivial;have Wv:Fr (FP g.n ad) H4 (upd Dr (ad 6 m) (.dK (putK Jy (Sum.inl ((k:Nat):Int)) (.ref ev)))):=Wu.upd ⟨6,m,M,rfl⟩ e6 trivial;generalize Vy:upd Dr (ad 6 m) (.dK (putK Jy (Sum.inl ((k:Nat):Int)) (.ref ev)))=Eg at *;have ace:FS F Eg:=lD.fr Jw N.cD.sj;left;calc bE _ (QJ (Jw.at R nP)) ?_;obtain⟨Ww,Wx,d1'⟩:=Qq.lst (t:=1) (i:=g.goal m) I rfl;have z1':Ww.length=(r.mm (g.goal m)).gC.length:=by simpa using d1'.1
   left;calc bC (Jw.at o1.1 o1.2.2) (aY I) ?_;calc⟨.inl ⟨rfl,_,aR.of Wx⟩,?_⟩;left;calc hX Ww Wx (small (by lia)) ?_;have Yv:=Qq.app (t:=1) (i:=g.goal m) I rfl Wx (dP.one (show HD _ 4 Ac (rR ((g.work r m k).ns,(g.work r m k).row)) from(Qq.ht ace (Ad.aK Wv.aS)).mono (by decide)));have Lj:Fr (FP g.n ad) H (upd Eg (ad 1 (g.goal m)) (.lst (Ww++[Ac]))):=Jw.upd ⟨1,g.goal m,I,rfl⟩ Wx trivial;have Wy:Fr (FP g.n ad) H4 (upd Eg (ad 1 (g.goal m)) (.lst (Ww++[Ac]))):=Wv.upd ⟨1,g.goal m,I,rfl⟩ Wx trivial;generalize aiP:upd Eg (ad 1 (g.goal m)) (.lst (Ww++[Ac]))=Li at *;have acf:FS F Li:=lD.fr Lj N.cD.sj;left;calc bE _ (V9 (Lj.at R nP)) ?_;obtain⟨v2,e2,d2⟩:=Yv.lst (t:=2) (i:=g.goal m) I rfl;have z2:v2.length=(r.mm (g.goal m)).wp.length:=by simpa using d2.1
   have hlw:=U.lw _ I;left;calc bC (Lj.at o2.1 o2.2.2) (aY I) ?_;calc⟨.inl ⟨rfl,_,aR.of e2⟩,?_⟩;calc bE _ (V9 (Lj.at R nP)) ?_;left;calc bC (Lj.at o2.1 o2.2.2) (aY I) ?_;nofun;obtain⟨vw,evw,dvw⟩:=d2.get (i:=(r.mm (g.goal m)).wp.length-1) (d:=.lst (((r.mm (g.goal m)).wp.bI []).map .int)) (by rw[List.getElem?_map,nK (d:=[]) (by lia)];rfl);obtain⟨lw,rfl,elw⟩:=vZ (dvw.cv eA);ac_rfl;calc bC e2 (nX (by lia) (by rw[z2];calc evw)) ?_;have HE:¬FP g.n ad RB:=λz=>by
    obtain⟨u,e,_⟩:=(N.cD.same Y).fp z;rw[fl1]at e;cases e
   have Qp:¬FP g.n ad MX:=λz=>by
    obtain⟨u,e,_⟩:=(N.cD.same Y).fp z;rw[fl2]at e;cases e
   have hbw:=U.bw _ I _ (ib (l:=(r.mm (g.goal m)).wp) (d:=[]) (by lia));calc .inl ⟨_,_,elw,Wy.at Ae Qp,P' (small (by simp;lia)),λnw hnw=>?_⟩;have sE:=av.new (.lst (((r.mm (g.goal m)).wp.bI []).map V.int++(g.work r m k).words.map V.int)) hnw;have enw:upd Li nw (.lst (((r.mm (g.goal m)).wp.bI []).map V.int++(g.work r m k).words.map V.int)) nw=some (.lst (((r.mm (g.goal m)).wp.bI []++(g.work r m k).words).map V.int)):=by rw[af,List.map_append]
   generalize abZ:upd Li nw (.lst (((r.mm (g.goal m)).wp.bI []).map V.int++(g.work r m k).words.map V.int))=Wz at *;have f14:=Lj.trans sE.fr;have ach:=Wy.trans sE.fr;have b14:=Yv.same sE;have aiU:FS F Wz:=lD.fr f14 N.cD.sj;have nnw:¬(F nw\/FP g.n ad nw):=λz=>by
    rcases z with z|z
    ·obtain⟨o,e,_⟩:=acf nw z;rw[hnw]at e;cases e
    ·obtain⟨o,e,_⟩:=Yv.fp z;rw[hnw]at e;cases e
   left;calc hX v2 (sE _ _ e2) (small (by lia)) ?_;have b15:=b14.app (t:=2) (i:=g.goal m) I rfl (sE _ _ e2) (dP.one (show HD _ 4 (.ref nw) (.lst (((r.mm (g.goal m)).wp.bI []++(g.work r m k).words).map .int)) from .lst (by rw[gM nnw];calc enw) (by simp) (λi u e B he=>(dP.ints (H:=jE (λb=>F b\/FP g.n ad b) Wz) (n:=3) ((r.mm (g.goal m)).wp.bI []++(g.work r m k).words)).2 i u e B he)));have f15:Fr (FP g.n ad) H (upd Wz (ad 2 (g.goal m)) (.lst (v2++[.ref nw]))):=f14.upd ⟨2,g.goal m,I,rfl⟩ (sE _ _ e2) trivial;have ack:Fr (FP g.n ad) H4 (upd Wz (ad 2 (g.goal m)) (.lst (v2++[.ref nw]))):=ach.upd ⟨2,g.goal m,I,rfl⟩ (sE _ _ e2) trivial;generalize aiW:upd Wz (ad 2 (g.goal m)) (.lst (v2++[.ref nw]))=H15 at *;have aiX:FS F H15:=lD.fr f15 N.cD.sj;left;calc bE _ (Lq (f15.at R nP)) ?_;obtain⟨v0,e0,d0⟩:=b15.lst (t:=0) (i:=0) i0 rfl;have z0:v0.length=r.picks.length:=by simpa using d0.1
   left;calc gN (.inl ⟨rfl,_,aR.of e0⟩) dq (λtp Be=>?_);have B2:=av.new (.tup [.int ((m:Nat):Int),.int ((k:Nat):Int)]) Be;have WA:HT (upd H15 tp (.tup [.int ((m:Nat):Int),.int ((k:Nat):Int)])) 1 (.ref tp) (pairD ((m:Int),(k:Int))):=c9 (n:=0) af (.int _) (.int _);generalize aiY:upd H15 tp (.tup [.int ((m:Nat):Int),.int ((k:Nat):Int)])=Nh at *;have f16:=f15.trans B2.fr;have acn:=ack.trans B2.fr;have b16:=b15.same B2;have acp:FS F Nh:=lD.fr f16 N.cD.sj;have LD:=B2 _ _ e0;left;calc hX v0 LD (small (by lia)) ?_;have b17:=b16.app (t:=0) (i:=0) i0 rfl LD (dP.one ((b16.ht acp WA).mono (by decide)));have f17:Fr (FP g.n ad) H (upd Nh (ad 0 0) (.lst (v0++[.ref tp]))):=f16.upd ⟨0,0,i0,rfl⟩ LD trivial;have LF:Fr (FP g.n ad) H4 (upd Nh (ad 0 0) (.lst (v0++[.ref tp]))):=acn.upd ⟨0,0,i0,rfl⟩ LD trivial;generalize aiZ:upd Nh (ad 0 0) (.lst (v0++[.ref tp]))=H17 at *;have acs:cq F H17 d (.ref tt) g (r.step g m k) ad:=N.own f17 (b17.congr Ly);have Nl:SL H17 zs (g.work r m k).cb:=ni.aK LF.aS;have WB:=LF.at Qn HE;have Nm:=Wn.aK LF.aS;have nD2:¬FP g.n ad D2:=λz=>by
    obtain⟨u,e,_⟩:=(N.cD.same Lz).fp z;rw[BG]at e;cases e
   have acv:=LF.at H4o nD2;clear b9 bK MY Qq Yv b14 b15 b16 b17 d0 d1' d2 d6;left;have VD:zs.length=(g.work r m k).cb.length:=Nl.1;have Qr:=U.step aW M (k:=k);have Qs:∀a c,some (g.ev r m)=some (a,c)->0<=a/\a<g.ms.length/\1<=c/\c<=((r.step g m k).mm a.toNat).hr.length:=BU aW U M;refine⟨_,rfl,.inl ⟨⟨_,aR.of WB⟩,jv (K:=K) (xs:=zs) (λi σ H'=>(∃Qu z14,σ=[some (V.ref d),some (V.int ((m:Nat):Int)),some (V.int ((k:Nat):Int)),some (V.int ((g.goal m:Nat):Int)),some (V.int ((g.place m:Nat):Int)),some (V.ref D2),some (V.ref ev),some Ac,some (V.ref RB),some (V.ref MX),some (V.ref Yt),z11,Qt,Qu,z14])/\Fr (FP g.n ad) H17 H'/\cq F H' d (.ref tt) g ((r.step g m k).send (g.outs (g.goal m)) (g.ev r m) ((g.work r m k).cb.take i)) ad) ?_ ?_ ?_ ?_⟩⟩
   ·exact⟨⟨_,_,rfl⟩,Fr.refl,acs⟩
   ·rintro i σ H' W ⟨_,fi,_⟩;exact aR.of (fi.at WB HE)
   ·intro i z σ H' hz K7;nofun;obtain⟨⟨Qu,z14,rfl⟩,fi,B3⟩:=K7;have BF:i < zs.length:=(List.getElem?_eq_some_iff.mp hz).1;have VE:i < (g.work r m k).cb.length:=by lia
    have Ei:(g.work r m k).cb[i]?=some (g.work r m k).cb[i]:=cE VE;have hp0:=wk4 _ (aai VE);have Qv:=(Nl.2 i z _ hz Ei).aK fi.aS;have Lk:(r.step g m k).send (g.outs (g.goal m)) (g.ev r m) ((g.work r m k).cb.take (i+1))=((r.step g m k).send (g.outs (g.goal m)) (g.ev r m) ((g.work r m k).cb.take i)).send (g.outs (g.goal m)) (g.ev r m) [(g.work r m k).cb[i]]:=by
     rw[List.take_succ,Ei];exact pB _
    have Ag:=(RS.sO.send (outs:=g.outs (g.goal m)) (ev:=g.ev r m) ((g.work r m k).cb.take i) Qr Qs).mono (show _<=19998 by simp;lia);generalize (g.work r m k).cb[i]=p at *;obtain⟨pj,px⟩:=p;obtain⟨tz,u1,u2,kz,rfl,DT,y1,y2⟩:=cy Qv;obtain rfl:=y1.bN;obtain rfl:=y2.bN;ac_rfl;calc yG (bM.of DT) ?_;have eDi:=fi.at acv nD2;left;calc bE _ (.inl ⟨_,aR.of eDi,rfl⟩) ?_;left;have hlen:((sf g 0 (g.goal m)).map λi=>V.int ((i:Nat):Int)).length=(g.outs (g.goal m)).length:=by rw[List.length_map];rfl
    rw[hlen];have ej:((pj.toNat:Nat):Int)=pj:=aaZ hp0;by_cases ng:pj<((g.outs (g.goal m)).length:Nat)
    ·rw[if_pos (by simpa using ng)];have Ms:pj.toNat < (g.outs (g.goal m)).length:=by lia
     have qU:(g.outs (g.goal m)).getD pj.toNat 0<g.ws.length:=by
      have:=getD_mem (d:=0) Ms;unfold NT.outs at this ⊢;rw[List.mem_filter,List.mem_range]at this;exact this.1
     have x6:hJ ((sf g 0 (g.goal m)).map λi=>V.int ((i:Nat):Int)) pj=some (.int (((g.outs (g.goal m)).getD pj.toNat 0:Nat):Int)):=by
      rw[<-ej];calc aA ?_;rw[List.getElem?_map];show Option.map _ (g.outs (g.goal m))[_]?=_;rw[Int.toNat_natCast,bt (d:=0) Ms];rfl
     nofun;obtain⟨ow,how⟩:∃ow,ow=(g.outs (g.goal m)).getD pj.toNat 0:=⟨_,rfl⟩
     rw[<-how]at qU x6;generalize hri:(r.step g m k).send (g.outs (g.goal m)) (g.ev r m) ((g.work r m k).cb.take i)=ri at *;obtain⟨oi,WC,nFi,nPi,WD⟩:=B3.dk;have oi4:=WD 4 (by decide) (by decide);have WE:=WD 5 (by decide) (by decide);have bi:=B3.cD;obtain⟨w4,x4,y4⟩:=bi.lst (t:=4) (i:=ow) qU rfl;ac_rfl;have l4:w4.length=(ri.ww ow).say.length:=by simpa using y4.1
     have hb4:=Ag.bs ow qU;have hb5:=Ag.ls ow qU;left;calc bE _ (tK WC) ?_;left;calc bC eDi x6 ?_;calc bC oi4.1 (aY qU) ?_;calc⟨.inl ⟨rfl,_,aR.of x4⟩,?_⟩;left;calc hX w4 x4 (small (by lia)) ?_;have bj:=bi.app (t:=4) (i:=ow) qU rfl x4 (dP.one (.int px));have fj:Fr (FP g.n ad) H' (upd H' (ad 4 ow) (.lst (w4++[.int px]))):=Fr.refl.upd ⟨4,ow,qU,rfl⟩ x4 trivial;generalize hGj:upd H' (ad 4 ow) (.lst (w4++[.int px]))=Hj at *;obtain⟨w5,x5,y5⟩:=bj.lst (t:=5) (i:=ow) qU rfl;have l5:w5.length=(ri.ww ow).snd.length:=by simpa using y5.1
     left;calc bE _ (HN (fj.at WC nPi)) ?_;left;calc bC (fj.at eDi nD2) x6 ?_;calc bC (fj.at WE.1 WE.2.2) (aY qU) ?_;calc⟨.inl ⟨rfl,_,aR.of x5⟩,?_⟩;left;calc hX w5 x5 (small (by lia)) ?_;have FSj:FS F Hj:=lD.fr ((f17.trans fi).trans fj) N.cD.sj;have bk:=bj.app (t:=5) (i:=ow) qU rfl x5 (dP.one (show HD _ 4 (.ref ev) (nh (some (g.ev r m))) from(bj.ht FSj ((Nm.aK fi.aS).aK fj.aS)).mono (by decide)));have fk:Fr (FP g.n ad) H' (upd Hj (ad 5 ow) (.lst (w5++[.ref ev]))):=fj.upd ⟨5,ow,qU,rfl⟩ x5 trivial;left;calc gN ⟨_,_,rfl,rfl⟩ (fi.trans fk) ?_;rw[Lk];show cq F _ d _ g (if pj.toNat<_ then _ else _) ad;rw[if_pos Ms];show cq F _ d _ g (ri.put ((g.outs (g.goal m)).getD pj.toNat 0) px (some (g.ev r m))) ad;rw[<-how];exact B3.own fk (bk.congr Ii)
    ·rw[if_neg (by simpa using ng)];left;calc gN ⟨_,_,rfl,rfl⟩ fi ?_;rw[Lk];show cq F H' d _ g (if pj.toNat<_ then _ else _) ad;rw[if_neg (by lia)];exact B3
   ·intro σ H' Qa;nofun;obtain⟨⟨Qu,z14,rfl⟩,fi,B3⟩:=Qa;ac_rfl;left;rw[VD,List.take_length]at B3;exact q _ _ (f17.trans fi) B3 (Nm.aK fi.aS)
  clear hN2
  cases Lb:(r.ww m).snd.getD k none with
  |none=>
   rw[Lb]at Ys;have:=Aa Ys;subst this;left
   try rw[if_neg (by decide)]
   left;calc rest rl _ _ H8 (av.refl _) ?_;unfold oa;rw[Lb];calc mB
  |some sc=>
   nofun;obtain⟨s0,c0⟩:=sc;rw[Lb]at Ys;obtain⟨ae,rfl,XB⟩:=qS (Ys.cv eA);have acA:=Ek _ _ XB;have wU:some (s0,c0)∈(r.ww m).snd:=by rw[<-Lb];exact getD_mem (by lia)
   obtain⟨q1,q2,q3,q4⟩:=U.sd m M s0 c0 wU;ac_rfl;left
   try rw[if_pos (by decide)]
   left;calc bE _ (HN (Ek _ _ R)) ?_;left;calc bC (Ek _ _ o5.1) (aY M) ?_;calc bC (Ek _ _ e5) (aA ev5) ?_;calc yG (bM.of acA) ?_;left;calc bT ?_;left;calc bE _ (Lp (Ek _ _ R)) ?_;have hsm:s0.toNat<g.ms.length:=by lia
   have es0:((s0.toNat:Nat):Int)=s0:=aaZ q1;have ec0:(((c0-1).toNat:Nat):Int)=c0-1:=aaZ (by lia);left;calc bC (Ek _ _ o3.1) (show hJ _ s0=some (.ref (ad 3 s0.toNat)) from by have:=aY (n:=g.n) (ad:=ad) (t:=3) hsm;rw[es0]at this;calc this) ?_;nofun;obtain⟨vs3,es3,ds3⟩:=N.cD.lst (t:=3) (i:=s0.toNat) hsm rfl;obtain⟨vr,evr,dvr⟩:=ds3.get (i:=(c0-1).toNat) (d:=.lst (((r.mm s0.toNat).hr.getD (c0-1).toNat []).map .int)) (by rw[List.getElem?_map,bt (d:=[]) (by lia)];rfl);obtain⟨lo,rfl,elo⟩:=vZ (dvr.cv eA);ac_rfl;calc bC (Ek _ _ es3) (show hJ _ (c0-1)=some (.ref lo) from by rw[<-ec0];calc aA evr) ?_;have LG:=Ek _ _ elo;left;calc fS true true _ _ (Sq.l mB) (Sq.l LG) (λD3 Dk=>?_);have afl:((r.mm (g.goal m)).hr.bI (List.replicate g.ms.length 0)).length=g.ms.length:=by
    by_cases h1:1<=(r.mm (g.goal m)).hr.length
    ·exact U.hl _ I _ (ib h1)
    ·have ez:(r.mm (g.goal m)).hr=[]:=List.length_eq_zero_iff.mp (by lia);rw[ez];simp[List.bI]
   have afm:((r.mm s0.toNat).hr.getD (c0-1).toNat []).length=g.ms.length:=U.hl _ hsm _ (getD_mem (by lia));have ehr:oa g r m k=List.zipWith max ((r.mm (g.goal m)).hr.bI (List.replicate g.ms.length 0)) ((r.mm s0.toNat).hr.getD (c0-1).toNat []):=by
    unfold oa;rw[Lb]
   generalize hA:(r.mm (g.goal m)).hr.bI (List.replicate g.ms.length 0)=LA at *;generalize hB:(r.mm s0.toNat).hr.getD (c0-1).toNat []=LB at *;refine bx (J:=XA true true K rl lo) (n:=g.ms.length) (λi ys H'=>av H8 H'/\ys=((List.zipWith max LA LB).take i).map V.int) (P' (aG (by lia))) ⟨av.new _ Dk,rfl⟩ ?_ ?_ ?_ ?_
   ·rintro i ys H' W ⟨L,_⟩;exact⟨_,_,_,_,Sq.l (L _ _ mB),Sq.l (L _ _ LG),by rw[List.getElem?_map,bt (d:=0) (by lia)];rfl,by rw[List.getElem?_map,bt (d:=0) (by lia)];rfl⟩
   ·rintro ys H' ⟨L,_⟩;exact⟨_,_,Sq.l (L _ _ mB),Sq.l (L _ _ LG),.inl (by simp;lia)⟩
   ·intro i ys H' W S O Qc xx H4' zq9;nofun;obtain⟨L,rfl⟩:=Qc;obtain⟨t',Wm,rfl,y⟩:=zq9;obtain⟨x1,x2,ex1,ex2,rfl⟩:=y _ _ (Sq.l (L _ _ mB)) (Sq.l (L _ _ LG));rw[List.getElem?_map,bt (d:=0) (by lia)] at ex1 ex2;obtain rfl:=Option.some.inj ex1;obtain rfl:=Option.some.inj ex2;ac_rfl;have s2:=av.new (.tup [.int (LA.getD i 0),.int (LB.getD i 0)]) Wm;have ou:upd H' t' (.tup [.int (LA.getD i 0),.int (LB.getD i 0)]) t'=some (.tup [.int (LA.getD i 0),.int (LB.getD i 0)]):=af;calc yG (bM.of ou) ⟨Ext.set (Ext.set (Ext.refl _) rfl) rfl,?_⟩;left
    try rw[if_pos trivial]
    calc cn (s2 _ _ S) O W (P' (aG (by lia))) ⟨λc o e=>by rw[ay (au e Dk)];calc s2 _ _ (L _ _ e),?_⟩;rw[List.take_succ,List.getElem?_zipWith,bt (l:=LA) (d:=0) (by lia),bt (l:=LB) (d:=0) (by lia),List.map_append];show _++[V.int (if LB.getD i 0 > LA.getD i 0 then LB.getD i 0 else LA.getD i 0)]=_++[V.int (max (LA.getD i 0) (LB.getD i 0))]
    congr 3;split<;>lia
   rintro ys H9 S O ⟨s89,rfl⟩;rw[List.take_of_length_le (by simp;lia),<-ehr]at S;left;calc rest D3 _ _ H9 s89 S
structure qt(H0 H':Hp)(D:Addr)(as:List Addr)(n:Nat)(ct:Nat->Hp->HO->Prop):Prop where
 len:as.length=n
 nd:as.Nodup
 new:∀a∈as,H0 a=none/\a≠D
 ins:∀(j:Nat) a,as[j]?=some a->∃o,H' a=some o/\ct j H' o
theorem qt.nil{ct:Nat->Hp->HO->Prop}:qt H0 H' D [] 0 ct:=⟨rfl,List.nodup_nil,λa h=>by simp at h,λj a h=>by simp at h⟩
theorem qt.snoc{n:Nat}{ct:Nat->Hp->HO->Prop}(h:qt H0 H1 D as n ct)(q:av H0 H1)(r:H1 D≠none)(g:H1 a=none){o:HO}(e:H' a=some o)(c:ct n H' o)(s:∀b o,b≠D->H1 b=some o->H' b=some o)(f:∀j o,ct j H1 o->ct j H' o):qt H0 H' D (as++[a]) (n+1) ct:=by
 refine⟨by simp[h.len],?_,λb d=>?_,λj b d=>?_⟩
 ·rw[List.nodup_append];calc gN h.nd (by simp) (λb d c l=>?_);simp at l;subst l;intro z;subst z;obtain⟨j,k⟩:=List.getElem?_of_mem d;obtain⟨m,i,_⟩:=h.ins j b k;rw[g]at i;cases i
 ·rcases List.mem_append.mp d with d | d
  ·exact h.new b d
  ·simp at d;subst d;refine⟨?_,λz=>r (z ▸ g)⟩
   cases t:H0 b with
   |none=>rfl
   |some o=>rw[q _ _ t]at g;cases g
 ·by_cases k:j < as.length
  ·rw[List.getElem?_append_left k]at d;obtain⟨m,i,g⟩:=h.ins j b d;exact⟨m,s _ _ (h.new b (Y' d)).2 i,f _ _ g⟩
  ·rw[List.getElem?_append_right (by lia)] at d
   cases p:j-as.length with
   |zero=>
    rw[p]at d;simp at d;subst d;have:j=n:=by have:=h.len;lia
    subst this;calc⟨o,e,c⟩
   |succ k=>rw[p]at d;simp at d
theorem qt.keep{n:Nat}{ct:Nat->Hp->HO->Prop}(h:qt H0 H1 D as n ct)(s:∀(j:Nat) (b:Addr) (o:HO),H1 b=some o->ct j H1 o->H' b=some o/\ct j H' o):qt H0 H' D as n ct:=
 ⟨h.len,h.nd,h.new,λj a e=>by
  obtain⟨c,d,f⟩:=h.ins j a e;calc⟨c,s _ _ _ d f⟩⟩
theorem qW{K:W.Frag}{ix:List (Option Nat)}{r:TE}{l:Addr}{xs:List V}(t:H l=some (.lst xs))(v:H D=none)(G:xs.length<=10)(y:∀x,Ext (vm ix σ) ((vm ix σ).set 0 (some x)))(d:∀g j (R:VK),(∀p,j p=none->R (.ref p) (upd j p o))->r g j R)(q:∀as H1,H1 D=some (.lst (as.map V.ref))->av H H1->qt H H1 D as xs.length (λ_ _ u=>u=o)->Q (.ref D) H1):lW ix (u7 K l) (gX 0) iM r σ H Q D:=by
 refine bx (n:=xs.length) (λi ys H'=>∃as:List Addr,ys=as.map V.ref/\av H H'/\qt H H' D as i (λ_ _ u=>u=o)) (P' (small (by lia))) ⟨[],rfl,av.new _ v,qt.nil⟩ ?_ ?_ ?_ ?_
 ·rintro i ys H' k ⟨_,_,a,_⟩;exact⟨_,xs[i],aR.of (a _ _ t),cE k⟩
 ·rintro ys H' ⟨_,_,a,_⟩;exact⟨_,aR.of (a _ _ t),L' _⟩
 ·intro i ys H' k c w z B I C;obtain⟨as,rfl,a,m⟩:=z;obtain⟨rfl,g⟩:=C;calc⟨y B,?_⟩;simp only[iM,if_true];calc d _ _ _ λp g=>?_;have d:=av.new o g;have i:p≠D:=Ne.symm (au c g);refine cn (d _ _ c) w k (P' (small (by lia))) ⟨as++[p],by simp,λb o e=>?_,?_⟩
  ·rw[ay (au e v)];exact d _ _ (a _ _ e)
  ·refine m.snoc a (by rw[c];simp) g (o:=o) ?_ rfl (λb o a e=>?_) (λj u e=>e)
   ·rw[ay i];exact af
   ·rw[ay a];exact d _ _ e
 ·intro ys H1 c w F;obtain⟨as,rfl,a,m⟩:=F;calc q as H1 c a m
theorem DI{F:Addr->Prop}{H:Hp}{n:Nat->Nat}{ad:Nat->Nat->Addr}{ct:Nat->Nat->CO}(k:Nat->Hp)(c:Nat->Nat)(p:∀t b,k t b≠none->k (t+1) b≠none)(v:∀t i,i<n t->k (c t) (ad t i)=none)(y:∀t i,i<n t->k (c t+1) (ad t i)≠none)
  (q:∀t t' i g,i<n t->g<n t'->c t=c t'->t=t') (r:∀t i j,i<n t->j<n t->ad t i=ad t j->i=j) (u:∀b,F b->k 0 b≠none) (B:∀t i,i<n t->∃o,H (ad t i)=some o/\OR (jE (λb=>F b\/FP n ad b) H) (ct t i) o):dO F H n ad ct:=by
 have w:∀(d t:Nat) (b:Addr),k t b≠none->k (t+d) b≠none:=by
  intro d;induction d with
  |zero=>calc λt b h=>h
  |succ d j=>exact λt b h=>p _ _ (j t b h)
 have x:∀t i t' g,i<n t->g<n t'->c t<c t'->ad t i≠ad t' g:=by
  intro t i t' g h m l e;obtain⟨d,j⟩:∃d,c t'=c t+1+d:=⟨c t'-(c t+1),by lia⟩
  have a:=w d (c t+1) _ (y t i h);rw[<-j,e]at a;exact a (v _ g m)
 refine⟨λt i t' g h m e=>?_,λt i h z=>?_,B⟩
 ·rcases Nat.lt_trichotomy (c t) (c t') with l | l | l
  ·exact absurd e (x _ _ _ _ h m l)
  ·have:=q t t' i g h m l;subst this;exact⟨rfl,r t i g h m e⟩
  ·exact absurd e.symm (x _ _ _ _ m h l)
 ·have:=w (c t) 0 _ (u _ z);rw[Nat.zero_add]at this;calc this (v t i h)
abbrev kQ:Stmt:=top 56
inductive Il(vs:List V)(H:Hp)(Q:VK):Prop
 |mk (F:Addr->Prop) (tn:V) (nt:NT) (ls:List (Int×Int)) (h0:vs=[tn]) (h1:ToldN (jE F H) tn nt.ms nt.ws ls) (h2:FS F H) (h3:nt.Ok) (h4:ls.length<=20) (h5:∀l∈ls,0<=l.1/\l.1<nt.ws.length) (h6:∀d ad H',av H H'->(∀b,FP nt.n ad b->H b=none)->H d=none->cq F H' d tn nt (RS.begin nt ls) ad->Q (.ref d) H'):Il vs H Q
def B4:Sp:=λvs H Q _=>Il vs H Q
theorem yp(D:cZ K mg "_law_begun" "_law_begun" kQ ["_law_net_here"])(T:Tx K mg C CN CR F FD):Def P w K mg base "_law_begun" 1 ["_law_net_here"] B4:=by
 have sc:aE ["_law_net_here","_law_run","_law_way","_law_said"] ["_law_net_here"] (az kQ):=by walk_at "s"
 symm
 ·obtain⟨F,tn,g,ls,rfl,hN,lD,aW,xP,uk,q⟩:=h;rfl
 ·nofun;obtain⟨F,tn,g,ls,rfl,hN,lD,aW,xP,uk,q⟩:=h;ac_rfl;have hu:=hr.units;have xH:=Ut hu;refine⟨_,(aj (ba (i:=1) sc.nd rfl (by grind) (J4 (rj aD (aq 0) (rj aD (dE (N':=["_law_way"]) (ix:=[none]) (cu (ak hu (aq 0) ai)) (λ_ _ _ _=>(bb (i:=0) (show(["_law_way"]:List Str).Nodup by decide +kernel) rfl (by grind))) oq (λ_ _ _ _=>(bR aa))) (rj aD (dE (N':=["_law_way"]) (ix:=[none]) (cu (ak hu (aq 0) ai)) (λ_ _ _ _=>(bb (i:=0) (show(["_law_way"]:List Str).Nodup by decide +kernel) rfl (by grind))) oq (λ_ _ _ _=>(bR aa))) J3))) rfl rfl (by decide) (by decide)))
   (aj (jO xH (aq 1) aD (dE (N':=["_law_way"]) (ix:=[none]) (cu (ak hu (aq 0) ai)) (λ_ _ _ _=>(bb (i:=0) (show(["_law_way"]:List Str).Nodup by decide +kernel) rfl (by grind))) oq (λ_ _ _ _=>Fg)) rfl)
   (aj (jO xH (aq 1) aD (dE (N':=["_law_one"]) (ix:=[none]) (cu (ak hu (aq 0) ai)) (λ_ _ _ _=>(bb (i:=0) (show(["_law_one"]:List Str).Nodup by decide +kernel) rfl (by grind))) oq (λ_ _ _ _=>(bR (ag (bQ (ag (dZ (nH (K:=K) rfl) rfl T.cB sR (ag (eU (K:=K) rfl hu (aq 0) ai) aa)) (ag (dZ (nH (K:=K) rfl) rfl T.cB sR (ag (eU (K:=K) rfl hu (aq 0) ai) aa)) aa))) aa)))) rfl)
   (aj (jO xH (aq 1) aD (dE (N':=["_law_one"]) (ix:=[none]) (cu (ak hu (aq 0) ai)) (λ_ _ _ _=>(bb (i:=0) (show(["_law_one"]:List Str).Nodup by decide +kernel) rfl (by grind))) oq (λ_ _ _ _=>(bR (ag (bR aa) aa)))) rfl)
   (aj (jO xH (aq 1) aD (dE (N':=["_law_one"]) (ix:=[none]) (cu (ak hu (aq 0) ai)) (λ_ _ _ _=>(bb (i:=0) (show(["_law_one"]:List Str).Nodup by decide +kernel) rfl (by grind))) oq (λ_ _ _ _=>(bR aa))) rfl)
   (aj (jO xH (aq 1) aD (bR aa) rfl)
   (aj (fH PassesOwn.never rfl (cu (ak hu (aq 0) ai)) (iV (i:=2) (j:=3) rfl sc.nd rfl rfl (by grind) (by grind))
   (aj (cj (dD oj qA qB ck (ak hu (ak hu (aq 1) aD) (aq 2)) (ag (aq 3) aa)))
   (ao (cj (dD oj qA qB ck (ak hu (ak hu (aq 1) aD) (aq 2)) (ag iS aa))))))
   (ao (aI (aq 1)))))))))),?_⟩
  nofun;obtain⟨N,am,aw,al,mv,wv,lv,rfl,h1,h2,h3,h4,h5,h6,h7⟩:=id hN;have g1:=(dG h1 (λk z=>by cases z)).2;have g2:=(dG h2 (λk z=>by cases z)).2;have g3:=(dG h3 (λk z=>by cases z)).2;have g4:=(dG h4 (λk z=>by cases z)).2
  replace h5:=h5.cv eA
  replace h6:=h6.aK eA.aS
  replace h7:=h7.aK eA.aS
  ac_rfl;have f6:wv.length=g.ws.length:=by simpa using h6.1
  have ml:mv.length=g.ms.length:=h5.1;have xU:lv.length=ls.length:=by simpa using h7.1
  have T:wv.length<=10:=by rw[f6];exact aW.CS
  have T:mv.length<=5:=by rw[ml];exact aW.Z9
  left;calc Kp λd qR=>?_;have QU:=av.new (.dK []) qR;have ed0:upd H d (.dK []) d=some (.dK []):=af;generalize hGd:upd H d (.dK [])=C1 at *;left;calc bT ?_;left;calc dR (QU _ _ g1) (aA (j:=1) rfl) ?_;left;calc .inl ⟨⟨_,aR.of (QU _ _ g3)⟩,λI Dn=>?_⟩;calc qW (o:=.lst []) (QU _ _ g3) Dn (by lia) (λ_=>Ext.set (Ext.refl _) rfl) (λ_ _ _ r=>And.intro (by decide) r) ?_;intro A1 H1 y RG X4;have VJ:=y;clear y;have VM:C1 I=none:=Dn;left;generalize hC2:H1=C2 at *;have S2:=QU.trans RG;have R8:=RG _ _ ed0;have X5:∀b o,b≠d->C1 b=some o->C2 b=some o:=λb o _ e=>RG _ _ e;calc bT ?_;left;calc dR (S2 _ _ g1) (aA (j:=1) rfl) ?_;left;calc .inl ⟨⟨_,aR.of (S2 _ _ g3)⟩,λL T=>?_⟩;calc qW (o:=.lst []) (S2 _ _ g3) T (by lia) (λ_=>Ext.set (Ext.refl _) rfl) (λ_ _ _ r=>And.intro (by decide) r) ?_;intro A2 H2 y Qx X7;have RK:=y;clear y;have PZ:C2 L=none:=T;left;have B5:H2 d=some (.dK []):=Qx _ _ R8;calc⟨B5,[((Sum.inr "net":Key),V.ref N),((Sum.inr "put":Key),V.ref I),((Sum.inr "sender":Key),V.ref L)],rfl,by simp,?_⟩;have yq:lU [] ([((Sum.inr "net":Key),V.ref N),((Sum.inr "put":Key),V.ref I),((Sum.inr "sender":Key),V.ref L)]:List (Key×V))=[((Sum.inr "net":Key),V.ref N),((Sum.inr "put":Key),V.ref I),((Sum.inr "sender":Key),V.ref L)]:=by kernel_rfl
  rw[yq];nofun;obtain⟨C3,T,R9,RJ,ke2⟩:=fQ (d:=d) ([((Sum.inr "net":Key),V.ref N),((Sum.inr "put":Key),V.ref I),((Sum.inr "sender":Key),V.ref L)]) Qx;ac_rfl;rw[T];have S3:av H C3:=λb o e=>RJ b o (au e qR) (S2 _ _ e);clear T;clear B5 yq;left;refine bT ?_;left;refine dR (S3 _ _ g1) (aA (j:=1) rfl) ?_;left;refine .inl ⟨⟨_,aR.of (S3 _ _ g3)⟩,λU T=>?_⟩;refine qW (o:=.dK []) (S3 _ _ g3) T (by lia) (λ_=>Ext.set (Ext.refl _) rfl) (λ_ _ _ r=>r) ?_;intro A3 H3 y Qy X9;have RO:=y;clear y;have P0:C3 U=none:=T;left;have B5:=Qy _ _ R9;refine cF d _ rfl (oJ.k (k:=Sum.inr "worker") B5 (small (by simp))) ?_;have yq:putK ([((Sum.inr "net":Key),V.ref N),((Sum.inr "put":Key),V.ref I),((Sum.inr "sender":Key),V.ref L)]:List (Key×V)) (Sum.inr "worker":Key) (V.ref U)=[((Sum.inr "net":Key),V.ref N),((Sum.inr "put":Key),V.ref I),((Sum.inr "sender":Key),V.ref L),((Sum.inr "worker":Key),V.ref U)]:=by kernel_rfl
  rw[yq];nofun;obtain⟨C4,T,QV,RN,ke3⟩:=fQ (d:=d) ([((Sum.inr "net":Key),V.ref N),((Sum.inr "put":Key),V.ref I),((Sum.inr "sender":Key),V.ref L),((Sum.inr "worker":Key),V.ref U)]) Qy;ac_rfl;rw[T];have S4:av H C4:=λb o e=>RN b o (au e qR) (S3 _ _ e);clear T;clear B5 yq;left;refine bT ?_;left;refine dR (S4 _ _ g1) (aA (j:=0) rfl) ?_;left;refine .inl ⟨⟨_,aR.of (S4 _ _ g2)⟩,λX RT=>?_⟩;refine bx (J:=u7 K am) (n:=mv.length) (λi ys H'=>∃as:List Addr,ys=as.map V.ref/\av C4 H'/\qt C4 H' X as i (λj H' o=>∃v,o=.lst [v]/\HT H' 2 v (yE (g.ms.getD j default).ns (g.ms.getD j default).row))) (P' (small (by lia))) ⟨[],rfl,av.new _ RT,qt.nil⟩ ?_ ?_ ?_ ?_
  ·rintro i ys H' a ⟨_,_,s3,_⟩;exact⟨_,mv[i],aR.of (s3 _ _ (S4 _ _ g2)),cE a⟩
  ·rintro ys H' ⟨_,_,s3,_⟩;exact⟨_,aR.of (s3 _ _ (S4 _ _ g2)),L' _⟩
  ·intro i ys H' a y hl vJ xx H4 vL;nofun;obtain⟨as,rfl,s3,hL⟩:=vJ;obtain⟨rfl,hy⟩:=vL;ac_rfl;have ex:=hy _ (aR.of (s3 _ _ (S4 _ _ g2)));walk_at "xg";left
   try rw[if_pos trivial]
   have Ll:i<g.ms.length:=by lia
   nofun;obtain⟨mt,ln,lr,ld,xsd,rfl,m1,m2,m3,T,m5⟩:=h5.2 i xx _ ex (bt (d:=default) Ll);ac_rfl;have T:=(S4.trans s3)
   calc dR (T _ _ m1) (aA (j:=1) rfl) ?_;left;calc .inl ⟨_,aR.of (T _ _ m2),λt1 vK=>?_⟩;have r1:=av.new (.tup ((g.ms.getD i default).ns.map V.int)) vK;calc dR (r1 _ _ (T _ _ m1)) (aA (j:=2) rfl) ?_;left;calc .inl ⟨_,aR.of (r1 _ _ (T _ _ m3)),λt2 ou=>?_⟩;have r2:=av.new (.tup ((g.ms.getD i default).row.map V.int)) ou;calc⟨dq,λt3 T=>?_⟩;have r3:=av.new (.tup [.ref t1,.ref t2]) T;have sP:=r1.trans (r2.trans r3);have hv:HT (upd (upd (upd H4 t1 (.tup ((g.ms.getD i default).ns.map V.int))) t2 (.tup ((g.ms.getD i default).row.map V.int))) t3 (.tup [.ref t1,.ref t2])) 2 (.ref t3) (yE (g.ms.getD i default).ns (g.ms.getD i default).row):=c9 af (nI (r3 _ _ (r2 _ _ af))) (nI (r3 _ _ af));generalize hGP:upd (upd (upd H4 t1 (.tup ((g.ms.getD i default).ns.map V.int))) t2 (.tup ((g.ms.getD i default).row.map V.int))) t3 (.tup [.ref t1,.ref t2])=HP at *;have DJ:=sP _ _ y;left;calc⟨by decide,λp hp=>?_⟩;have sN:=av.new (.lst [.ref t3]) hp;have QW:=sN _ _ DJ;have nD:p≠X:=Ne.symm (au DJ hp);refine cn QW hl a (P' (small (by lia))) ⟨as++[p],by simp,λb o e=>?_,?_⟩
   ·rw[ay (au e RT)];exact sN _ _ (sP _ _ (s3 _ _ e))
   ·refine hL.snoc s3 (by rw[y];simp) (sP.free hp) (o:=.lst [.ref t3]) ?_ ⟨_,rfl,hv.aK (λb xs e=>by rw[ay (λz=>by rw[z,DJ] at e;cases e)];calc sN _ _ e)⟩ (λb o nb e=>?_) (λj o ⟨v,e,h⟩=>⟨v,e,h.aK (λb xs e=>by rw[ay (λz=>by rw[z,y] at e;cases e)];calc sN _ _ (sP _ _ e))⟩)
    ·rw[ay nD];exact af
    ·rw[ay nb];exact sN _ _ (sP _ _ e)
  intro ys H4 y hl xK;nofun;obtain⟨A4,rfl,M7,Yb⟩:=xK;ac_rfl;have RV:=y;clear y hl;have VW:C4 X=none:=RT;left;have B5:=M7 _ _ QV;calc cF d _ rfl (oJ.k (k:=Sum.inr "states") B5 (small (by simp))) ?_;have yq:putK ([((Sum.inr "net":Key),V.ref N),((Sum.inr "put":Key),V.ref I),((Sum.inr "sender":Key),V.ref L),((Sum.inr "worker":Key),V.ref U)]:List (Key×V)) (Sum.inr "states":Key) (V.ref X)=[((Sum.inr "net":Key),V.ref N),((Sum.inr "put":Key),V.ref I),((Sum.inr "sender":Key),V.ref L),((Sum.inr "worker":Key),V.ref U),((Sum.inr "states":Key),V.ref X)]:=by kernel_rfl
  rw[yq];nofun;obtain⟨C5,T,Np,RU,ke4⟩:=fQ (d:=d) ([((Sum.inr "net":Key),V.ref N),((Sum.inr "put":Key),V.ref I),((Sum.inr "sender":Key),V.ref L),((Sum.inr "worker":Key),V.ref U),((Sum.inr "states":Key),V.ref X)]) M7;ac_rfl;rw[T];have S5:av H C5:=λb o e=>RU b o (au e qR) (S4 _ _ e);clear T;clear B5 yq;left;refine bT ?_;left;refine dR (S5 _ _ g1) (aA (j:=0) rfl) ?_;left;refine .inl ⟨⟨_,aR.of (S5 _ _ g2)⟩,λY xJ=>?_⟩;refine bx (J:=u7 K am) (n:=mv.length) (λi ys H'=>∃as:List Addr,ys=as.map V.ref/\av C5 H'/\qt C5 H' Y as i (λ_ H' o=>∃q,o=.lst [.ref q]/\H' q=some (.lst [])/\C5 q=none/\q≠Y)) (P' (small (by lia))) ⟨[],rfl,av.new _ xJ,qt.nil⟩ ?_ ?_ ?_ ?_
  ·rintro i ys H' a ⟨_,_,s3,_⟩;exact⟨_,mv[i],aR.of (s3 _ _ (S5 _ _ g2)),cE a⟩
  ·rintro ys H' ⟨_,_,s3,_⟩;exact⟨_,aR.of (s3 _ _ (S5 _ _ g2)),L' _⟩
  ·intro i ys H' a y hl K7 xx H4 Qa;nofun;obtain⟨as,rfl,s3,hL⟩:=K7;obtain⟨rfl,hy⟩:=Qa;ac_rfl;have ex:=hy _ (aR.of (s3 _ _ (S5 _ _ g2)));walk_at "xg";left
   try rw[if_pos trivial]
   calc⟨aav _,λqq hqq=>?_⟩;have sP:=av.new (.lst []) hqq;have eqq:upd H4 qq (.lst []) qq=some (.lst []):=af;have nqD:qq≠Y:=Ne.symm (au y hqq);generalize hGP:upd H4 qq (.lst [])=HP at *;have DJ:=sP _ _ y;left;calc⟨by decide,λp hp=>?_⟩;have sN:=av.new (.lst [.ref qq]) hp;have QW:=sN _ _ DJ;have nD:p≠Y:=Ne.symm (au DJ hp);refine cn QW hl a (P' (small (by lia))) ⟨as++[p],by simp,λb o e=>?_,?_⟩
   ·rw[ay (au e xJ)];exact sN _ _ (sP _ _ (s3 _ _ e))
   ·refine hL.snoc s3 (by rw[y];simp) (sP.free hp) (o:=.lst [.ref qq]) ?_ ⟨qq,rfl,by rw[ay nqD];calc sN _ _ eqq,s3.free hqq,nqD⟩ (λb o nb e=>?_) (λj o ⟨T,e,h,h',h2⟩=>⟨T,e,by rw[ay h2];calc sN _ _ (sP _ _ h),h',h2⟩)
    ·rw[ay nD];exact af
    ·rw[ay nb];exact sN _ _ (sP _ _ e)
  intro ys H5 y hl Qc;nofun;obtain⟨A5,rfl,M8,Yd⟩:=Qc;ac_rfl;have RZ:=y;clear y hl;have V0:C5 Y=none:=xJ;left;have B5:=M8 _ _ Np;calc cF d _ rfl (oJ.k (k:=Sum.inr "words") B5 (small (by simp))) ?_;have yq:putK ([((Sum.inr "net":Key),V.ref N),((Sum.inr "put":Key),V.ref I),((Sum.inr "sender":Key),V.ref L),((Sum.inr "worker":Key),V.ref U),((Sum.inr "states":Key),V.ref X)]:List (Key×V)) (Sum.inr "words":Key) (V.ref Y)=[((Sum.inr "net":Key),V.ref N),((Sum.inr "put":Key),V.ref I),((Sum.inr "sender":Key),V.ref L),((Sum.inr "worker":Key),V.ref U),((Sum.inr "states":Key),V.ref X),((Sum.inr "words":Key),V.ref Y)]:=by kernel_rfl
  rw[yq];nofun;obtain⟨C6,T,Nq,RY,ke5⟩:=fQ (d:=d) ([((Sum.inr "net":Key),V.ref N),((Sum.inr "put":Key),V.ref I),((Sum.inr "sender":Key),V.ref L),((Sum.inr "worker":Key),V.ref U),((Sum.inr "states":Key),V.ref X),((Sum.inr "words":Key),V.ref Y)]) M8;ac_rfl;rw[T];have S6:av H C6:=λb o e=>RY b o (au e qR) (S5 _ _ e);clear T;clear B5 yq;left;refine bT ?_;left;refine dR (S6 _ _ g1) (aA (j:=0) rfl) ?_;left;refine .inl ⟨⟨_,aR.of (S6 _ _ g2)⟩,λD6 T=>?_⟩;refine qW (o:=.lst []) (S6 _ _ g2) T (by lia) (λ_=>Ext.set (Ext.refl _) rfl) (λ_ _ _ r=>And.intro (by decide) r) ?_;intro A6 H6 y Qz Yf;have R3:=y;clear y;have V5:C6 D6=none:=T;left;have B5:=Qz _ _ Nq;refine cF d _ rfl (oJ.k (k:=Sum.inr "heard") B5 (small (by simp))) ?_;have yq:putK ([((Sum.inr "net":Key),V.ref N),((Sum.inr "put":Key),V.ref I),((Sum.inr "sender":Key),V.ref L),((Sum.inr "worker":Key),V.ref U),((Sum.inr "states":Key),V.ref X),((Sum.inr "words":Key),V.ref Y)]:List (Key×V)) (Sum.inr "heard":Key) (V.ref D6)=[((Sum.inr "net":Key),V.ref N),((Sum.inr "put":Key),V.ref I),((Sum.inr "sender":Key),V.ref L),((Sum.inr "worker":Key),V.ref U),((Sum.inr "states":Key),V.ref X),((Sum.inr "words":Key),V.ref Y),((Sum.inr "heard":Key),V.ref D6)]:=by kernel_rfl
  rw[yq];nofun;obtain⟨C7,y,Sa,QA,ke6⟩:=fQ (d:=d) ([((Sum.inr "net":Key),V.ref N),((Sum.inr "put":Key),V.ref I),((Sum.inr "sender":Key),V.ref L),((Sum.inr "worker":Key),V.ref U),((Sum.inr "states":Key),V.ref X),((Sum.inr "words":Key),V.ref Y),((Sum.inr "heard":Key),V.ref D6)]) Qz;ac_rfl;rw[y];have S7:av H C7:=λb o e=>QA b o (au e qR) (S6 _ _ e);clear y;clear B5 yq;left;refine⟨aav _,λpe Ei=>?_⟩;have sE7:=av.new (.lst []) Ei;have acG:upd C7 pe (.lst []) pe=some (.lst []):=af;have npe:pe≠d:=Ne.symm (au Sa Ei);generalize ajf:upd C7 pe (.lst [])=E7 at *;refine cF d _ rfl (oJ.k (k:=Sum.inr "events") (sE7 _ _ Sa) (small (by simp))) ?_;have yq:putK ([((Sum.inr "net":Key),V.ref N),((Sum.inr "put":Key),V.ref I),((Sum.inr "sender":Key),V.ref L),((Sum.inr "worker":Key),V.ref U),((Sum.inr "states":Key),V.ref X),((Sum.inr "words":Key),V.ref Y),((Sum.inr "heard":Key),V.ref D6)]:List (Key×V)) (Sum.inr "events":Key) (V.ref pe)=[((Sum.inr "net":Key),V.ref N),((Sum.inr "put":Key),V.ref I),((Sum.inr "sender":Key),V.ref L),((Sum.inr "worker":Key),V.ref U),((Sum.inr "states":Key),V.ref X),((Sum.inr "words":Key),V.ref Y),((Sum.inr "heard":Key),V.ref D6),((Sum.inr "events":Key),V.ref pe)]:=by kernel_rfl
  rw[yq];nofun;obtain⟨GF,y,edF,Yx,T⟩:=fQ (d:=d) ([((Sum.inr "net":Key),V.ref N),((Sum.inr "put":Key),V.ref I),((Sum.inr "sender":Key),V.ref L),((Sum.inr "worker":Key),V.ref U),((Sum.inr "states":Key),V.ref X),((Sum.inr "words":Key),V.ref Y),((Sum.inr "heard":Key),V.ref D6),((Sum.inr "events":Key),V.ref pe)]) sE7;ac_rfl;rw[y];have epe:=T _ _ npe acG;have SF:av H GF:=λb o e=>Yx b o (au e qR) (S7 _ _ e);clear y T;clear yq;have G:∀(A:Hp) (kv:List (Key×V)) (b:Addr) (vs:List V),A d=some (.dK kv)->A b=some (.lst vs)->b≠d:=λA kv b vs S e2 z=>by rw[z,S]at e2;cases e2
  have ndk:∀(A:Hp) (p:Key×V) (kv:List (Key×V)) (b:Addr),A d=some (.dK (p::kv))->A b=some (.dK [])->b≠d:=λA p kv b S e2 z=>by rw[z,S]at e2;cases e2
  have JB:∀(A:Hp) (kv:List (Key×V)) (b:Addr) (vs:List V),A d=some (.dK kv)->A b=some (.tup vs)->b≠d:=λA kv b vs S e2 z=>by rw[z,S]at e2;cases e2
  have kc7:=Yx;have Yy:∀b o,b≠d->C6 b=some o->GF b=some o:=λb o n e=>kc7 b o n (QA b o n e);have Lm:∀b o,b≠d->C5 b=some o->GF b=some o:=λb o n e=>Yy b o n (RY b o n e);have M9:∀b o,b≠d->C4 b=some o->GF b=some o:=λb o n e=>Lm b o n (RU b o n e);have Na:∀b o,b≠d->C3 b=some o->GF b=some o:=λb o n e=>M9 b o n (RN b o n e);have QB:∀b o,b≠d->C2 b=some o->GF b=some o:=λb o n e=>Na b o n (RJ b o n e);have WG:qt C1 C2 I A1 wv.length (λ_ _ o=>o=.lst []):=X4;have Im:=VJ;have Aq:=WG.keep (λj b o e c=>by subst c;calc⟨QB b _ (G _ _ _ _ R8 e) e,rfl⟩);have WH:=QB _ _ (G _ _ _ _ R8 Im) Im;have WI:qt C2 C3 L A2 wv.length (λ_ _ o=>o=.lst []):=X7.keep (λj b o e c=>by subst c;calc⟨ke2 b _ (G _ _ _ _ (Qx _ _ R8) e) e,rfl⟩);have Io:=ke2 _ _ (G _ _ _ _ (Qx _ _ R8) RK) RK;have Ar:=WI.keep (λj b o e c=>by subst c;calc⟨Na b _ (G _ _ _ _ R9 e) e,rfl⟩);have WJ:=Na _ _ (G _ _ _ _ R9 Io) Io;have WK:qt C3 C4 U A3 wv.length (λ_ _ o=>o=.dK []):=X9.keep (λj b o e c=>by subst c;calc⟨ke3 b _ (ndk _ _ _ _ (Qy _ _ R9) e) e,rfl⟩);have Ip:=ke3 _ _ (G _ _ _ _ (Qy _ _ R9) RO) RO;have As:=WK.keep (λj b o e c=>by subst c;calc⟨M9 b _ (ndk _ _ _ _ QV e) e,rfl⟩);have WL:=M9 _ _ (G _ _ _ _ QV Ip) Ip;have WM:qt C4 C5 X A4 mv.length (λj H' o=>∃v,o=.lst [v]/\HT H' 2 v (yE (g.ms.getD j default).ns (g.ms.getD j default).row)):=Yb.keep (λj b o e c=>by
   nofun;obtain⟨v,rfl,hv⟩:=c;ac_rfl;calc⟨ke4 b _ (G _ _ _ _ (M7 _ _ QV) e) e,v,rfl,hv.aK (λb' xs e'=>ke4 b' _ (JB _ _ _ _ (M7 _ _ QV) e') e')⟩)
  have Iq:=ke4 _ _ (G _ _ _ _ (M7 _ _ QV) RV) RV;have Au:=WM.keep (λj b o e c=>by
   nofun;obtain⟨v,rfl,hv⟩:=c;ac_rfl;calc⟨Lm b _ (G _ _ _ _ Np e) e,v,rfl,hv.aK (λb' xs e'=>Lm b' _ (JB _ _ _ _ Np e') e')⟩)
  have WN:=Lm _ _ (G _ _ _ _ Np Iq) Iq;have pD:qt C5 C6 Y A5 mv.length (λ_ H' o=>∃q,o=.lst [.ref q]/\H' q=some (.lst [])/\C5 q=none/\q≠Y):=Yd.keep (λj b o e c=>by
   nofun;obtain⟨v,rfl,hv,QQ,Yz⟩:=c;ac_rfl;calc⟨ke5 b _ (G _ _ _ _ (M8 _ _ Np) e) e,v,rfl,ke5 v _ (G _ _ _ _ (M8 _ _ Np) hv) hv,QQ,Yz⟩)
  have uN:=ke5 _ _ (G _ _ _ _ (M8 _ _ Np) RZ) RZ;have yr:=pD.keep (λj b o e c=>by
   nofun;obtain⟨v,rfl,hv,QQ,Yz⟩:=c;ac_rfl;calc⟨Yy b _ (G _ _ _ _ Nq e) e,v,rfl,Yy v _ (G _ _ _ _ Nq hv) hv,QQ,Yz⟩)
  have WO:=Yy _ _ (G _ _ _ _ Nq uN) uN;have WQ:qt C6 C7 D6 A6 mv.length (λ_ _ o=>o=.lst []):=Yf.keep (λj b o e c=>by subst c;calc⟨ke6 b _ (G _ _ _ _ (Qz _ _ Nq) e) e,rfl⟩);have Ir:=ke6 _ _ (G _ _ _ _ (Qz _ _ Nq) R3) R3;have Av:=WQ.keep (λj b o e c=>by subst c;calc⟨kc7 b _ (G _ _ _ _ Sa e) e,rfl⟩);have WR:=kc7 _ _ (G _ _ _ _ Sa Ir) Ir;rw[f6]at Aq;rw[f6]at Ar;rw[f6]at As;rw[ml]at Au;rw[ml]at yr;rw[ml]at Av;have y:∃ad:Nat->Nat->Addr,(∀i,ad 0 i=pe)/\(∀i,ad 1 i=A4.getD i 0)/\(∀i,ad 2 i=A5.getD i 0)/\(∀i,ad 3 i=A6.getD i 0)/\(∀i,ad 4 i=A1.getD i 0)/\(∀i,ad 5 i=A2.getD i 0)/\(∀i,ad 6 i=A3.getD i 0):=
   ⟨λt i=>match t with
    |0=>pe
    |1=>A4.getD i 0
    |2=>A5.getD i 0
    |3=>A6.getD i 0
    |4=>A1.getD i 0
    |5=>A2.getD i 0
    | _=>A3.getD i 0,λ_=>rfl,λ_=>rfl,λ_=>rfl,λ_=>rfl,λ_=>rfl,λ_=>rfl,λ_=>rfl⟩
  nofun;obtain⟨ad,Ng,f7,gs,yi,yj,yk,yl⟩:=y;have T:∃M:Nat->Nat,M 0=6/\M 1=3/\M 2=4/\M 3=5/\M 4=0/\M 5=1/\M 6=2:=
   ⟨λt=>match t with
    |0=>6
    |1=>3
    |2=>4
    |3=>5
    |4=>0
    |5=>1
    | _=>2,rfl,rfl,rfl,rfl,rfl,rfl,rfl⟩
  obtain⟨M,YA,QX,WT,QY,WU,WV,WW⟩:=T;have y:∃O:Nat->Hp,O 0=C1/\O 1=C2/\O 2=C3/\O 3=C4/\O 4=C5/\O 5=C6/\O 6=C7/\∀t,O (t+7)=GF:=
   ⟨λt=>match t with
    |0=>C1
    |1=>C2
    |2=>C3
    |3=>C4
    |4=>C5
    |5=>C6
    |6=>C7
    | _=>GF,rfl,rfl,rfl,rfl,rfl,rfl,rfl,λ_=>rfl⟩
  obtain⟨O,q0,q1,q2,q3,q4,q5,q6,q7⟩:=y;have pz:∀(A B:Hp),(∀b o,b≠d->A b=some o->B b=some o)->(∃o,B d=some o)->∀b,A b≠none->B b≠none:=λA B h ⟨o,e⟩ b hb=>by
   by_cases z:b=d
   ·rw[z,e];simp
   ·cases S:A b with
    |none=>calc absurd S hb
    |some u=>rw[h b u z S];simp
  have m:∀{A:List Addr} {H0 H':Hp} {D:Addr} {n:Nat} {ct:Nat->Hp->HO->Prop},qt H0 H' D A n ct->∀i,i<n->A[i]?=some (A.getD i 0)/\H0 (A.getD i 0)=none/\∃o,H' (A.getD i 0)=some o/\ct i H' o:=λ{A H0 H' D n ct} h i a=>by
   have e:=bt (l:=A) (i:=i) (d:=0) (by rw[h.len];calc a);exact⟨e,(h.new _ (Y' e)).1,h.ins i _ e⟩
  have pE:∀{A:List Addr} {H0 H':Hp} {D:Addr} {n:Nat} {ct:Nat->Hp->HO->Prop},qt H0 H' D A n ct->∀i j,i<n->j<n->A.getD i 0=A.getD j 0->i=j:=λ{A H0 H' D n ct} h i j a R e=>by
   have S:=(m h i a).1;have e2:=(m h j R).1;rw[e]at S;exact(List.getElem?_inj (by rw[h.len];calc a) h.nd).mp (S.trans e2.symm)
  have mono:∀t b,O t b≠none->O (t+1) b≠none:=by
   intro t
   match t with
   |0=>rw[q0,q1];calc pz _ _ X5 ⟨_,R8⟩
   |1=>rw[q1,q2];calc pz _ _ RJ ⟨_,R9⟩
   |2=>rw[q2,q3];calc pz _ _ RN ⟨_,QV⟩
   |3=>rw[q3,q4];calc pz _ _ RU ⟨_,Np⟩
   |4=>rw[q4,q5];calc pz _ _ RY ⟨_,Nq⟩
   |5=>rw[q5,q6];calc pz _ _ QA ⟨_,Sa⟩
   |6=>rw[q6,q7 0];calc pz _ _ Yx ⟨_,edF⟩
   |(t+7)=>rw[q7,show t+7+1=(t+1)+7 by lia,q7];exact λb h=>h
  have up:∀(d t:Nat) (b:Addr),O t b≠none->O (t+d) b≠none:=by
   intro d;induction d with
   |zero=>calc λt b h=>h
   |succ d y=>exact λt b h=>mono _ _ (y t b h)
  have F0:∀t i,i<g.n t->O (M t) (ad t i)=none:=by
   intro t i a
   match t,a with
   |0,a=>rw[YA,q6,Ng];calc Ei
   |1,a=>rw[QX,q3,f7];calc(m Au i a).2.1
   |2,a=>rw[WT,q4,gs];calc(m yr i a).2.1
   |3,a=>rw[QY,q5,yi];calc(m Av i a).2.1
   |4,a=>rw[WU,q0,yj];calc(m Aq i a).2.1
   |5,a=>rw[WV,q1,yk];calc(m Ar i a).2.1
   |6,a=>rw[WW,q2,yl];calc(m As i a).2.1
   |(t+7),a=>exact absurd a (aao i)
  have F1:∀t i,i<g.n t->O (M t+1) (ad t i)≠none:=by
   intro t i a
   match t,a with
   |0,a=>rw[YA,q7 0,Ng,epe];simp
   |1,a=>
    rw[QX,q4,f7];nofun;obtain⟨_,_,o,e,_⟩:=m WM i (by rw[ml];calc a);ac_rfl;rw[e];simp
   |2,a=>
    rw[WT,q5,gs];nofun;obtain⟨_,_,o,e,_⟩:=m pD i (by rw[ml];calc a);ac_rfl;rw[e];simp
   |3,a=>
    rw[QY,q6,yi];nofun;obtain⟨_,_,o,e,_⟩:=m WQ i (by rw[ml];calc a);ac_rfl;rw[e];simp
   |4,a=>
    rw[WU,q1,yj];nofun;obtain⟨_,_,o,e,_⟩:=m WG i (by rw[f6];calc a);ac_rfl;rw[e];simp
   |5,a=>
    rw[WV,q2,yk];nofun;obtain⟨_,_,o,e,_⟩:=m WI i (by rw[f6];calc a);ac_rfl;rw[e];simp
   |6,a=>
    rw[WW,q3,yl];nofun;obtain⟨_,_,o,e,_⟩:=m WK i (by rw[f6];calc a);ac_rfl;rw[e];simp
   |(t+7),a=>exact absurd a (aao i)
  have y:∀t i,i<g.n t->M t<=6:=by
   intro t i a
   match t,a with
   |0,_=>rw[YA];decide
   |1,_=>rw[QX];decide
   |2,_=>rw[WT];decide
   |3,_=>rw[QY];decide
   |4,_=>rw[WU];decide
   |5,_=>rw[WV];decide
   |6,_=>rw[WW];decide
   |(t+7),a=>exact absurd a (aao i)
  have W:∀b,FP g.n ad b->H b=none:=by
   intro b zq9;nofun;obtain⟨t,i,a,rfl⟩:=zq9;ac_rfl
   cases y:H (ad t i) with
   |none=>rfl
   |some o=>
    exfalso;have T:O 0 (ad t i)≠none:=by rw[q0,QU _ _ y];simp
    have:=up (M t) 0 _ T;rw[Nat.zero_add]at this;exact this (F0 t i a)
  have Ln:∀(s:Nat) (D:Addr),O s D=none->O (s+1) D≠none->(∀t i,i<g.n t->M t=s->ad t i≠D)->¬FP g.n ad D:=by
   intro s D h0 h1 qg acJ;nofun;obtain⟨x,i,a,rfl⟩:=acJ;ac_rfl;rcases Nat.lt_trichotomy s (M x) with l|l|l
   ·obtain⟨y,T⟩:∃y,M x=s + 1 + y:=⟨M x - (s + 1),by lia⟩
    have:=up y _ _ h1;rw[<-T]at this;exact this (F0 _ i a)
   ·exact qg x i a l.symm rfl
   ·obtain⟨y,T⟩:∃y,s=M x + 1 + y:=⟨s - (M x + 1),by lia⟩
    have:=up y _ _ (F1 _ i a);rw[<-T]at this;exact this h0
  have fps:∀t i,i<g.n t->∃o,GF (ad t i)=some o/\soft o:=by
   intro t i a
   match t,a with
   |0,a=>calc⟨.lst _,by rw[Ng];calc epe,trivial⟩
   |1,a=>
    nofun;obtain⟨_,_,o,e,v,rfl,_⟩:=m Au i a;ac_rfl;calc⟨.lst _,by rw[f7];calc e,trivial⟩
   |2,a=>
    nofun;obtain⟨_,_,o,e,v,rfl,_⟩:=m yr i a;ac_rfl;calc⟨.lst _,by rw[gs];calc e,trivial⟩
   |3,a=>
    nofun;obtain⟨_,_,o,e,rfl⟩:=m Av i a;ac_rfl;calc⟨.lst _,by rw[yi];calc e,trivial⟩
   |4,a=>
    nofun;obtain⟨_,_,o,e,rfl⟩:=m Aq i a;ac_rfl;calc⟨.lst _,by rw[yj];calc e,trivial⟩
   |5,a=>
    nofun;obtain⟨_,_,o,e,rfl⟩:=m Ar i a;ac_rfl;calc⟨.lst _,by rw[yk];calc e,trivial⟩
   |6,a=>
    nofun;obtain⟨_,_,o,e,rfl⟩:=m As i a;ac_rfl;calc⟨.dK _,by rw[yl];calc e,trivial⟩
   |(t+7),a=>exact absurd a (aao i)
  have hz:∀b,(F b\/FP g.n ad b)->∃o,GF b=some o/\soft o:=by
   rintro b (h|⟨t,i,a,rfl⟩)
   ·obtain⟨o,e,l⟩:=lD b h;exact⟨o,SF _ _ e,l⟩
   ·exact fps t i a
  have nF:∀b,H b=none->¬F b:=λb e z=>by
   obtain⟨o,S,_⟩:=lD b z;rw[e]at S;cases S
  have l:∃gi:Nat->Nat,gi 6=0/\gi 3=1/\gi 4=2/\gi 5=3/\gi 0=4/\gi 1=5/\gi 2=6:=
   ⟨λs=>match s with
    |0=>4
    |1=>5
    |2=>6
    |3=>1
    |4=>2
    |5=>3
    | _=>0,rfl,rfl,rfl,rfl,rfl,rfl,rfl⟩
  obtain⟨gi,y,gi1,gi2,gi3,gi4,gi5,gi6⟩:=l;have LH:∀t i,i<g.n t->gi (M t)=t:=by
   intro t i a
   match t,a with
   |0,_=>rw[YA,y]
   |1,_=>rw[QX,gi1]
   |2,_=>rw[WT,gi2]
   |3,_=>rw[QY,gi3]
   |4,_=>rw[WU,gi4]
   |5,_=>rw[WV,gi5]
   |6,_=>rw[WW,gi6]
   |(t+7),a=>exact absurd a (aao i)
  have nq:∀i q,i<g.ms.length->GF (A5.getD i 0)=some (.lst [.ref q])->GF q=some (.lst [])->C5 q=none->C6 q=some (.lst [])->¬(F q\/FP g.n ad q):=by
   rintro i q a S e2 e3 e4 (z|z)
   ·exact nF q (S5.free e3) z
   ·calc Ln 4 q (by rw[q4];calc e3) (by rw[q5,e4];simp) (λt j R es z'=>?_) z;have h2:t=2:=by rw[<-LH t j R,es,gi2]
    subst h2;obtain⟨_,_,o,e5,v,rfl,_⟩:=m yr j R;rw[<-gs,z',e2]at e5
    cases e5
  have cD:dO F GF g.n ad (RS.new g).tv:=by
   refine DI O M mono F0 F1 (λt x i l h h' e=>?_) ?_ (λb h=>?_) ?_
   ·exact(LH t i h).symm.trans ((congrArg gi e).trans (LH x l h'))
   ·intro t i j a R e
    match t,a,R with
    |0,a,R=>
     have h1:i<1:=a;have h2:j<1:=R;lia
    |1,a,R=>rw[f7,f7]at e;calc pE Au i j a R e
    |2,a,R=>rw[gs,gs]at e;calc pE yr i j a R e
    |3,a,R=>rw[yi,yi]at e;calc pE Av i j a R e
    |4,a,R=>rw[yj,yj]at e;calc pE Aq i j a R e
    |5,a,R=>rw[yk,yk]at e;calc pE Ar i j a R e
    |6,a,R=>rw[yl,yl]at e;calc pE As i j a R e
    |(t+7),a,_=>exact absurd a (aao i)
   ·obtain⟨o,e,_⟩:=lD b h;rw[q0,QU _ _ e];simp
   ·intro t i a
    match t,a with
    |0,a=>calc⟨.lst [],by rw[Ng];calc epe,(dP.nil:dP _ 4 [] [])⟩
    |1,a=>
     nofun;obtain⟨_,_,o,e,v,rfl,hv⟩:=m Au i a;ac_rfl;calc⟨.lst [v],by rw[f7];calc e,(dP.one ((HG hz hv).mono (by decide)):dP _ 4 [v] [_])⟩
    |2,a=>
     nofun;obtain⟨_,_,o,e,v,rfl,hv,QQ,Yz⟩:=m yr i a;obtain⟨_,_,o',e',v',rfl,Y7,_⟩:=m pD i (by rw[ml];calc a);have l:=QA _ _ (G _ _ _ _ Nq e') e';have w7:=Yx _ _ (G _ _ _ _ Sa l) l;rw[e]at w7
     cases w7;ac_rfl;calc⟨.lst [.ref v],by rw[gs];calc e,(dP.one (.lst (by rw[gM (nq i v a e hv QQ Y7)];calc hv) rfl (λi u e hu=>by simp at hu)):dP _ 4 [.ref v] [.lst []])⟩
    |3,a=>
     nofun;obtain⟨_,_,o,e,rfl⟩:=m Av i a;ac_rfl;calc⟨.lst [],by rw[yi];calc e,(dP.nil:dP _ 4 [] [])⟩
    |4,a=>
     nofun;obtain⟨_,_,o,e,rfl⟩:=m Aq i a;ac_rfl;calc⟨.lst [],by rw[yj];calc e,(dP.nil:dP _ 4 [] [])⟩
    |5,a=>
     nofun;obtain⟨_,_,o,e,rfl⟩:=m Ar i a;ac_rfl;calc⟨.lst [],by rw[yk];calc e,(dP.nil:dP _ 4 [] [])⟩
    |6,a=>
     nofun;obtain⟨_,_,o,e,rfl⟩:=m As i a;ac_rfl;exact⟨.dK [],by rw[yl];exact e,⟨aav _,λk=>by
      have S:jR ((RS.new g).ww i).dy k=none:=by
       show jR [] k=none;unfold jR;split<;>rfl
      rw[S];calc E9⟩⟩
    |(t+7),a=>exact absurd a (aao i)
  have k:∃o:Nat->Addr,o 1=X/\o 2=Y/\o 3=D6/\o 4=I/\o 5=L/\o 6=U:=
   ⟨λt=>match t with
    |1=>X
    |2=>Y
    |3=>D6
    |4=>I
    |5=>L
    | _=>U,rfl,rfl,rfl,rfl,rfl,rfl⟩
  obtain⟨o,o1,o2,o3,o4,o5,o6⟩:=k;ac_rfl;have rf:∀{A:List Addr} {n:Nat} {H0 H':Hp} {D:Addr} {ct:Nat->Hp->HO->Prop} (t:Nat),qt H0 H' D A n ct->g.n t=n->(∀i,ad t i=A.getD i 0)->A.map V.ref=iu g.n ad t:=λ{A n H0 H' D ct} t h S e2=>by
   unfold iu;rw[S];apply aa2 (by simp[h.len]);intro j h1 h2;have R:j<A.length:=by simpa using h1
   simp only[List.getElem_map,List.getElem_range,e2];congr 1;exact(getD_at (cE R)).symm
  have Sb:∀{A:List Addr} {n:Nat} {H0:Hp} {D:Addr} {ct:Nat->Hp->HO->Prop} (t s:Nat),qt H0 GF D A n ct->g.n t=n->(∀i,ad t i=A.getD i 0)->M t=s->(∀x i,i<g.n x->M x=s->x=t)->O s D=none->O (s+1) D≠none->¬FP g.n ad D:=λ{A n H0 D ct} t s h S e2 e3 e4 h0 h1=>by
   calc Ln s D h0 h1 (λx i a es z=>?_);have:=e4 x i a es;subst this;rw[S]at a;rw[e2]at z;exact(h.new _ (Y' (m h i a).1)).2 z
  have hT:cq F GF d (.ref N) g (RS.new g) ad:=by
   refine⟨⟨o,?_,nF d qR,?_,?_⟩,cD,⟨ls,hN.cv ?_⟩,aW⟩
   ·rw[edF,Jx,Ng,o1,o2,o3,o4,o5,o6]
   ·rintro⟨t,i,a,z⟩;have:=F0 t i a;rw[<-z] at this;have h0:O 0 d≠none:=by rw[q0,ed0];simp
    have h1:=up (M t) 0 d h0;rw[Nat.zero_add]at h1;exact h1 this
   ·intro t vK k
    match t,vK,k with
    |1,_,_=>calc⟨by rw[o1,WN,rf 1 Au rfl f7],by rw[o1];calc nF _ (S4.free VW),by rw[o1];calc Sb 1 3 Au rfl f7 QX (λx i a es=>by rw[<-LH x i a,es,gi1]) (by rw[q3];calc VW) (by rw[q4,Iq];simp)⟩
    |2,_,_=>calc⟨by rw[o2,WO,rf 2 yr rfl gs],by rw[o2];calc nF _ (S5.free V0),by rw[o2];calc Sb 2 4 yr rfl gs WT (λx i a es=>by rw[<-LH x i a,es,gi2]) (by rw[q4];calc V0) (by rw[q5,uN];simp)⟩
    |3,_,_=>calc⟨by rw[o3,WR,rf 3 Av rfl yi],by rw[o3];calc nF _ (S6.free V5),by rw[o3];calc Sb 3 5 Av rfl yi QY (λx i a es=>by rw[<-LH x i a,es,gi3]) (by rw[q5];calc V5) (by rw[q6,Ir];simp)⟩
    |4,_,_=>calc⟨by rw[o4,WH,rf 4 Aq rfl yj],by rw[o4];calc nF _ (QU.free VM),by rw[o4];calc Sb 4 0 Aq rfl yj WU (λx i a es=>by rw[<-LH x i a,es,gi4]) (by rw[q0];calc VM) (by rw[q1,Im];simp)⟩
    |5,_,_=>calc⟨by rw[o5,WJ,rf 5 Ar rfl yk],by rw[o5];calc nF _ (S2.free PZ),by rw[o5];calc Sb 5 1 Ar rfl yk WV (λx i a es=>by rw[<-LH x i a,es,gi5]) (by rw[q1];calc PZ) (by rw[q2,Io];simp)⟩
    |6,_,_=>calc⟨by rw[o6,WL,rf 6 As rfl yl],by rw[o6];calc nF _ (S3.free P0),by rw[o6];calc Sb 6 2 As rfl yl WW (λx i a es=>by rw[<-LH x i a,es,gi6]) (by rw[q2];calc P0) (by rw[q3,Ip];simp)⟩
    |(t+7),_,h=>exact absurd h (by lia)
   ·intro b o' e n;obtain⟨k,z2⟩:=dG e n;rw[gM]
    ·exact SF _ _ z2
    ·rintro(z | z)
     ·exact k z
     ·rw[W b z]at z2;cases z2
  have h7F:=h7.aK SF.aS;left;refine dR (SF _ _ g1) (aA (j:=2) rfl) (.inl ⟨⟨_,aR.of (SF _ _ g4)⟩,jv (K:=K) (xs:=lv) (λi σ H'=>(∃z2 z3,σ=[some (V.ref N),some (V.ref d),z2,z3])/\Fr (FP g.n ad) GF H'/\cq F H' d (.ref N) g ((RS.new g).kq (ls.take i)) ad) ?_ ?_ ?_ ?_⟩)
  ·exact⟨⟨_,_,rfl⟩,Fr.refl,hT⟩
  ·rintro i σ H' a ⟨_,fi,_⟩;exact aR.of (fi.at (SF _ _ g4) (λz=>by rw[W _ z]at g4;cases g4))
  ·intro i z σ H' hzz acL;nofun;obtain⟨⟨z2,z3,rfl⟩,fi,B3⟩:=acL;have a:i < ls.length:=by rw[<-xU];exact(List.getElem?_eq_some_iff.mp hzz).1
   have j:ls[i]?=some ls[i]:=cE a;have Qv:=(h7F.2 i z (ql ls[i]) hzz (by rw[List.getElem?_map,j];rfl)).aK fi.aS;have HM:=uk _ (aai a);have Lk:(RS.new g).kq (ls.take (i+1))=((RS.new g).kq (ls.take i)).put ls[i].1.toNat ls[i].2 none:=by
    rw[List.take_succ,j];exact pC _
   have Ag:=(qV (ls.take i) (Ai aW)).mono (show _<=19998 by simp;lia);generalize ls[i]=p at *;obtain⟨Z,px⟩:=p;obtain⟨tz,u1,u2,kz,rfl,DT,y1,y2⟩:=cy Qv;obtain rfl:=y1.bN;obtain rfl:=y2.bN;have j:=HM.1;have a:=HM.2;simp only at j a;have ej:((Z.toNat:Nat):Int)=Z:=aaZ j;have qU:Z.toNat<g.ws.length:=by lia
   generalize hri:(RS.new g).kq (ls.take i)=ri at *;ac_rfl;calc yG (bM.of DT) ?_;nofun;obtain⟨k,WC,a,nPi,j⟩:=B3.dk;have a:=j 4 (by decide) (by decide);have WE:=j 5 (by decide) (by decide);have k:=B3.cD;obtain⟨w4,x4,j⟩:=k.lst (t:=4) (i:=Z.toNat) qU rfl;ac_rfl;have l:w4.length=(ri.ww Z.toNat).say.length:=by simpa using j.1
   have j:=Ag.bs _ qU;have j:=Ag.ls _ qU;left;calc bE _ (tK WC) ?_;left;have j:hJ (iu g.n ad 4) Z=some (.ref (ad 4 Z.toNat)):=by have:=aY (n:=g.n) (ad:=ad) (t:=4) qU;rw[ej]at this;exact this
   have rb:hJ (iu g.n ad 5) Z=some (.ref (ad 5 Z.toNat)):=by have:=aY (n:=g.n) (ad:=ad) (t:=5) qU;rw[ej]at this;exact this
   calc bC a.1 j ?_;calc⟨.inl ⟨rfl,_,aR.of x4⟩,?_⟩;left;calc hX w4 x4 (small (by lia)) ?_;have bj:=k.app (t:=4) (i:=Z.toNat) qU rfl x4 (dP.one (.int px));have fj:Fr (FP g.n ad) H' (upd H' (ad 4 Z.toNat) (.lst (w4++[.int px]))):=Fr.refl.upd ⟨4,Z.toNat,qU,rfl⟩ x4 trivial;generalize hGj:upd H' (ad 4 Z.toNat) (.lst (w4++[.int px]))=Hj at *;obtain⟨j,a,k⟩:=bj.lst (t:=5) (i:=Z.toNat) qU rfl;have l:j.length=(ri.ww Z.toNat).snd.length:=by simpa using k.1
   left;calc bE _ (HN (fj.at WC nPi)) ?_;left;calc bC (fj.at WE.1 WE.2.2) rb ?_;calc⟨.inl ⟨rfl,_,aR.of a⟩,?_⟩;left;calc hX j a (small (by lia)) ?_;have k:=bj.app (t:=5) (i:=Z.toNat) qU rfl a (dP.one (show HD _ 4 .bD (nh none) from .bD));have i:Fr (FP g.n ad) H' (upd Hj (ad 5 Z.toNat) (.lst (j++[.bD]))):=fj.upd ⟨5,Z.toNat,qU,rfl⟩ a trivial;left;calc gN ⟨_,_,rfl,rfl⟩ (fi.trans i) ?_;rw[Lk];exact B3.own i (k.congr Ii)
  ·intro σ H' acN;nofun;obtain⟨⟨z2,z3,rfl⟩,fi,B3⟩:=acN;ac_rfl;left;rw[xU,List.take_length]at B3;calc q d ad H' (λb o e=>?_) W qR B3;calc fi.at (SF _ _ e) (λz=>by rw[W b z]at e;cases e)
abbrev jf:Stmt:=(cf (top 14)).getD 17 (.Pass ⟨0,0,0,0⟩)
def sF(C CN CR:Addr)(c:Nat->Addr):Sp:=λvs H Q E=>∃(F:Addr->Prop) (x d:Addr) (nt:NT) (r:RS) (ad:Nat->Nat->Addr) (m k:Int),vs=[.ref x,.int m,.int k]/\cO C CN CR F H x d nt r ad/\r.Ok nt/\(∀w i:Nat,m=w->k=i->w<nt.ws.length->i<(r.ww w).say.length->∀v,HT H 1 v (nh ((r.ww w).snd.getD i none))->Q v H)/\(¬Vp nt r m k->∀a b H',av H H'->H' a=some (XO a (c 4) (some b) false)->H' b=some (XD b [("at",.int 0)])->E (.ref a) none H')
theorem tL(D:gL K CR "sent_by" "Run.sent_by" jf ["self","way","number"])(T:Tx K mg C CN CR F FD)(s:DX K mg B c)(M:ft P w K mg base CR "need_letter" 4 ["self","way","number","at"] (yf C CN CR c)):ft P w K mg base CR "sent_by" 5 ["self","way","number"] (sF C CN CR c):=by
 have l:aE ["self","way","number"] ["self","way","number"] (az jf):=by walk_at "s"
 refine D.Pf l (λN H Q E h=>?_) (λf U A l s H N Q E u h=>?_)
 ·obtain⟨F,x,v,y,r,ad,m,k,rfl,g,z,q,G⟩:=h;rfl
 ·nofun;obtain⟨F,x,v,y,r,ad,m,k,rfl,g,z,q,G⟩:=h;ac_rfl;have l:=u.units;refine⟨_,(aj (cj (jS M qJ T.aZ u (aq 0) (ag (aq 1) (ag (aq 2) (ag ai aa)))))
   (ao (aI (ak l (ak l (bP (aq 0) rfl) (aq 1)) (aq 2))))),?_⟩
  obtain⟨I,o,J,O⟩:=g.ins;left;calc eV J (fz (by decide +kernel)) ?_;calc⟨_,x,v,y,r,ad,m,k,_,rfl,g,λb i n p j L=>?_,λR a I H' S n p=>G R a I H' S n p⟩;subst n p;left;have l:=(O 5 (by decide) (by decide)).1;nofun;obtain⟨v,e,d⟩:=g.cD.lst (t:=5) (i:=b) j rfl;have g:i<(r.ww b).snd.length:=by rw[<-z.ls b j];exact L
  obtain⟨u,h,k⟩:=d.get (i:=i) (d:=nh ((r.ww b).snd.getD i none)) (by rw[List.getElem?_map,bt (d:=none) g];rfl);ac_rfl;calc fR J T.aZ T.eR Vn ?_;left;calc bC l (aY j) ?_;calc bC e (aA h) ?_;calc q b i rfl rfl j L _ (BR (k.cv eA))
abbrev gS:Stmt:=(cf (top 14)).getD 18 (.Pass ⟨0,0,0,0⟩)
def v7(C CN CR:Addr)(c:Nat->Addr):Sp:=λvs H Q E=>∃(F:Addr->Prop) (x d:Addr) (nt:NT) (r:RS) (ad:Nat->Nat->Addr) (m k:Int),vs=[.ref x,.int m,.int k]/\cO C CN CR F H x d nt r ad/\r.Ok nt/\(∀w i:Nat,m=w->k=i->w<nt.ws.length->i<(r.ww w).say.length->∀v,HT H 1 v (nh ((r.ww w).dy.getD i none))->Q v H)/\(¬Vp nt r m k->∀a b H',av H H'->H' a=some (XO a (c 4) (some b) false)->H' b=some (XD b [("at",.int 0)])->E (.ref a) none H')
theorem qu(D:gL K CR "worked_by" "Run.worked_by" gS ["self","way","number"])(T:Tx K mg C CN CR F FD)(s:DX K mg B c)(M:ft P w K mg base CR "need_letter" 4 ["self","way","number","at"] (yf C CN CR c)):ft P w K mg base CR "worked_by" 5 ["self","way","number"] (v7 C CN CR c):=by
 have l:aE ["self","way","number"] ["self","way","number"] (az gS):=by walk_at "s"
 refine D.Pf l (λN H Q E h=>?_) (λf U A l s H N Q E u h=>?_)
 ·obtain⟨F,x,v,y,r,ad,m,k,rfl,g,z,q,G⟩:=h;rfl
 ·nofun;obtain⟨F,x,v,y,r,ad,m,k,rfl,g,z,q,G⟩:=h;ac_rfl;have l:=u.units;refine⟨_,(aj (cj (jS M qJ T.aZ u (aq 0) (ag (aq 1) (ag (aq 2) (ag ai aa)))))
   (ao (aI (ak l (ak l (bP (aq 0) rfl) (aq 1)) (aq 2))))),?_⟩
  obtain⟨I,o,J,O⟩:=g.ins;left;calc eV J (fz (by decide +kernel)) ?_;calc⟨_,x,v,y,r,ad,m,k,_,rfl,g,λb i n p j L=>?_,λR a I H' S n p=>G R a I H' S n p⟩;subst n p;left;have l:=(O 6 (by decide) (by decide)).1;nofun;obtain⟨v,e,d⟩:=g.cD.lst (t:=6) (i:=b) j rfl;have g:i<(r.ww b).dy.length:=by rw[<-z.lk b j];exact L
  obtain⟨u,h,k⟩:=d.get (i:=i) (d:=nh ((r.ww b).dy.getD i none)) (by rw[List.getElem?_map,bt (d:=none) g];rfl);ac_rfl;calc fR J T.aZ T.cV Hy ?_;left;calc bC l (aY j) ?_;calc bC e (aA h) ?_;calc q b i rfl rfl j L _ (BR (k.cv eA))
theorem Iu{K:W.Frag}{H:Hp}{n:Nat}{x:V}{d:DV}(h:HD H n x d):∀{m:Nat}{y:V}{k:Nat},HD H m y d->sM d->n<k->kn K H k x y:=by
 induction h with
 |bD=>intro m y k h _ q;cases h;obtain⟨j,rfl⟩:∃j,k=j+1:=⟨k-1,by lia⟩;calc .inl ⟨rfl,rfl⟩
 |bl b=>intro m y k h c q;cases c
 |int i=>intro m y k h _ q;cases h;obtain⟨j,rfl⟩:∃j,k=j+1:=⟨k-1,by lia⟩;calc .inl ⟨rfl,rfl⟩
 |str i=>intro m y k h _ q;cases h;obtain⟨j,rfl⟩:∃j,k=j+1:=⟨k-1,by lia⟩;calc .inl ⟨rfl,rfl⟩
 | @tup n a t g e l i w=>
  intro m y k h c q;obtain⟨j,rfl⟩:∃j,k=j+1:=⟨k-1,by lia⟩
  cases c with
  |tup c=>
  cases h with
  | @tup m b ys _ z B C=>
   calc .inr ⟨a,b,t,ys,rfl,rfl,.inl ⟨bM.of e,bM.of z⟩,l.trans B.symm,λp u v r F=>?_⟩;have o:p<g.length:=by rw[<-l];exact(List.getElem?_eq_some_iff.mp r).1
   calc w p u g[p] r (cE o) (C p v g[p] F (cE o)) (c _ (aai o)) (by lia)
 | @lst n a t g e l i w=>
  intro m y k h c q;obtain⟨j,rfl⟩:∃j,k=j+1:=⟨k-1,by lia⟩
  cases c with
  |lst c=>
  cases h with
  | @lst m b ys _ z B C=>
   calc .inr ⟨a,b,t,ys,rfl,rfl,.inr ⟨aR.of e,aR.of z⟩,l.trans B.symm,λp u v r F=>?_⟩;have o:p<g.length:=by rw[<-l];exact(List.getElem?_eq_some_iff.mp r).1
   calc w p u g[p] r (cE o) (C p v g[p] F (cE o)) (c _ (aai o)) (by lia)
 |dict e=>intro m y k h c q;cases c
theorem Iw(p:Int×Int):sM (pairD p):=.tup λe a=>by
 simp at a;rcases a with rfl|rfl<;>calc .int _
theorem DK{α:Type}{l:List α}{f:α->Int×Int}:sM (.lst (l.map λx=>pairD (f x))):=.lst λe a=>by
 obtain⟨z,_,rfl⟩:=List.mem_map.mp a;calc Iw _
abbrev lE:Stmt:=top 61
def og:Sp:=λvs H Q _=>∃(i:Int),vs=[.int i]/\Q (.bl true) H
theorem sG:aE ["_law_found"] ["_law_found"] (az lE):=by walk_at "s"
theorem DM(D:cZ K mg "_law_int" "_law_int" lE ["_law_found"])(T:Tx K mg C CN CR F FD):Def P w K mg base "_law_int" 1 ["_law_found"] og:=by
 have sc:=sG;symm
 ·obtain⟨i,rfl,q⟩:=h;rfl
 ·nofun;obtain⟨i,rfl,q⟩:=h;ac_rfl;have a:=hr.units;walk_at "xf";right;refine cF _ true (.int _) rfl ?_;rw[if_pos rfl];exact⟨_,false,.int _,rfl,q⟩
theorem Aw(D:cZ K mg "_law_int" "_law_int" lE ["_law_found"])(T:Tx K mg C CN CR F FD):Ku P w K mg base "_law_int" 1 ["_law_found"] og:=by
 have a:=sG;refine D.okN a (λb H Q E h=>?_) (λf d A a s H b Q E c h=>?_)
 ·obtain⟨i,rfl,q⟩:=h;rfl
 ·obtain⟨i,rfl,q⟩:=h;have a:=c.units;walk_at "xf";right;refine cF _ true (.int _) rfl ?_;rw[if_pos rfl];exact⟨_,false,.int _,rfl,q⟩
abbrev kR:Stmt:=top 62
def Ax:Sp:=λvs H Q _=>∃(x y:V) (e:Option (Int×Int)),vs=[x,y]/\HT H 1 x (nh e)/\HT H 1 y (nh e)/\∀H',av H H'->Q (.bl true) H'
theorem yt(D:cZ K mg "_law_event" "_law_event" kR ["_law_found","_law_due"])(T:Tx K mg C CN CR F FD)(l:Def P w K mg base "_law_int" 1 ["_law_found"] og):Def P w K mg base "_law_event" 2 ["_law_found","_law_due"] Ax:=by
 have sc:aE ["_law_found","_law_due"] ["_law_found","_law_due"] (az kR):=by walk_at "s"
 symm
 ·obtain⟨x,y,e,rfl,c,g,q⟩:=h;rfl
 ·nofun;obtain⟨x,y,e,rfl,c,g,q⟩:=h;ac_rfl;have i:=hr.units;refine⟨_,(aj (aT (aC vn (aq 1) iS (aH _)) (ao (aI (gB vn (aq 0) iS (aH _)))) aJ)
   (aj (aT (PW.pt (pw_or (bV (bz (bg dC rfl T.bq yK (ag (aq 0) (ag (dB (v:=.ty "tuple") rfl T.cB sR rfl) aa))))) (pw_or (aC (gD i) (bg aP rfl T.b4 U' (ag (aq 0) aa)) ai (aH _)) (pw_or (bV (bz (aM l hr (ag (ak i (aq 0) ai) aa)))) (pw_or1 (bV (bz (aM l hr (ag (ak i (aq 0) ai) aa))))))))) (ao (aI gH)) aJ)
   (ao (aI (gB (aV i) (aq 0) (aq 1) (aH _)))))),?_⟩
  cases e with
  |none=>
   have m:HT H 1 x .bD:=c;have n:HT H 1 y .bD:=g;nofun
   cases m
   cases n;ac_rfl;right;calc q _ (av.refl H)
  |some p=>
   nofun;obtain⟨a,z,B,G,rfl,k,o,r⟩:=cy c;obtain⟨b,I,J,L,rfl,i,t,u⟩:=cy g;obtain rfl:=o.bN;obtain rfl:=r.bN;obtain rfl:=t.bN;obtain rfl:=u.bN;ac_rfl;right;rw[if_neg (by decide)];calc cF _ true (.tup k) rfl ?_;rw[if_neg (by decide)];calc bE _ (.inr ⟨_,bM.of k,rfl⟩) ?_;rw[if_neg (by simp)];calc dR k (aA (j:=0) rfl) ?_;calc bE _ rfl ?_;calc lK ?_;rw[if_neg (by decide)];calc dR k (aA (j:=1) rfl) ?_;calc bE _ rfl ?_;calc lK ?_;rw[if_neg (by decide)];calc .inl ⟨Kw (d:=nh (some p)) c g (by decide),q _ (av.refl H)⟩
abbrev jh:Stmt:=top 63
def B6(C CN CR:Addr):Sp:=λvs H Q _=>∃(F:Addr->Prop) (x b:Addr) (nt:NT) (r:RS) (ad:Nat->Nat->Addr) (m k a:Int),vs=[.ref x,.int m,.int k,.int a]/\cO C CN CR F H x b nt r ad/\r.Ok nt/\0<=a/\a<3/\¬Vp nt r m k/\∀H',av H H'->Q (.bl true) H'
theorem tM(D:cZ K mg "_law_refused" "_law_refused" jh ["_law_run","_law_way","_law_number","_law_door"])(T:Tx K mg C CN CR F FD)(e:DX K mg B c)(N:ft P w K mg base CR "said" 5 ["self","way","number"] (vT C CN CR c))(O:ft P w K mg base CR "sent_by" 5 ["self","way","number"] (sF C CN CR c))(R:ft P w K mg base CR "worked_by" 5 ["self","way","number"] (v7 C CN CR c))(S:Ku P w K mg base "_law_int" 1 ["_law_found"] og):Def P w K mg base "_law_refused" 6 ["_law_run","_law_way","_law_number","_law_door"] (B6 C CN CR):=by
 have sc:aE ["_law_run","_law_way","_law_number","_law_door","_law_good","e"] ["_law_run","_law_way","_law_number","_law_door"] (az jh):=by walk_at "s"
 symm
 ·obtain⟨F,x,y,G,r,ad,m,k,u,rfl,t,J,U,L,I,q⟩:=h;rfl
 ·nofun;obtain⟨F,x,y,G,r,ad,m,k,u,rfl,t,J,U,L,I,q⟩:=h;ac_rfl;have L:=hr.units;refine⟨_,(aj (ba (i:=4) sc.nd rfl (by grind) gH)
   (aj (KQ (i:=5) rfl rfl sc.nd rfl rfl rfl e.l9 (CV e.xb) (GO (aC (aV L) (aq 3) ai (aH _)) (nL (rM (zH O T.aZ hr (aq 0) (ag (aq 1) (ag (aq 2) aa))))) (nL (GO (aC (aV L) (aq 3) ai (aH _)) (nL (rM (zH R T.aZ hr (aq 0) (ag (aq 1) (ag (aq 2) aa))))) (nL (rM (zH N T.aZ hr (aq 0) (ag (aq 1) (ag (aq 2) aa)))))))) (λa=>
   (ao (ba (i:=4) sc.nd rfl (by grind) (fE (bg (ux (K:=K) rfl) rfl T.bq yK (ag (aq 5) (ag (qF (v:=.ref (c 4)) rfl e.l7 rfl) aa))) (fE (En (bg (ux (K:=K) rfl) rfl T.bq yK (ag (aq 5) (ag (qF (v:=.ref (c 5)) rfl e.l8 rfl) aa)))) (fE (Ph S (hr.lX a) (ag (Gm (K:=K) rfl (aq 5)) aa)) (ic (gB (kr (K:=K) rfl L) (Gm (K:=K) rfl (aq 5)) ai (aH _))))))))))
   (ao (aI (aq 4))))),?_⟩
  obtain⟨b,o,M,L⟩:=t.ins;calc L2.cY λL l=>?_;right;calc L2.da l ?_;clear l;calc L2.cY λL n=>?_;calc KR λN L=>?_;have p:∀(a b:Addr) (H2:Hp),av H H2->H2 a=some (XO a (c 4) (some b) false)->H2 b=some (XD b [("at",.int 0)])->N (.ref a) none H2:=λa b H2 W g j=>by
   refine L a (c 4) (some b) H2 g (e.cl 4 (by lia)) ?_
   try dsimp only[List.set]
   right;calc⟨a,c 4,B,some b,.ref (c 4),decide (4=4),false,rfl,g,(λd z=>by cases z;calc⟨_,j⟩),e.cl 4 (by decide),.inl rfl,zB e (by decide) (by decide),?_⟩;calc bE _ rfl ?_;rw[if_pos (by decide)];calc⟨a,c 4,B,some b,.ref (c 5),decide (4=5),false,rfl,g,(λd z=>by cases z;calc⟨_,j⟩),e.cl 4 (by decide),.inl rfl,zB e (by decide) (by decide),?_⟩;calc bE _ rfl ?_;rw[if_pos (by decide)];calc⟨a,c 4,B,b,_,.int 0,false,rfl,g,j,e.cl 4 (by decide),e.cG,rfl,?_⟩;calc⟨0,rfl,true,rfl,?_⟩;rw[if_pos rfl];calc⟨a,c 4,B,b,_,.int 0,false,rfl,g,j,e.cl 4 (by decide),e.cG,rfl,?_⟩;right;calc L2.da n ?_;right;exact q _ W
  clear n;obtain rfl|rfl|rfl:u=0\/u=1\/u=2:=by lia
  ·right;rw[if_pos (by decide)];calc eV M (fz (by decide +kernel)) ?_;exact⟨F,x,y,G,r,ad,m,k,rfl,t,J,λw i e q l n=>absurd ⟨w,i,e,q,l,n⟩ I,λ_ a b H' u g j=>p a b H' u g j⟩
  ·right;rw[if_neg (by decide)];rw[if_pos (by decide)];calc eV M (fz (by decide +kernel)) ?_;exact⟨F,x,y,G,r,ad,m,k,rfl,t,J,λw i e q l n=>absurd ⟨w,i,e,q,l,n⟩ I,λ_ a b H' u g j=>p a b H' u g j⟩
  ·right;rw[if_neg (by decide)];rw[if_neg (by decide)];calc eV M (fz (by decide +kernel)) ?_;calc⟨F,x,y,G,r,ad,m,k,rfl,t,λw i e q l n=>absurd ⟨w,i,e,q,l,n⟩ I,λ_ a b H' u g j=>p a b H' u g j⟩
structure v8(C CN CR:Addr)(F1 F2:Addr->Prop)(H:Hp)(x bH d:Addr)(tn:V)(nt:NT)(r:RS)(f7 gs:Nat->Nat->Addr):Prop where
 run:cO C CN CR F1 H x bH nt r f7
 twin:cq F2 H d tn nt r gs
 ok:r.Ok nt
 L9:r.picks.length<=400
theorem v8.same{C CN CR:Addr}{a b:Addr->Prop}{x c d:Addr}{nt:NT}{e f:Nat->Nat->Addr}(h:v8 C CN CR a b H x c d tn nt r e f)(s:av H H'):v8 C CN CR a b H' x c d tn nt r e f:=⟨h.run.same s,h.twin.same s,h.ok,h.L9⟩
theorem QZ:EK 10 59:=⟨by decide,by decide,by decide +kernel⟩
theorem Nr:(0:Int)<10^Int.toNat 59:=by decide +kernel
abbrev gT:Stmt:=top 64
inductive Iy(C CN CR:Addr)(vs:List V)(H:Hp)(Q:VK):Prop
 |mk (F1 F2:Addr->Prop) (x bH d:Addr) (tn:V) (nt:NT) (r:RS) (f7 gs:Nat->Nat->Addr) (z:Int) (h0:vs=[.ref x,.ref d,.int z]) (h1:v8 C CN CR F1 F2 H x bH d tn nt r f7 gs) (h4:∀H',av H H'->Q (.bl true) H'):Iy C CN CR vs H Q
def B7(C CN CR:Addr):Sp:=λvs H Q _=>Iy C CN CR vs H Q
theorem qv(D:cZ K mg "_law_strangers" "_law_strangers" gT ["_law_run","_law_own","_law_cell"])(T:Tx K mg C CN CR F FD)(S:Def P w K mg base "_law_refused" 6 ["_law_run","_law_way","_law_number","_law_door"] (B6 C CN CR)):Def P w K mg base "_law_strangers" 7 ["_law_run","_law_own","_law_cell"] (B7 C CN CR):=by
 have sc:aE ["_law_run","_law_own","_law_cell","_law_many","_law_far","_law_way","_law_count"] ["_law_run","_law_own","_law_cell"] (az gT):=by walk_at "s"
 symm
 ·obtain⟨k,F2,x,y,d,tn,a,r,B,U,z,rfl,c,q⟩:=h;rfl
 ·nofun;obtain⟨k,F2,x,y,d,tn,a,r,B,U,z,rfl,c,q⟩:=h;ac_rfl;have k:=hr.units;refine⟨_,(aj (ba (i:=3) sc.nd rfl (by grind) (bg aP rfl T.b4 U' (ag (ak k (aq 1) aD) aa)))
   (aj (ba (i:=4) sc.nd rfl (by grind) (aU cK (aU eP (aq 2) ai) (aU nv ai ai)))
   (aj (aT (bV (bz (aM S hr (ag (aq 0) (ag (ak k (bR (ag (aU cR (aq 3) (aq 4)) (ag (aU e9 (ki ig ai) (aq 4)) (ag (aq 3) aa)))) (aU cK (aq 2) ai)) (ag (aU cK (aU eP (aq 2) ai) ai) (ag (aU cK (aU eP (aq 2) ai) ai) aa))))))) (ao (aI gH)) aJ)
   (aj (aT (aC (aV k) (aq 3) ai (aH _)) (ao (aI gH)) aJ)
   (aj (ba (i:=5) sc.nd rfl (by grind) (aU cK (aU eP (aq 2) ai) (aq 3)))
   (aj (ba (i:=6) sc.nd rfl (by grind) (bg aP rfl T.b4 U' (ag (ak k (ak k (aq 1) aD) (aq 5)) aa)))
   (ao (aI (aM S hr (ag (aq 0) (ag (aq 5) (ag (ak k (bR (ag (aU cR (aq 6) (aq 4)) (ag (aU e9 (ki ig ai) (aq 4)) (ag (aq 6) aa)))) (aU cK (aq 2) ai)) (ag (aU cK (aU eP (aq 2) ai) ai) aa))))))))))))),?_⟩
  nofun;obtain⟨k,o,S,T⟩:=c.run.ins;obtain⟨k,W,T,nP,S⟩:=c.twin.dk;ac_rfl;have X:=(S 4 (by decide) (by decide)).1;have k:(iu a.n U 4).length=a.ws.length:=nS;calc L2.cY λT S=>?_;right;calc⟨_,tK W,_,.inl ⟨_,aR.of X,rfl⟩,?_⟩;rw[k];calc L2.da S ?_;clear S;calc L2.cY λT Y=>?_;right;calc aac ⟨by decide,by decide +kernel⟩ QZ Nr ?_;have k:0<=z/12%10^Int.toNat 59:=aaE _ (by have:=Nr;lia);generalize z/12%10^Int.toNat 59=b at *;calc L2.da Y ?_;clear Y;calc L2.cY λN3 l=>?_;calc L2.qL λT0 U0 v p=>?_;right;calc⟨by show 3<=sizeLine;decide,λG k=>⟨by decide,?_⟩⟩;have Z:=av.new (.lst [.int ((a.ws.length:Nat)+b),.int (-1-b),.int ((a.ws.length:Nat))]) k;have I:upd H G (.lst [.int ((a.ws.length:Nat)+b),.int (-1-b),.int ((a.ws.length:Nat))]) G=some (.lst [.int ((a.ws.length:Nat)+b),.int (-1-b),.int ((a.ws.length:Nat))]):=af;generalize XU:upd H G (.lst [.int ((a.ws.length:Nat)+b),.int (-1-b),.int ((a.ws.length:Nat))])=G1 at *;obtain⟨QX,J,L⟩:∃g:Int,hJ [V.int ((a.ws.length:Nat)+b),.int (-1-b),.int ((a.ws.length:Nat))] (z%3)=some (.int g)/\¬(0<=g/\g<(a.ws.length:Int)):=by
   have:z%3=0\/z%3=1\/z%3=2:=by lia
   rcases this with e|e|e<;>rw[e]
   ·exact⟨_,aA (j:=0) rfl,by lia⟩
   ·exact⟨_,aA (j:=1) rfl,by lia⟩
   ·exact⟨_,aA (j:=2) rfl,by lia⟩
  calc bC I J ?_;right;calc aad ⟨by decide,by decide +kernel⟩ (by decide) ⟨by decide,by decide +kernel⟩ (by decide) ?_;calc⟨_,x,y,a,r,B,QX,_,_,rfl,c.run.same Z,c.ok,by lia,by lia,λ⟨w,i,e,_,h,_⟩=>L ⟨by lia,by lia⟩,λH2 k=>?_⟩;calc lK ?_;rw[if_neg (by decide)];calc L2.da p ?_;right;calc L2.da l ?_;clear l v p;have u:=Z.trans k;calc L2.cY λN3 l=>?_;calc L2.qL λT0 U0 v p=>?_;right;by_cases k:a.ws.length=0
  ·rw[if_pos (by simpa using k)];calc L2.da v ?_;right;exact q _ u
  ·rw[if_neg (by simpa using k)];calc L2.da p ?_;right;calc L2.da l ?_;clear l v p;calc L2.cY λG h4=>?_;right;calc gN ⟨by decide,by decide +kernel⟩ (by lia) ?_;have Kb:0<=z / 12 % ((a.ws.length:Nat):Int):=aaE _ (by lia);have k:z / 12 % ((a.ws.length:Nat):Int) < ((a.ws.length:Nat):Int):=aaC _ (by lia);nofun;generalize z / 12 % ((a.ws.length:Nat):Int)=mz at *;obtain⟨m,rfl⟩:=aaq Kb;ac_rfl;have l:m < a.ws.length:=by lia
   calc L2.da h4 ?_;clear h4;have JA:=c.same u;obtain⟨k,v,p⟩:=JA.twin.cD.lst (t:=4) (i:=m) l rfl;have G:k.length=(r.ww m).say.length:=by simpa using p.1
   calc L2.cY λk p=>?_;right;calc bE _ (tK (u _ _ W)) ?_;right;calc bC (u _ _ X) (aY l) ⟨_,.inl ⟨_,aR.of v,rfl⟩,?_⟩;rw[G];calc L2.da p ?_;clear p;right;calc⟨by show 3<=sizeLine;decide,λM k=>⟨by decide,?_⟩⟩;have s3:=av.new (.lst [.int (((r.ww m).say.length:Nat)+b),.int (-1-b),.int (((r.ww m).say.length:Nat))]) k;have N:upd H2 M (.lst [.int (((r.ww m).say.length:Nat)+b),.int (-1-b),.int (((r.ww m).say.length:Nat))]) M=some (.lst [.int (((r.ww m).say.length:Nat)+b),.int (-1-b),.int (((r.ww m).say.length:Nat))]):=af;generalize Rz:upd H2 M (.lst [.int (((r.ww m).say.length:Nat)+b),.int (-1-b),.int (((r.ww m).say.length:Nat))])=G3 at *;obtain⟨QY,O,R⟩:∃g:Int,hJ [V.int (((r.ww m).say.length:Nat)+b),.int (-1-b),.int (((r.ww m).say.length:Nat))] (z%3)=some (.int g)/\¬(0<=g/\g<((r.ww m).say.length:Int)):=by
    have:z%3=0\/z%3=1\/z%3=2:=by lia
    rcases this with e|e|e<;>rw[e]
    ·exact⟨_,aA (j:=0) rfl,by lia⟩
    ·exact⟨_,aA (j:=1) rfl,by lia⟩
    ·exact⟨_,aA (j:=2) rfl,by lia⟩
   calc bC N O ?_;right;calc gN ⟨by decide,by decide +kernel⟩ (by decide) ?_;refine⟨_,x,y,a,r,B,((m:Nat):Int),QY,_,rfl,JA.run.same s3,c.ok,by lia,by lia,λ⟨w,i,e,b,h,g⟩=>by
    obtain rfl:m=w:=by lia
    calc R ⟨by lia,by lia⟩,λb a=>?_⟩
   right;calc q _ (u.trans (s3.trans a))
theorem cq.wk{F:Addr->Prop}{d:Addr}{nt:NT}(h:cq F H d tn nt r ad){w:Nat}(c:w<nt.ws.length)(k:Nat):∃l g,H (ad 6 w)=some (.dK l)/\gc H (ad 6 w) (.int (k:Nat)) g/\HT H 1 (g.getD .bD) (nh ((r.ww w).dy.getD k none))/\∀e,(r.ww w).dy.getD k none=some e->∃a,g=some (.ref a)/\H a=some (.tup [.int e.1,.int e.2]):=by
 obtain⟨f,g,l⟩:=h.cD.Z7 (t:=6) (i:=w) c rfl;have b:=l.2 (k:Int);have h:jR (r.ww w).dy (k:Int)=((r.ww w).dy.getD k none).map pairD:=by unfold jR;rw[if_pos (by lia),Int.toNat_natCast]
 rw[h]at b;refine⟨f,eY f (.inl (k:Int)),g,gc.k (k:=.inl (k:Int)) g,?_⟩
 cases c:(r.ww w).dy.getD k none with
 |none=>
  rw[c]at b;have b:eY f (.inl (k:Int))=none:=b;rw[b];calc⟨.bD,λe z=>by cases z⟩
 |some e=>
  rw[c]at b;obtain⟨v,m,n⟩:=(show ∃v,eY f (.inl (k:Int))=some v/\HD _ 4 v (pairD e) from b)
  rw[m];obtain⟨a,rfl,j⟩:=qS (e:=e) (n.cv eA);calc⟨c9 j (.int _) (.int _),λb z=>by cases z;calc⟨a,rfl,j⟩⟩
structure El(r:RS)(H:Hp)(zs:List V)(i:Nat):Prop where
 len:zs.length=i
 at':∀(j:Nat) (p:Int×Int),j<i->r.picks[j]?=some p->∃(a:Addr) (e:Int×Int),zs[j]?=some (.ref a)/\H a=some (.tup [.int e.1,.int e.2])/\(r.ww p.1.toNat).dy.getD p.2.toNat none=some e
theorem El.nil:El r H [] 0:=⟨rfl,λj p h=>absurd h (aao _)⟩
theorem El.mono{i:Nat}(h:El r H zs i)(s:∀a xs,H a=some (.tup xs)->H' a=some (.tup xs)):El r H' zs i:=
 ⟨h.len,λj p a b=>let ⟨x,e,c,d,f⟩:=h.at' j p a b;⟨x,e,c,s _ _ d,f⟩⟩
theorem El.snoc{i:Nat}(h:El r H zs i){p:Int×Int}(c:r.picks[i]?=some p){a:Addr}{e:Int×Int}(d:H a=some (.tup [.int e.1,.int e.2]))(f:(r.ww p.1.toNat).dy.getD p.2.toNat none=some e):El r H (zs++[.ref a]) (i+1):=by
 calc⟨by rw[List.length_append,h.len];rfl,λj q g b=>?_⟩;by_cases z:j=i
 ·subst z;rw[c]at b;cases b;exact⟨a,e,by rw[List.getElem?_append_right (by rw[h.len];calc Nat.le_refl _),h.len,Nat.sub_self];rfl,d,f⟩
 ·obtain⟨x,c,d,f,g⟩:=h.at' j q (by lia) b;calc⟨x,c,by rw[List.getElem?_append_left (by rw[h.len];lia)];calc d,f,g⟩
abbrev j2:Stmt:=top 66
def Iz:Sp:=λvs H Q _=>∃(F:Addr->Prop) (d:Addr) (tn:V) (nt:NT) (r:RS) (ad:Nat->Nat->Addr),vs=[.ref d]/\cq F H d tn nt r ad/\r.Iv nt/\r.picks.length<=400/\∀l zs H',av H H'->H l=none->H' l=some (.lst zs)->El r H' zs r.picks.length->Q (.ref l) H'
theorem v9(D:cZ K mg "_law_events" "_law_events" j2 ["_law_own"])(T:Tx K mg C CN CR F FD):Def P w K mg base "_law_events" 1 ["_law_own"] Iz:=by
 have sc:aE ["_law_own"] ["_law_own"] (az j2):=by walk_at "s"
 symm
 ·obtain⟨F,d,tn,m,r,ad,rfl,l,L,X,q⟩:=h;rfl
 ·nofun;obtain⟨F,d,tn,m,r,ad,rfl,l,L,X,q⟩:=h;ac_rfl;have m:=hr.units;have T:=Ut m;calc⟨_,(ao (aI (dE (N':=["_law_way","_law_number","_law_own"]) (ix:=[none,none,some 0]) (cu (ak m (aq 0) aD)) (λ_ _ _ _=>(lA (K:=K) rfl (i:=0) (j:=1) rfl (show(["_law_way","_law_number","_law_own"]:List Str).Nodup by decide +kernel) rfl rfl (by grind) (by grind))) oq (λ_ _ _ _=>(AY T (eU (K:=K) rfl m (eU (K:=K) rfl m (aq 2) aD) (aq 0)) (aq 1) (rA rfl)))))),?_⟩;nofun;obtain⟨X,M,nF,nP,T⟩:=l.dk;have Y:=(T 6 (by decide) (by decide)).1;obtain⟨m,p,N⟩:=l.cD.lst (t:=0) (i:=0) (by show 0 < 1;decide) rfl;ac_rfl;have Z:m.length=r.picks.length:=by simpa using N.1
  right;calc bT ?_;right;calc bE _ (Lq M) ?_;right;calc .inl ⟨⟨_,aR.of p⟩,λD v=>?_⟩;refine bx (J:=u7 K (ad 0 0)) (n:=m.length) (λi zs H'=>El r H' zs i/\av H H') (P' (small (by lia))) ⟨El.nil,av.new _ v⟩ ?_ ?_ ?_ ?_
  ·rintro i zs H' y ⟨_,c⟩;exact⟨_,m[i],aR.of (c _ _ p),cE y⟩
  ·rintro zs H' ⟨_,c⟩;exact⟨_,aR.of (c _ _ p),L' _⟩
  ·intro i zs H' y u O jF x R jG;nofun;obtain⟨B,c⟩:=jF;obtain⟨rfl,m⟩:=jG;have T:=m _ (aR.of (c _ _ p));have G:i < r.picks.length:=by lia
   have hx:=N.2 i x (pairD r.picks[i]) T (by rw[List.getElem?_map,cE G];rfl);obtain⟨w,k,e,S,U,W⟩:=L.pk _ (aai G);obtain⟨ta,u1,u2,kz,rfl,ye,y1,y2⟩:=cy (BR (e:=some r.picks[i]) (hx.cv eA));obtain rfl:=y1.bN;obtain rfl:=y2.bN;ac_rfl;have I:=l.same c;have i:=c _ _ ye;rw[S]at i;calc yG (bM.of i) ?_;calc⟨Ext.set (Ext.set (Ext.refl _) rfl) rfl,?_⟩;right;calc bE _ (Lo (c _ _ M)) ?_;right;calc bC (c _ _ Y) (aY U) ?_;nofun;obtain⟨l,m,p,g2,x,g4⟩:=I.wk U k;obtain⟨a,rfl,ha⟩:=g4 e (getD_at W);ac_rfl;calc cF _ _ rfl g2 ?_;have st:∀b i,R b=some (.tup i)->upd R D (.lst (zs++[V.ref a])) b=some (.tup i):=λb i g=>by
    rw[ay (λz=>by rw[z,u]at g;cases g)];exact g
   refine cn u O y (P' (small (by lia))) ⟨El.snoc (B.mono st) (cE G) (st _ _ ha) (by rw[S];calc getD_at W),λb o g=>by rw[ay (au g v)];calc c _ _ g⟩
  rintro zs H2 u O ⟨B,c⟩;right;calc q _ _ _ c v u (by rw[<-Z];calc B)
abbrev mM:Stmt:=top 65
inductive B8(C CN CR:Addr)(vs:List V)(H:Hp)(Q:VK):Prop
 |mk (F1 F2:Addr->Prop) (x bH d:Addr) (tn:V) (nt:NT) (r:RS) (f7 gs:Nat->Nat->Addr) (h0:vs=[.ref x,.ref d]) (h1:v8 C CN CR F1 F2 H x bH d tn nt r f7 gs) (h2:r.Iv nt) (h4:∀H',av H H'->Q (.bl true) H'):B8 C CN CR vs H Q
def yu(C CN CR:Addr):Sp:=λvs H Q _=>B8 C CN CR vs H Q
theorem Ay(D:cZ K mg "_law_told" "_law_told" mM ["_law_run","_law_own"])(T:Tx K mg C CN CR F FD)(eS:Def P w K mg base "_law_event" 2 ["_law_found","_law_due"] Ax)(j3:Def P w K mg base "_law_events" 1 ["_law_own"] Iz)(gu:Def P w K mg base "_law_int" 1 ["_law_found"] og)(iD:d7 P w K mg base CR "put_many" 4 ["self","way"] (MV C CN CR))(gv:ft P w K mg base CR "said" 5 ["self","way","number"] (vT C CN CR c))(ei:ft P w K mg base CR "sent_by" 5 ["self","way","number"] (sF C CN CR c))(dg:ft P w K mg base CR "worked_by" 5 ["self","way","number"] (v7 C CN CR c)):Def P w K mg base "_law_told" 6 ["_law_run","_law_own"] (yu C CN CR):=by
 have sc:aE ["_law_run","_law_own","_law_found","_law_way","_law_number","_law_worker","_law_said"] ["_law_run","_law_own"] (az mM):=by walk_at "s"
 symm
 ·obtain⟨g,F2,x,bH,d,tn,u,r,f7,gs,rfl,m,Y,q⟩:=h;rfl
 ·nofun;obtain⟨g,F2,x,bH,d,tn,u,r,f7,gs,rfl,m,Y,q⟩:=h;ac_rfl;have g:=hr.units;have xH:=Ut g;refine⟨_,(aj (ba (i:=2) sc.nd rfl (by grind) Fh)
   (aj (fH PassesOwn.never rfl (de rfl T.eW (ag (bg aP rfl T.b4 U' (ag (ak g (aq 1) aD) aa)) aa)) (bb (i:=3) sc.nd rfl (by grind))
   (aj (aT (aC (gD g) (jB iD T.aZ hr (aq 0) (ag (aq 3) aa)) (bg aP rfl T.b4 U' (ag (ak g (ak g (aq 1) aD) (aq 3)) aa)) (aH _)) (ao (aI gH)) aJ)
   (ao (fH PassesOwn.never rfl (de rfl T.eW (ag (bg aP rfl T.b4 U' (ag (ak g (ak g (aq 1) aD) (aq 3)) aa)) aa)) (bb (i:=4) sc.nd rfl (by grind))
   (aj (ba (i:=5) sc.nd rfl (by grind) (Fi xH (ak g (ak g (aq 1) aD) (aq 3)) (aq 4) ⟨rfl,rfl,rfl,rfl⟩))
   (aj (aT (bV (bz (aM eS hr (ag (jS ei xC T.aZ hr (aq 0) (ag (aq 3) (ag (aq 4) aa))) (ag (ak g (ak g (ak g (aq 1) aD) (aq 3)) (aq 4)) aa))))) (ao (aI gH)) aJ)
   (aj (aT (bV (bz (aM eS hr (ag (jS dg xC T.aZ hr (aq 0) (ag (aq 3) (ag (aq 4) aa))) (ag (aq 5) aa))))) (ao (aI gH)) aJ)
   (aj (ba (i:=6) sc.nd rfl (by grind) (jS gv xC T.aZ hr (aq 0) (ag (aq 3) (ag (aq 4) aa))))
   (aj (aT (PW.pt (pw_or (bV (bz (aM gu hr (ag (aq 6) aa)))) (pw_or1 (aC (gD g) (aq 6) (ak g (ak g (ak g (aq 1) aD) (aq 3)) (aq 4)) (aH _))))) (ao (aI gH)) aJ)
   (ao (aT (aC oN (aq 5) iS (aH _)) (ao (jO xH (aq 2) (aq 5) (bQ (ag (aq 3) (ag (aq 4) aa))) rfl)) aJ)))))))))))
   (ao (aI (fE (gB (aV g) (dE (N':=["_law_event_here","_law_found"]) (ix:=[none,some 2]) (cu (aM j3 hr (ag (aq 1) aa))) (λ_ _ _ _=>(bb (i:=0) (show(["_law_event_here","_law_found"]:List Str).Nodup by decide +kernel) rfl (by grind))) oq (λ_ _ _ _=>(AY xH (aq 1) (aq 0) (rA rfl)))) (ak g (aq 1) aD) (aH _)) (ic (gB (aV g) (bg CT rfl T.b4 U' (ag (aq 2) aa)) (bg aP rfl T.b4 U' (ag (ak g (aq 1) aD) aa)) (aH _)))))))),?_⟩
  nofun;obtain⟨g,o,hx,T⟩:=m.run.ins;obtain⟨o',L,T,nP,g⟩:=m.twin.dk;ac_rfl;have l4:=(g 4 (by decide) (by decide)).1;have l5:=(g 5 (by decide) (by decide)).1;have l6:=(g 6 (by decide) (by decide)).1;have hlen:(iu u.n gs 4).length=u.ws.length:=nS;have g:=m.twin.ok.CS;have Co:=m.L9;calc L2.cY λg h1=>?_;right;intro G hfd;have s0:=av.new (.dT []) hfd;have efd:upd H G (.dT []) G=some (.dT []):=af;generalize hG0:upd H G (.dT [])=G0 at *;calc L2.da h1 ?_;clear h1;calc L2.cY λN2 h2=>?_;refine⟨_,tK (s0 _ _ L),⟨_,.inl ⟨_,aR.of (s0 _ _ l4),rfl⟩,⟨_,rfl,by lia,by lia,jw (n:=(iu u.n gs 4).length) (λi σ H'=>(∃z3 z4 z5 z6,σ=[some (V.ref x),some (V.ref d),some (V.ref G),z3,z4,z5,z6])/\av H H'/\∃I,H' G=some (.dT I)/\Fd u r H' I i 0) ?_ ?_ ?_⟩⟩⟩
  ·exact⟨⟨_,_,_,_,rfl⟩,s0,[],efd,Fd.start⟩
  ·intro i σ H1 hi jF;nofun;obtain⟨⟨z3,z4,z5,z6,rfl⟩,O,I,ef1,hF1⟩:=jF;ac_rfl;clear h2;have l:i < u.ws.length:=by lia
   rw[Int.zero_add];have hB1:=m.same O;nofun;obtain⟨g,e4,d4⟩:=hB1.twin.cD.lst (t:=4) (i:=i) l rfl;have q4:=d4.ko;subst q4;ac_rfl;have hlk:=m.ok.lk i l;have g:=m.ok.ls i l;have g:=m.ok.bs i l;right;calc eV (O _ _ hx) (fz (by decide +kernel)) ?_;calc⟨_,x,bH,u,r,f7,i,rfl,hB1.run,l,?_⟩;calc bE _ (tK (O _ _ L)) ?_;right;calc bC (O _ _ l4) (aY l) ⟨_,.inl ⟨_,aR.of e4,rfl⟩,?_⟩;rw[if_neg (by simp)];refine⟨_,tK (O _ _ L),bC (O _ _ l4) (aY l) ⟨_,.inl ⟨_,aR.of e4,rfl⟩,⟨_,rfl,(by first|(simp;done)|(simp;lia)|lia),(by first|(simp;done)|(simp;lia)|lia),jw (n:=(((r.ww i).say.map V.int).length)) (λj σ H'=>(∃z4 z5 z6,σ=[some (V.ref x),some (V.ref d),some (V.ref G),some (.int ((i:Nat):Int)),z4,z5,z6])/\av H H'/\∃I,H' G=some (.dT I)/\Fd u r H' I i j) ?_ ?_ ?_⟩⟩⟩
   ·exact⟨⟨_,_,_,rfl⟩,O,I,ef1,hF1⟩
   ·intro j σ H2 hj jG;nofun;obtain⟨⟨y4,y5,y6,rfl⟩,B,YB,R,YC⟩:=jG;ac_rfl;rw[Int.zero_add];have S:=m.same B;nofun;obtain⟨T,ov,g,O,g3,g4⟩:=S.twin.wk l j;ac_rfl;have YD:j < (r.ww i).say.length:=by simpa using hj
    right;calc bE _ (Lo (B _ _ L)) ?_;right;calc bC (B _ _ l6) (aY l) ?_;calc⟨_,rfl,.inl ⟨_,.inl g⟩,ov,O,?_⟩;calc eV (B _ _ hx) (fz (by decide +kernel)) ?_;calc⟨_,x,bH,u,r,f7,((i:Nat):Int),((j:Nat):Int),rfl,S.run,m.ok,λw0 k0 e1 e2 _ _ vs hvs=>?_,λno=>absurd ⟨i,j,rfl,rfl,l,YD⟩ no⟩;nofun;obtain rfl:i=w0:=by lia
    obtain rfl:j=k0:=by lia
    ac_rfl;calc bE _ (HN (B _ _ L)) ?_;nofun;obtain⟨g,e5,T⟩:=S.twin.cD.lst (t:=5) (i:=i) l rfl;obtain⟨u5,g,O⟩:=T.get (i:=j) (d:=nh ((r.ww i).snd.getD j none)) (by rw[List.getElem?_map,bt (d:=none) (by lia)];rfl);ac_rfl;right;calc bC (B _ _ l5) (aY l) ?_;calc bC e5 (aA g) ?_;calc KO _ _ _ rfl hvs (BR (O.cv eA)) (λH3 M=>?_);calc lK ?_;rw[if_neg (by decide)];have pq:=B.trans M;calc eV (pq _ _ hx) (fz (by decide +kernel)) ?_;calc⟨_,x,bH,u,r,f7,((i:Nat):Int),((j:Nat):Int),rfl,S.run.same M,m.ok,λw0 k0 e1 e2 _ _ g hvw=>?_,λno=>absurd ⟨i,j,rfl,rfl,l,YD⟩ no⟩;nofun;obtain rfl:i=w0:=by lia
    obtain rfl:j=k0:=by lia
    ac_rfl;calc KO _ _ _ rfl hvw (g3.aK M.aS) (λH4 y=>?_);calc lK ?_;rw[if_neg (by decide)];have Z:=pq.trans y;have U:=M.trans y;calc eV (Z _ _ hx) (fz (by decide +kernel)) ?_;calc⟨_,x,bH,u,r,f7,((i:Nat):Int),((j:Nat):Int),rfl,S.run.same U,λw0 k0 e1 e2 _ _=>?_,λno=>absurd ⟨i,j,rfl,rfl,l,YD⟩ no⟩;nofun;obtain rfl:i=w0:=by lia
    obtain rfl:j=k0:=by lia
    ac_rfl;calc bE _ rfl ?_;calc lK ?_;rw[if_neg (by decide)];calc bE _ (tK (Z _ _ L)) ?_;nofun;obtain⟨g,e44,d44⟩:=(m.same Z).twin.cD.lst (t:=4) (i:=i) l rfl;have q44:=d44.ko;subst q44;ac_rfl;calc bC (Z _ _ l4) (aY l) ?_;calc bC e44 (aA (j:=j) (v:=.int ((r.ww i).say.getD j 0)) (by rw[List.getElem?_map,bt (d:=0) YD];rfl)) ?_;have hjw:j<(r.ww i).dy.length:=by lia
    have ef4:=U _ _ R;have hF4:=YC.mono λa xs h=>U _ _ h
    cases W:(r.ww i).dy.getD j none with
    |none=>
     have SQ:ov.getD .bD=.bD:=by
      rw[W]at g3;have h:HT H2 1 (ov.getD .bD) .bD:=g3;generalize ov.getD .bD=o1 at *
      cases h;rfl
     rw[SQ];right;rw[if_neg (by decide),if_neg (by decide)];calc⟨⟨_,_,_,rfl,rfl,rfl⟩,Z,YB,ef4,hF4.none ((bt (d:=none) hjw).trans (by rw[W]))⟩
    |some e=>
     nofun;obtain⟨a,rfl,ha⟩:=g4 e W;ac_rfl;rw[Option.getD_some];right;rw[if_neg (by decide)]
     try rw[if_pos (by decide)]
     calc⟨dq,λp g=>?_⟩;have s5:=av.new (.tup [.int ((i:Nat):Int),.int ((j:Nat):Int)]) g;have ep:upd H4 p (.tup [.int ((i:Nat):Int),.int ((j:Nat):Int)]) p=some (.tup [.int ((i:Nat):Int),.int ((j:Nat):Int)]):=af;generalize Vg:upd H4 p (.tup [.int ((i:Nat):Int),.int ((j:Nat):Int)])=G5 at *;have X:=s5 _ _ ef4;have g:(r.ww i).dy[j]?=some (some e):=(bt (d:=none) hjw).trans (by rw[W]);have x:YB.length<sizeLine:=by
      rw[YC.len];have:=cw_le (k:=j) l Y;rw[sizeLine_eq];lia
     refine⟨G,_,rfl,oJ.t (k:=ek e) X (s5 _ _ (U _ _ ha)) x,⟨_,_,_,rfl,rfl,rfl⟩,λb o' N=>?_,_,af,hF4.some Y l g (λb xs N=>?_) ?_⟩
     ·rw[ay (au N hfd)];exact s5 _ _ (Z _ _ N)
     ·have e5:=s5 _ _ N;rw[ay (λz=>by rw[z,X]at e5;cases e5)];exact e5
     ·rw[ay (λz=>by rw[z,X]at ep;cases ep)];exact ep
   ·intro σ H2 oZ;nofun;obtain⟨⟨y4,y5,y6,rfl⟩,B,YB,R,YC⟩:=oZ;ac_rfl;calc⟨⟨_,_,_,_,rfl⟩,B,YB,R,YC.row ?_⟩;rw[List.length_map];exact hlk
  ·intro σ H2 vJ;nofun;obtain⟨⟨z3,z4,z5,z6,rfl⟩,B,I,ef,hF⟩:=vJ;ac_rfl;show N2 _ _;calc L2.da h2 ?_;clear h2;rw[hlen] at hF;have S:=m.same B;right;calc bT ?_;right;calc⟨_,d,tn,u,r,gs,rfl,S.twin,Y,Co,λl zs H3 M g hz hE=>?_⟩;right;calc .inl ⟨⟨_,aR.of hz⟩,λD hD=>?_⟩;have VD:=hE.len;refine bx (J:=u7 K l) (n:=zs.length) (λi ys H'=>gY H' 1 ys ((r.picks.take i).map pairD)/\av H3 H') (P' (small (by lia))) ⟨gY.nil,av.new _ hD⟩ ?_ ?_ ?_ ?_
   ·rintro i ys H' lC ⟨_,y⟩;exact⟨_,zs[i],aR.of (y _ _ hz),cE lC⟩
   ·rintro ys H' ⟨_,y⟩;exact⟨_,aR.of (y _ _ hz),L' _⟩
   ·intro i ys H' lC bG kb vL u H5 xK;nofun;obtain⟨hY,y⟩:=vL;obtain⟨rfl,g⟩:=xK;have eu:=g _ (aR.of (y _ _ hz));have Nt:i < r.picks.length:=by lia
    obtain⟨a,e,h1,h2',h3⟩:=hE.at' i _ Nt (cE Nt);ac_rfl;rw[eu]at h1;cases h1;nofun;obtain⟨w,k,N,ep,W,W0⟩:=Y.pk _ (aai Nt);rw[ep]at h3;have h3:(r.ww w).dy.getD k none=some e:=h3;have hee:N=e:=by rw[getD_at W0]at h3;exact Option.some.inj h3
    subst hee;obtain⟨b,U3,MH⟩:=hF.has w k N (.inl W) W W0;ac_rfl;walk_at "xg";right;have U:=M.trans y;refine⟨_,.ref b,rfl,?_,?_⟩
    ·have:=gc.t (k:=ek N) (U _ _ ef) (y _ _ h2');rw[U3]at this;exact this
    calc cn bG kb lC (P' (small (by lia))) ⟨?_,λg o' q'=>by rw[ay (au q' hD)];calc y _ _ q'⟩;have j:r.picks.take (i+1)=r.picks.take i++[((w:Int),(k:Int))]:=by
     rw[List.take_add_one,cE Nt,ep];rfl
    rw[j,List.map_append];have st:bS H5 (upd H5 D (.lst (ys++[V.ref b]))):=λg j q'=>by
     rw[ay (λz=>by rw[z,bG]at q';cases q')];exact q'
    exact gY.snoc (hY.aK st) ((c9 (U _ _ MH) (.int _) (.int _)).aK st)
   rintro ys H4 bG kb ⟨hY,y⟩;rw[VD,List.take_length]at hY;have g:=B.trans (M.trans y);have l:=m.same g;obtain⟨u,j,k⟩:=l.twin.cD.lst (t:=0) (i:=0) (by show 0<1;decide) rfl;have i:u.length=r.picks.length:=by simpa using k.1
   right;calc bE _ (Lq (g _ _ L)) ?_;right;calc .inl ⟨Iu (kP bG hY.JU) (kP j (k.cv eA)) (DK (f:=id)) (by decide),?_⟩;rw[if_pos trivial];calc⟨G,I,rfl,(M.trans y) _ _ ef,_,Lq (g _ _ L),_,.inl ⟨_,aR.of j,rfl⟩,?_⟩;rw[hF.all Y,i,decide_eq_true rfl];calc q _ g
theorem cq.weak{F c:Addr->Prop}{d:Addr}{nt:NT}(h:cq F H d tn nt r ad)(s:av H H')(g:∀b,c b->H b=none):cq c H' d tn nt r ad:=by
 have f:∀{b:Addr} {o:HO},H b=some o->¬c b:=λ{b o} e z=>by rw[g b z]at e;cases e
 have j:Cv (jE (λb=>F b\/FP nt.n ad b) H) (jE (λb=>c b\/FP nt.n ad b) H'):=λb u g n=>by
  obtain⟨i,c⟩:=dG g n;rw[gM (λz=>z.elim (f c) (λq=>i (.inr q)))];exact s _ _ c
 obtain⟨⟨o,i,n,k,c⟩,g,⟨ls,l⟩,m⟩:=h;refine⟨⟨o,s _ _ i,f i,k,λt a b=>⟨s _ _ (c t a b).1,f (c t a b).1,(c t a b).2.2⟩⟩,⟨g.inj,λt i h=>?_,λt i h=>?_⟩,⟨ls,l.cv j⟩,m⟩
 ·obtain⟨c,e,_⟩:=g.D7 t i h;exact f e
 ·obtain⟨c,e,f⟩:=g.D7 t i h;calc⟨c,s _ _ e,f.cv j⟩
theorem Q0{K:W.Frag}{xs:List V}(f:Fr Z H H')(n:¬Z a)(h:aR K H a xs):aR K H' a xs:=by
 rcases h with(h|⟨o,h⟩)|h
 ·exact .inl (.inl (f.at h n))
 ·exact .inl (.inr ⟨o,f.at h n⟩)
 ·calc .inr h
abbrev uT:Stmt:=top 67
def wa(K:W.Frag):Sp:=λvs H Q _=>∃(a:Addr) (ns:List Int),vs=[.ref a]/\aR K H a (ns.map V.int)/\ns.length<=63/\∀H',Q (.bl true) H'
theorem Q1{f:Addr}{fd:FuncData}(D:DQ K "law" "law" uT f fd)(T:Tx K mg C CN CR F FD)(fV:Def P w K mg base "_law_at" 1 ["_law_script","_law_k"] (GW K))(kS:Def P w K mg base "_law_begun" 1 ["_law_net_here"] B4)(eS:Def P w K mg base "_law_event" 2 ["_law_found","_law_due"] Ax)(mN:Def P w K mg base "_law_free" 2 ["_law_run"] HU)(pI:Def P w K mg base "_law_net" 5 ["_law_script"] (B0 K))(iE:Def P w K mg base "_law_net_made" 9 ["_law_net_here"] (uR C CN))(mO:Def P w K mg base "_law_pick" 3 ["_law_run","_law_way","_law_number"] B1)(fb:Def P w K mg base "_law_strangers" 7 ["_law_run","_law_own","_law_cell"] (B7 C CN CR))(iF:Def P w K mg base "_law_told" 6 ["_law_run","_law_own"] (yu C CN CR))(mP:d7 P w K mg base CR "pick" 7 ["self","way","number"] (HI C CN CR))(IA:xc P w K mg base "Run" CR 2 ["self","net"] (BX C CN CR)):iU P w K mg base uq 10 f fd ["_law_script"] (wa K):=by
 have u:aE ["_law_script","_law_net_here","_law_own","_law_run","_law_cell","_law_free_here","_law_way","_law_number","_law_due"] ["_law_script"] (az uT):=by walk_at "s"
 refine D.ok u (λvs H Q E h=>?_) (λdN A outer s H vs Q E l h=>?_)
 ·obtain⟨a,ns,rfl,hS,Yl,q⟩:=h;rfl
 ·nofun;obtain⟨a,ns,rfl,hS,Yl,q⟩:=h;ac_rfl;have hu:=l.units;refine⟨_,(aj (ba (i:=1) u.nd rfl (by grind) (aM pI l (ag (aq 0) aa)))
   (aj (ba (i:=2) u.nd rfl (by grind) (aM kS l (ag (aq 1) aa)))
   (aj (ba (i:=3) u.nd rfl (by grind) (Gi IA l (ag (aM iE l (ag (aq 1) aa)) aa)))
   (aj (aT (bV (bz (aM iF l (ag (aq 3) (ag (aq 2) aa))))) (ao (aI gH)) aJ)
   (aj (fH PassesOwn.never rfl (cu (Pr (aq 0) (lj ai) (lj ai))) (bb (i:=4) u.nd rfl (by grind))
   (aj (ba (i:=5) u.nd rfl (by grind) (aM mN l (ag (aq 2) aa)))
   (aj (aT (aC (gD hu) (aq 5) (bR aa) (aH _)) (aj (fG (ak hu (aq 5) (aU cK (aq 4) (bg aP rfl T.b4 U' (ag (aq 5) aa)))) (iV (i:=6) (j:=7) rfl u.nd rfl rfl (by grind) (by grind)))
   (aj (ba (i:=8) u.nd rfl (by grind) (aM mO l (ag (aq 2) (ag (aq 6) (ag (aq 7) aa)))))
   (ao (aT (bV (bz (aM eS l (ag (jB mP T.aZ l (aq 3) (ag (aq 6) (ag (aq 7) aa))) (ag (aq 8) aa))))) (ao (aI gH)) aJ)))) aJ)
   (ao (aT (PW.pt (pw_and (aC (aV hu) (aU cK (aU eP (aq 4) ai) ai) ai (aH _)) (pw_and1 (PW.pt (pw_or (bV (bz (aM iF l (ag (aq 3) (ag (aq 2) aa))))) (pw_or1 (bV (bz (aM fb l (ag (aq 3) (ag (aq 2) (ag (aU eP (aq 4) ai) aa)))))))))))) (ao (aI gH)) aJ)))))
   (ao (aI (fE (aM iF l (ag (aq 3) (ag (aq 2) aa))) (ic (aM fb l (ag (aq 3) (ag (aq 2) (ag (aM fV l (ag (aq 0) (ag ai aa))) aa))))))))))))),?_⟩
  calc L2.cY λl h1=>?_;left;calc sZ a ns rfl hS Yl (λt l s u mv wv lv gO ws ls H1 s1 g1 g2 g3 g4 g5 g6 g7 g=>?_);have R:ToldN H1 (.ref t) gO ws ls:=⟨t,l,s,u,mv,wv,lv,rfl,g1,g2,g3,g4,g5,g6,g7⟩
  clear g1 g2 g3 g4 g5 g6 g7;calc L2.da h1 ?_;clear h1;generalize V.ref t=v at *;obtain⟨m,u⟩:∃m:NT,m=⟨gO,ws⟩:=⟨_,rfl⟩
  have s:∀l∈ls,0<=l.1/\l.1<m.ws.length:=λl t=>by rw[u];exact⟨(g.lo l t).1,(g.lo l t).2.1⟩
  have S:m.Ok:=by rw[u];exact g.nt
  calc L2.cY λt l=>?_;left;refine⟨λ_=>False,v,m,ls,rfl,?_,λb G=>G.elim,S,g.Yk,s,λd y H2 s2 f2 fd Jj=>?_⟩
  ·rw[u];calc R.cv λb o e n=>?_;rw[gM id];exact e
  calc L2.da l ?_;clear l;calc L2.cY λt h3=>?_;left;calc⟨v,gO,ws,ls,rfl,R.cv s2.cv,g,λn A wv lv H3 s3 U hnF hnL=>?_⟩;rw[<-u]at U;left;intro x l t E T;have W:av H3 (upd (upd H3 l (.own x)) x (.ins CR l [])):=λb o e=>by rw[ay (au e t),ay (au e E)];exact e
  have X:=Jj.same s3;calc⟨FP m.n y,x,l,n,m,ls,A,wv,lv,rfl,af,U.fr (Z:=λ_=>False) W.fr,hnF.same W,hnL.aK W.aS,g.Yk,s,λb G=>(X.same W).cD.fp G,λB H4 k4 f4 hR4=>⟨rfl,?_⟩⟩;have yJ:av H3 H4:=λb o e=>k4 b o (au e t) (W _ _ e);have Y:∀b,FP m.n B b->H3 b=none:=λb G=>by
   cases e:H3 b with
   |none=>rfl
   |some o=>
    have:=f4 b G;rw[W _ _ e]at this;cases this
  have hk:∀Z:Addr->Prop,(∀b,Z b->H1 b=none)->∀{l s:Hp},Fr Z l s->aR K l a (ns.map V.int)->aR K s a (ns.map V.int):=λZ hZ l s f h=>by
   by_cases z:Z a
   ·rcases hS with(e | ⟨o,e⟩) | e
    ·have:=hZ a z;rw[s1 _ _ e]at this;cases this
    ·have:=hZ a z;rw[s1 _ _ e]at this;cases this
    ·exact .inr e
   ·exact Q0 f z h
  have Yh:= @hk _ f2;have Ru:= @hk (FP m.n B) λb G=>by
   cases e:H1 b with
   |none=>rfl
   |some o=>
    have:=Y b G;rw[s3 _ _ (s2 _ _ e)]at this;cases this
  have l:cq (FP m.n B) H4 d v m (RS.begin m ls) y:=X.weak yJ Y;obtain⟨s,X2⟩:=HJ S g.Yk;have t:v8 C CN CR (FP m.n y) (FP m.n B) H4 x n d v m (RS.begin m ls) B y:=⟨hR4,l,s,by rw[X2];simp⟩
  calc L2.da h3 ?_;have g:av H H4:=s1.trans (s2.trans (s3.trans yJ));clear hk h3 l hR4 Y k4 f4 U hnF hnL R Jj X W yJ s1 s2 s3;calc L2.cY λu s=>?_;calc L2.qL λE R A l=>?_;left;calc⟨_,_,x,n,d,v,m,_,B,y,rfl,t,RS.Iv.begin,λH5 MW=>?_⟩;calc lK ?_;rw[if_neg (by decide)];calc L2.da l ?_;show u _ _;clear A l;have Nu:=t.same MW;have s5:=g.trans MW;calc L2.da s ?_;clear s t g;calc L2.cY λN5 h5=>?_;left;calc⟨_,rfl,_,rfl,_,s5.seq hS,λL YG=>?_⟩;have slc:=av.new (.lst (eJ (ns.map V.int) (some 8) (some 48))) YG;have hB9:=Nu.same slc;have elc:upd H5 L (.lst (eJ (ns.map V.int) (some 8) (some 48))) L=some (.lst (eJ (ns.map V.int) (some 8) (some 48))):=af;have nl1:¬FP m.n B L:=λz=>by
   obtain⟨o,e,_⟩:=Nu.run.cD.fp z;rw[YG]at e;cases e
  have nl2:¬FP m.n y L:=λz=>by
   obtain⟨o,e,_⟩:=Nu.twin.cD.fp z;rw[YG]at e;cases e
  have g:(eJ (ns.map V.int) (some 8) (some 48)).length<=40:=KL (i:=8) (j:=48);have hci:∀c∈eJ (ns.map V.int) (some 8) (some 48),∃z,c=.int z:=λc hc=>by
   nofun;obtain⟨z,_,rfl⟩:=List.mem_map.mp (KN hc);ac_rfl;exact⟨z,rfl⟩
  have U7:aR K (upd H5 L (.lst (eJ (ns.map V.int) (some 8) (some 48)))) a (ns.map V.int):=(s5.trans slc).seq hS;generalize hG9:upd H5 L (.lst (eJ (ns.map V.int) (some 8) (some 48)))=G9 at *;generalize SO:eJ (ns.map V.int) (some 8) (some 48)=cs at *;clear Nu s5 MW YG hG9;refine .inl ⟨⟨_,aR.of elc⟩,jv (K:=K) (xs:=cs) (λi σ H'=>(∃z4 z5 z6 z7 z8,σ=[some (V.ref a),some v,some (V.ref d),some (V.ref x),z4,z5,z6,z7,z8])/\aR K H' a (ns.map V.int)/\∃r,v8 C CN CR (FP m.n y) (FP m.n B) H' x n d v m r B y/\r.Iv m/\r.picks.length<=i/\H' L=some (.lst cs)) ?_ ?_ ?_ ?_⟩
  ·exact⟨⟨_,_,_,_,_,rfl⟩,U7,_,hB9,RS.Iv.begin,by rw[X2];simp,elc⟩
  ·intro i σ H' l g;nofun;obtain⟨_,_,r,_,_,_,e⟩:=g;ac_rfl;exact aR.of e
  ·intro i c σ Hq hc jG;nofun;obtain⟨⟨z4,z5,z6,z7,z8,rfl⟩,YH,r,M,YI,hpk,Yr⟩:=jG;clear h5 hB9;have g:i < 40:=by have:=(List.getElem?_eq_some_iff.mp hc).1;lia
   obtain⟨cz,rfl⟩:=hci c (Y' hc);ac_rfl;calc L2.cY λl g=>?_;left;calc⟨_,d,v,m,r,y,rfl,M.twin,M.ok,M.L9,λs ys H9 u l bG DR=>?_⟩;calc L2.da g ?_;clear g;calc L2.cY λt E=>?_;have N:∀(s A R T:Option V) (l:RS) (H':Hp),v8 C CN CR (FP m.n y) (FP m.n B) H' x n d v m l B y->l.Iv m->l.picks.length<=i+1->aR K H' a (ns.map V.int)->H' L=some (.lst cs)->t [some (V.ref a),some v,some (V.ref d),some (V.ref x),some (.int cz),s,A,R,T] H':=λs A R T l H' t g U W X=>by
    calc L2.da E ?_;left;calc gN ⟨by decide,by decide +kernel⟩ (by decide) ?_;by_cases s:cz/40%4=1
    ·rw[if_pos (by simpa using s)];calc⟨_,_,x,n,d,v,m,_,B,y,rfl,t,g,λEg O=>?_⟩;calc lK ?_;rw[if_neg (by decide)];calc⟨⟨by decide,by decide +kernel⟩,?_⟩;calc⟨_,_,x,n,d,v,m,_,B,y,_,rfl,t.same O,λR A=>?_⟩;calc lK ?_;rw[if_neg (by decide)];left;refine⟨?_,(O.trans A).seq W,l,(t.same O).same A,g,U,(O.trans A) _ _ X⟩
     first
      |calc⟨_,_,_,_,_,rfl⟩
      |exact⟨_,_,_,_,_,rfl,rfl,rfl,rfl,rfl⟩
    ·rw[if_neg (by simpa using s),if_neg (by decide)];left;refine⟨?_,W,l,t,g,U,X⟩
     first
      |calc⟨_,_,_,_,_,rfl⟩
      |exact⟨_,_,_,_,_,rfl,rfl,rfl,rfl,rfl⟩
   clear E;left;have hBf:=M.same u;calc⟨aav _,λp l=>?_⟩;have g:=av.new (.lst []) l;have I:=hBf.same g;have LJ:=g _ _ bG;have W3:=DR.aK g.aS;have Rt:=g _ _ (u _ _ Yr);have wj:=(u.trans g).seq YH;have hep:upd H9 p (.lst []) p=some (.lst []):=af;generalize hGp:upd H9 p (.lst [])=Gp at *;clear hBf M Yr DR bG YH;by_cases hy:ys=[]
   ·subst hy;calc .inl ⟨.inr ⟨_,_,[],[],rfl,rfl,.inr ⟨aR.of LJ,aR.of hep⟩,rfl,λj u v hu=>by simp at hu⟩,?_⟩;rw[if_neg (by decide)];left;exact N _ _ _ _ _ _ I YI (by lia) wj Rt
   calc .inr ⟨⟨ys,[],λh=>hy (List.length_eq_zero_iff.mp h),.inl ⟨aR.of LJ,aR.of hep⟩⟩,?_⟩;rw[if_pos trivial];left;have g:0<ys.length:=List.length_pos_iff.mpr hy;nofun;obtain⟨k,hk⟩:∃k:Nat,cz%(ys.length:Int)=k:=⟨(cz%(ys.length:Int)).toNat,by have:=aaE cz (show(ys.length:Int)≠0 by lia);lia⟩
   have Bm:k<ys.length:=by have:=aaC cz (show(0:Int)<ys.length by lia);lia
   have g:ys.length=(kd m r m.ws.length).length:=by simpa using W3.1
   have hkf:k<(kd m r m.ws.length).length:=by lia
   have hel:=W3.2 k ys[k] _ (cE Bm) (by rw[List.getElem?_map,cE hkf];rfl);have wU:=aai hkf;generalize (kd m r m.ws.length)[k]=pr at *;obtain⟨wy,J⟩:=pr;have IC:=HS I.ok wU;obtain⟨g,h,j,l,eta,ye,y1,y2⟩:=cy hel;obtain rfl:=y1.bN;obtain rfl:=y2.bN;ac_rfl;calc⟨_,.inl ⟨_,aR.of LJ,rfl⟩,by lia,_,_,.inl (aR.of LJ),by rw[hk];calc aA (cE Bm),?_⟩;rw[eta];calc yG (bM.of ye) ?_;left;calc Ao.mk (FP m.n B) d v m r y wy J rfl I.twin (λb G=>I.run.cD.fp G) I.ok IC I.L9 λg h j u l=>?_;have h:=I.run.keep j;left;obtain⟨s,A,g,t⟩:=h.ins;calc eV g (fz (by decide +kernel)) ?_;calc HH.mk (FP m.n y) x n m r B wy J rfl h (λb G=>u.cD.fp G) I.ok IC I.L9 λg A h s t=>?_;have g:=RS.Ok.pick I.twin.ok I.ok (k:=J) IC.lt;have k:v8 C CN CR (FP m.n y) (FP m.n B) A x n d v m (r.pick m wy J) B y:=⟨s,u.keep h,g.1,by rw[g.2];simp;lia⟩
   have s:A L=some (.lst cs):=h.at (j.at Rt nl2) nl1;have u:(r.pick m wy J).picks.length<=i+1:=by rw[g.2];simp;lia
   have g:=Ru h (Yh j wj);calc⟨_,_,some (m.ev r wy),rfl,t,l.aK h.aS,λEg O=>?_⟩;calc lK ?_;rw[if_neg (by decide)];left;exact N _ _ _ _ _ _ (k.same O) (YI.pick S IC.lt IC.lies) u (O.seq g) (O _ _ s)
  intro σ H6 oZ;nofun;obtain⟨⟨z4,z5,z6,z7,z8,rfl⟩,YH,r,M,YI,hpk,_⟩:=oZ;ac_rfl;show N5 _ _;calc L2.da h5 ?_;left;calc⟨_,_,x,n,d,v,m,r,B,y,rfl,M,YI,λh g=>?_⟩;calc bE true rfl ?_;rw[if_pos rfl];calc KO a ns _ rfl (g.seq YH) (by lia) (λh=>?_);calc⟨_,_,x,n,d,v,m,r,B,y,h,rfl,M.same g,λi j=>q _⟩
end
end D9
namespace D9
open PySem L2 DD
variable {B:Addr}{p0 p1:Str}{K:W.Frag}
structure ID(K:W.Frag)(B C:Addr)(x:Str):Prop where
 ax:W.nsIn K mainGlobals x=some (some (.ref C))
 ob:∃nm q N bs sn sub ab col dd k0 k1 k2 k3 k5,K.lookup C=some (excClassObj nm q C N bs (.ref B::qI) true sn sub ab col dd k0 k1 k2 k3 k5 "ValueError.__new__")
 ga:W.findIn K (.ref C) "__getattribute__"=some (some (.builtin "BaseException.__getattribute__"))
 gt:W.findIn K (.ref C) "__getattr__"=some none
 sa:W.findIn K (.ref C) "__setattr__"=some (some (.builtin "object.__setattr__"))
 cl:W.findIn K (.ref C) "__class__"=some (some (.builtin "object.__class__"))
 kp:W.keepIn K (.ref C)=true
theorem W6{C:Addr}{x c q:Str}{N:Addr}{bs a:List Value}{d:List Str}{e:Bool}{b:Option Bool}{f:Option Addr}{g h i j k:Option Value}(l:W.nsIn K mainGlobals x=some (some (.ref C)))(m:K.lookup C=some (excClassObj c q C N bs (.ref B::qI) true d a e b f g h i j k "ValueError.__new__"))
  (a:W.findIn K (.ref C) "__getattribute__"=some (some (.builtin "BaseException.__getattribute__"))) (b:W.findIn K (.ref C) "__getattr__"=some none) (c:W.findIn K (.ref C) "__setattr__"=some (some (.builtin "object.__setattr__"))) (d:W.findIn K (.ref C) "__class__"=some (some (.builtin "object.__class__"))) (e:W.keepIn K (.ref C)=true):ID K B C x:=
 ⟨l,⟨_,_,_,_,_,_,_,_,_,_,_,_,_,_,m⟩,a,b,c,d,e⟩
theorem ID.cls{C:Addr}{x:Str}(h:ID K B C x)(a:W.specialIn K (.builtin "object.__class__") "__get__"=some (some (.builtin "getset_descriptor.__get__")))(ct:W.takesIn K (.builtin "object.__class__")=some true):fY K C B:=
 ⟨h.ob,h.ga,h.gt,h.sa,h.cl,a,ct,h.kp⟩
def FnAt(K:W.Frag)(f:Addr)(x q:Str)(a:Stmt):Prop:=∃od c d e kV g h b ct,K.lookup f=some ⟨e,od,.func (W.fnOf x q (eF a) (cA a) (az a) .none kV g h c b ct),d⟩/\W.codeIn K b q=true/\W.keepIn K (.ref f)=true
def DF(K:W.Frag)(x:Str)(a:Stmt):Prop:=∃f,W.nsIn K mainGlobals x=some (some (.ref f))/\FnAt K f x x a
def MF(K:W.Frag)(C:Addr)(m q:Str)(a:Stmt):Prop:=∃f,W.findIn K (.ref C) m=some (some (.ref f))/\W.isFn K (.ref f)=true/\FnAt K f m q a
def LK(x q:Str)(a:Stmt)(c:List Str):Prop:=∀(kV b d:Value) (e:Option Addr) (f ct:Value) (us:List Value),us.length=c.length->bindArgs (W.fnOf x q (eF a) (cA a) (az a) .none kV b d e f ct) ⟨us,[]⟩=pure (c.zip us)
section
variable {K:W.Frag}{h:Heap}{mg:Str->Option Value}{x m q:Str}{C f:Addr}{st:Stmt}{ps:List Str}{od an:Option Addr}{sl:Array (Option Value)}{oc kV dc pm cd ct:Value}
theorem Nw(a:W.nsIn K mainGlobals x=some (some (.ref f)))(l:K.lookup f=some ⟨oc,od,.func (W.fnOf x x (eF st) (cA st) (az st) .none kV dc pm an cd ct),sl⟩)(c:W.codeIn K cd x=true)(k:W.keepIn K (.ref f)=true):DF K x st:=⟨f,a,_,_,_,_,_,_,_,_,_,l,c,k⟩
theorem Nx(a:W.findIn K (.ref C) m=some (some (.ref f)))(i:W.isFn K (.ref f)=true)(l:K.lookup f=some ⟨oc,od,.func (W.fnOf m q (eF st) (cA st) (az st) .none kV dc pm an cd ct),sl⟩)(c:W.codeIn K cd q=true)(k:W.keepIn K (.ref f)=true):MF K C m q st:=⟨f,a,i,_,_,_,_,_,_,_,_,_,l,c,k⟩
theorem bc(X:K.In h)(G:h.Ns mainGlobals mg)(d:DF K x st)(b:LK x x st ps):cZ K mg x x st ps:=by
 obtain⟨f,a,_,_,_,_,_,_,_,_,_,l,c,k⟩:=d;calc⟨_,_,jP l c k,W.mg_of X G a,(jP l c k).binds b⟩
theorem cL(d:MF K C m q st)(b:LK m q st ps):gL K C m q st ps:=by
 obtain⟨f,a,i,_,_,_,_,_,_,_,_,_,l,c,k⟩:=d;calc⟨_,_,⟨a,i,k⟩,jP l c k,(jP l c k).binds b⟩
theorem wb(X:K.In h)(G:h.Ns mainGlobals mg)(e:W.makesIn K C=true)(g:W.keepIn K (.ref C)=true)(d:MF K C "__init__" q st)(j:W.nsIn K mainGlobals x=some (some (.ref C)))(b:LK "__init__" q st ps):CI K mg x C q st ps:=by
 obtain⟨f,a,i,_,_,_,_,_,_,_,_,_,l,c,k⟩:=d;calc⟨⟨_,_,⟨e,a,i,g⟩,jP l c k,(jP l c k).binds b⟩,W.mg_of X G j⟩
theorem LL(X:K.In h)(G:h.Ns mainGlobals mg)(e:fY K C B)(d:MF K C "__init__" q st)(g:W.nsIn K mainGlobals x=some (some (.ref C)))(b:LK "__init__" q st ps):Kk K mg x C B q st ps:=by
 obtain⟨f,a,i,_,_,_,_,_,_,_,_,_,l,c,k⟩:=d;calc⟨e,⟨_,_,a,i,jP l c k,(jP l c k).binds b⟩,W.mg_of X G g⟩
theorem mQ{us:List Value}{n:Nat}(h:us.length=n+1):∃x r,us=x::r/\r.length=n:=by
 cases us with
 |nil=>cases h
 |cons x r=>calc⟨x,r,rfl,Nat.succ.inj h⟩
theorem lM(e:∀(kV a pm:Value) (an:Option Addr) (c ct b:Value),bindArgs (W.fnOf x q (eF st) (cA st) (az st) .none kV a pm an c ct) ⟨[b],[]⟩=pure ([p0].zip [b])):LK x q st [p0]:=λkV a pm an c ct g d=>by
 obtain⟨b,h,rfl,f⟩:=mQ d
 cases List.length_eq_zero_iff.mp f;calc e ..
theorem jK(e:∀(kV a pm:Value) (an:Option Addr) (d ct b c:Value),bindArgs (W.fnOf x q (eF st) (cA st) (az st) .none kV a pm an d ct) ⟨[b,c],[]⟩=pure ([p0,p1].zip [b,c])):LK x q st [p0,p1]:=λkV a pm an d ct i f=>by
 obtain⟨b,j,rfl,g⟩:=mQ f;obtain⟨c,k,rfl,h⟩:=mQ g
 cases List.length_eq_zero_iff.mp h;calc e ..
theorem pJ{f:Str}(e:∀(kV a pm:Value) (an:Option Addr) (g ct b c d:Value),bindArgs (W.fnOf x q (eF st) (cA st) (az st) .none kV a pm an g ct) ⟨[b,c,d],[]⟩=pure ([p0,p1,f].zip [b,c,d])):LK x q st [p0,p1,f]:=λkV a pm an g ct f h=>by
 obtain⟨b,l,rfl,i⟩:=mQ h;obtain⟨c,m,rfl,j⟩:=mQ i;obtain⟨d,n,rfl,k⟩:=mQ j
 cases List.length_eq_zero_iff.mp k;calc e ..
theorem qw{g h:Str}(e:∀(kV a pm:Value) (an:Option Addr) (i ct b c d f:Value),bindArgs (W.fnOf x q (eF st) (cA st) (az st) .none kV a pm an i ct) ⟨[b,c,d,f],[]⟩=pure ([p0,p1,g,h].zip [b,c,d,f])):LK x q st [p0,p1,g,h]:=λkV a pm an i ct g j=>by
 obtain⟨b,o,rfl,k⟩:=mQ j;obtain⟨c,p,rfl,l⟩:=mQ k;obtain⟨d,r,rfl,m⟩:=mQ l;obtain⟨f,s,rfl,n⟩:=mQ m
 cases List.length_eq_zero_iff.mp n;calc e ..
theorem Q2{h i j:Str}(e:∀(kV a pm:Value) (an:Option Addr) (k ct b c d f g:Value),bindArgs (W.fnOf x q (eF st) (cA st) (az st) .none kV a pm an k ct) ⟨[b,c,d,f,g],[]⟩=pure ([p0,p1,h,i,j].zip [b,c,d,f,g])):LK x q st [p0,p1,h,i,j]:=λkV a pm an k ct h l=>by
 obtain⟨b,s,rfl,m⟩:=mQ l;obtain⟨c,t,rfl,n⟩:=mQ m;obtain⟨d,u,rfl,o⟩:=mQ n;obtain⟨f,v,rfl,p⟩:=mQ o;obtain⟨g,w,rfl,r⟩:=mQ p
 cases List.length_eq_zero_iff.mp r;calc e ..
end
theorem all_mk{l:W.OpenLaw}{w:World}{h:Heap}{j:Str->Option Value}{fa C a CR F b g:Addr}(X:K.In h)(G:h.Ns mainGlobals j)(hfa:j "law"=some (.ref fa))
  (aB:W.nsIn K mainGlobals "NetError"=some (some (.ref B)))
  {z I:Str} {J:Addr} {L W7:List Value} {M:List Str} {N:Bool} {W8:Option Bool} {O:Option Addr} {R S U Y Z:Option Value} (Q3:K.lookup B=some (excClassObj z I B J L qI true M W7 N W8 O R S U Y Z "ValueError.__new__")) (DN:ID K B b "NoLetter") (LM:ID K B g "NotFirst") (cG:W.findIn K (.ref b) "at"=some none) (oh:W.nsIn K mainGlobals "Machine"=some (some (.ref C))) (LN:W.nsIn K mainGlobals "Net"=some (some (.ref a))) (LO:W.nsIn K mainGlobals "Run"=some (some (.ref CR))) (sI:DF K "_law_at" rT) (kT:DF K "_law_begun" kQ) (lG:DF K "_law_int" lE) (kU:DF K "_law_event" kR) (kW:DF K "_law_lying" kN) (mR:DF K "_law_free" mJ) (kX:DF K "_law_digit" ky) (kY:DF K "_law_value" kD) (mS:DF K "_law_deed" mn) (ji:DF K "_law_machine" iY) (pK:DF K "_law_pot" oR) (pL:DF K "_law_net" pG) (pM:DF K "form_of" oU) (mT:DF K "is_whole" me) (kZ:DF K "is_within" kx) (mU:DF K "is_value" mf) (pN:DF K "is_part" oV) (pO:DF K "is_deed" oW) (iG:DF K "refuse_deeds" il) (pP:DF K "is_list" oS) (jj:DF K "are_counted" iW) (gw:DF K "refuse_machine" gh) (pQ:MF K C "__init__" "Machine.__init__" pb) (k6:DF K "is_letter" kB) (sJ:DF K "is_way" rX) (j4:DF K "refuse_net" jU) (IE:MF K a "__init__" "Net.__init__" Hu) (iH:DF K "_law_net_made" iC) (k7:DF K "_law_worth" kI) (j5:DF K "_law_worked" jZ) (mV:DF K "_law_pick" mK) (mW:MF K b "__init__" "NoLetter.__init__" mD) (iI:MF K CR "need_way" "Run.need_way" iz) (fW:MF K CR "need_letter" "Run.need_letter" fT) (mX:MF K CR "said" "Run.said" mF) (jk:MF K CR "sent_by" "Run.sent_by" jf) (gU:MF K CR "worked_by" "Run.worked_by" gS) (jl:DF K "_law_refused" jh) (gV:DF K "_law_strangers" gT) (j6:DF K "_law_events" j2) (iJ:MF K CR "put_many" "Run.put_many" iA) (mY:DF K "_law_told" mM) (gy:DF K "change_numbers" gk) (j7:DF K "change_row" jV) (mZ:DF K "left_out" mw) (k8:DF K "values_of" kF) (jm:DF K "plain_worth" iZ) (m7:DF K "worth_of" mr) (gz:MF K C "worked" "Machine.worked" gm) (iK:MF K a "machines" "Net.machines" ir) (m9:MF K a "ways" "Net.ways" mC) (jo:MF K a "ways_at" "Net.ways_at" i5) (jq:MF K a "ways_in" "Net.ways_in" i8) (iL:MF K a "ways_out" "Net.ways_out" iy) (gW:MF K CR "need_pick" "Run.need_pick" gP) (gA:MF K CR "put_letter" "Run.put_letter" gp) (fq:MF K CR "need_machine" "Run.need_machine" fg) (k9:MF K CR "state" "Run.state" kK) (jr:MF K CR "pick_at" "Run.pick_at" i9) (nc:MF K CR "pick" "Run.pick" mG) (eD:MF K C "first_state" "Machine.first_state" eB) (js:MF K a "letters" "Net.letters" i4) (IF:MF K CR "__init__" "Run.__init__" HK) (IG:DF K "law" uT) (pR:W.plainGet K C Str.empty=true) (pS:W.hasDictIn K C=true) (pT:W.plainOver K C=true) (pU:W.findIn K (.ref C) "__setattr__"=some (some (.builtin "object.__setattr__"))) (pV:W.makesIn K C=true) (pW:W.keepIn K (.ref C)=true) (CW:W.findIn K (.ref C) "__class__"=some (some (.builtin "object.__class__"))) (CY:W.mroIn K C (.type "object")=some true) (Mx:W.findIn K (.ref C) "own_modulus"=some none) (PD:W.findIn K (.ref C) "own_state"=some none) (My:W.findIn K (.ref C) "own_deeds"=some none) (IH:W.plainGet K a Str.empty=true) (II:W.hasDictIn K a=true) (IJ:W.plainOver K a=true) (IK:W.findIn K (.ref a) "__setattr__"=some (some (.builtin "object.__setattr__"))) (IL:W.makesIn K a=true) (IM:W.keepIn K (.ref a)=true) (GQ:W.findIn K (.ref a) "__class__"=some (some (.builtin "object.__class__"))) (GR:W.mroIn K a (.type "object")=some true) (xD:W.findIn K (.ref a) "own_machines"=some none) (xE:W.findIn K (.ref a) "own_ways"=some none) (zI:W.findIn K (.ref a) "own_letters"=some none) (IP:W.plainGet K CR Str.empty=true) (IQ:W.hasDictIn K CR=true) (IS:W.plainOver K CR=true) (IT:W.findIn K (.ref CR) "__setattr__"=some (some (.builtin "object.__setattr__"))) (IU:W.makesIn K CR=true) (IV:W.keepIn K (.ref CR)=true) (GS:W.findIn K (.ref CR) "__class__"=some (some (.builtin "object.__class__"))) (GU:W.mroIn K CR (.type "object")=some true) (cU:W.findIn K (.ref CR) "own_net"=some none) (dz:W.findIn K (.ref CR) "picks_done"=some none) (cm:W.findIn K (.ref CR) "states_had"=some none) (dW:W.findIn K (.ref CR) "words_had"=some none) (cP:W.findIn K (.ref CR) "words_said"=some none) (bL:W.findIn K (.ref CR) "letters_say"=some none) (eR:W.findIn K (.ref CR) "senders"=some none) (cV:W.findIn K (.ref CR) "workers"=some none) (x:W.specialIn K (.builtin "object.__class__") "__get__"=some (some (.builtin "getset_descriptor.__get__"))) (y:W.takesIn K (.builtin "object.__class__")=some true)
  (j8:W.nsIn K mainGlobals "isinstance"=some none) (IW:W.nsIn K mainGlobals "int"=some none) (Az:W.nsIn K mainGlobals "bool"=some none) (IX:W.nsIn K mainGlobals "str"=some none) (wc:W.nsIn K mainGlobals "tuple"=some none) (AA:W.nsIn K mainGlobals "list"=some none) (IY:W.nsIn K mainGlobals "len"=some none) (wd:W.nsIn K mainGlobals "range"=some none) (IZ:W.nsIn K mainGlobals "min"=some none) (Ja:W.nsIn K mainGlobals "max"=some none) (Jb:W.nsIn K mainGlobals "all"=some none) (Jc:W.nsIn K mainGlobals "any"=some none) (Jd:W.nsIn K mainGlobals "zip"=some none) (lg:W.nsIn K mainGlobals "enumerate"=some none) (j9:W.nsIn K mainGlobals "ValueError"=some none) {z:Tok} (dS:W.nsIn K mainGlobals "MOST_DEEDS"=some (some (.int 24 z))) {I:Tok} (dH:W.nsIn K mainGlobals "MOST_MODULUS"=some (some (.int 1000000000000 I))) {J:Tok} (dI:W.nsIn K mainGlobals "MOST_NUMBERS"=some (some (.int 4 J))) {L:Tok} (ff:W.nsIn K mainGlobals "MOST_ROW"=some (some (.int 12 L))) {M:Tok} (df:W.nsIn K mainGlobals "MOST_MACHINES"=some (some (.int 5 M))) {N:Tok} (fu:W.nsIn K mainGlobals "MOST_WAYS"=some (some (.int 10 N))) {O:Tok} (dJ:W.nsIn K mainGlobals "MOST_LETTERS"=some (some (.int 20 O))) {R:Tok} (dU:W.nsIn K mainGlobals "SAID_BOUND"=some (some (.int 1000000000000000000000000000000000000000000000000000000000000 R)))
  {z I J L M N O R:Int} {S U Y Z fk4 fk5 fk6 fk7:Tok} {m n o p q r t u:Addr} {fep:Nat}
  (aF:W.nsIn K mainGlobals "FORMS"=some (some (.ref F))) (lF:K.lookup F=some {cls:=.type "dict",dict:=none,data:=.dict #[⟨z,.str "set" S,.ref m⟩,⟨I,.str "add" U,.ref n⟩,⟨J,.str "times" Y,.ref o⟩,⟨L,.str "put" Z,.ref p⟩,⟨M,.str "drop" fk4,.ref q⟩,⟨N,.str "send" fk5,.ref r⟩,⟨O,.str "say" fk6,.ref t⟩,⟨R,.str "skip" fk7,.ref u⟩] fep,slots:=#[]}) (neF:(F==sysModules)=false) {Ny Nz:Tok} {fo0:Option Addr} {fn0:Nat} {fs0:Array (Option Value)} (lP0:K.lookup m=some ⟨.type "tuple",fo0,.seq #[.str "number" Ny,.str "value" Nz] fn0,fs0⟩) {NA NB:Tok} {fo1:Option Addr} {fn1:Nat} {fs1:Array (Option Value)} (lP1:K.lookup n=some ⟨.type "tuple",fo1,.seq #[.str "number" NA,.str "value" NB] fn1,fs1⟩) {NC ND:Tok} {fo2:Option Addr} {fn2:Nat} {fs2:Array (Option Value)} (lP2:K.lookup o=some ⟨.type "tuple",fo2,.seq #[.str "number" NC,.str "value" ND] fn2,fs2⟩) {NF:Tok} {fo3:Option Addr} {fn3:Nat} {fs3:Array (Option Value)} (lP3:K.lookup p=some ⟨.type "tuple",fo3,.seq #[.str "value" NF] fn3,fs3⟩) {fo4:Option Addr} {fn4:Nat} {fs4:Array (Option Value)} (lP4:K.lookup q=some ⟨.type "tuple",fo4,.seq #[] fn4,fs4⟩) {NG NH:Tok} {fo5:Option Addr} {fn5:Nat} {fs5:Array (Option Value)} (lP5:K.lookup r=some ⟨.type "tuple",fo5,.seq #[.str "way" NG,.str "value" NH] fn5,fs5⟩) {NI:Tok} {fo6:Option Addr} {fn6:Nat} {fs6:Array (Option Value)} (lP6:K.lookup t=some ⟨.type "tuple",fo6,.seq #[.str "value" NI] fn6,fs6⟩) {NJ NK NL:Tok} {fo7:Option Addr} {fn7:Nat} {fs7:Array (Option Value)} (lP7:K.lookup u=some ⟨.type "tuple",fo7,.seq #[.str "value" NJ,.str "value" NK,.str "many" NL] fn7,fs7⟩) (YK:b≠g) (LI:b≠B) (Nu:g≠B)
  :∃fd:FuncData,(∀(s:Shared) (v:Value),BindsTo s fd ⟨[v],[]⟩ [("_law_script",v)])/\∀base:Heap,K.In base->base.Ns mainGlobals j->iU l.prog w K j base uq 10 fa fd ["_law_script"] (wa K):=by
 have FR:PyProof.Rows.KTD.Rows RelV (#[⟨z,.str "set" S,.ref m⟩,⟨I,.str "add" U,.ref n⟩,⟨J,.str "times" Y,.ref o⟩,⟨L,.str "put" Z,.ref p⟩,⟨M,.str "drop" fk4,.ref q⟩,⟨N,.str "send" fk5,.ref r⟩,⟨O,.str "say" fk6,.ref t⟩,⟨R,.str "skip" fk7,.ref u⟩]:Array DictEntry).toList ([("set",V.ref m),("add",V.ref n),("times",V.ref o),("put",V.ref p),("drop",V.ref q),("send",V.ref r),("say",V.ref t),("skip",V.ref u)]:List (Str×V)):=.cons rfl rfl (.cons rfl rfl (.cons rfl rfl (.cons rfl rfl (.cons rfl rfl (.cons rfl rfl (.cons rfl rfl (.cons rfl rfl (.nil))))))));have T:Tx K j C a CR F ([("set",V.ref m),("add",V.ref n),("times",V.ref o),("put",V.ref p),("drop",V.ref q),("send",V.ref r),("say",V.ref t),("skip",V.ref u)]:List (Str×V)):={
  bq:=aaz X G j8
  Em:=aaz X G IW
  Eo:=aaz X G Az
  Bv:=aaz X G IX
  cB:=aaz X G wc
  fe:=aaz X G AA
  b4:=aaz X G IY
  eW:=aaz X G wd
  UD:=aaz X G IZ
  Mw:=aaz X G Ja
  uz:=aaz X G Jb
  UE:=aaz X G Jc
  GP:=aaz X G Jd
  eQ:=aaz X G lg
  vH:=aaz X G j9
  dS:=⟨_,W.mg_of X G dS⟩
  dH:=⟨_,W.mg_of X G dH⟩
  dI:=⟨_,W.mg_of X G dI⟩
  ff:=⟨_,W.mg_of X G ff⟩
  df:=⟨_,W.mg_of X G df⟩
  fu:=⟨_,W.mg_of X G fu⟩
  dJ:=⟨_,W.mg_of X G dJ⟩
  dU:=⟨_,W.mg_of X G dU⟩
  cN:=⟨pR,pS,pT,pU⟩
  uA:=W.mg_of X G oh
  CW:=CW
  CY:=CY
  Mx:=Mx
  PD:=PD
  My:=My
  cT:=⟨IH,II,IJ,IK⟩
  UG:=W.mg_of X G LN
  GQ:=GQ
  GR:=GR
  xD:=xD
  xE:=xE
  zI:=zI
  aZ:=⟨IP,IQ,IS,IT⟩
  UH:=W.mg_of X G LO
  GS:=GS
  GU:=GU
  cU:=cU
  dz:=dz
  cm:=cm
  dW:=dW
  cP:=cP
  bL:=bL
  eR:=eR
  cV:=cV
  vI:=x
  nM:=y
  i_k:=by unfold W.kitOne;rw[if_pos (by simp)]
  Bw:=W.mg_of X G aF
  Bx:=⟨⟨_,_,_,lF,⟨rfl,rfl,rfl⟩,rfl,FR⟩,neF⟩
  Mz:=λd=>by
   cases d with
   |set _ _=>calc⟨m,by kernel_rfl,λH=>.inr ⟨_,_,_,lP0,rfl,rfl,by show 2<=sizeLine;decide,(.cons ⟨Ny,rfl⟩ (.cons ⟨Nz,rfl⟩ .nil))⟩⟩
   |add _ _=>calc⟨n,by kernel_rfl,λH=>.inr ⟨_,_,_,lP1,rfl,rfl,by show 2<=sizeLine;decide,(.cons ⟨NA,rfl⟩ (.cons ⟨NB,rfl⟩ .nil))⟩⟩
   |times _ _=>calc⟨o,by kernel_rfl,λH=>.inr ⟨_,_,_,lP2,rfl,rfl,by show 2<=sizeLine;decide,(.cons ⟨NC,rfl⟩ (.cons ⟨ND,rfl⟩ .nil))⟩⟩
   |put _=>calc⟨p,by kernel_rfl,λH=>.inr ⟨_,_,_,lP3,rfl,rfl,by show 1<=sizeLine;decide,(.cons ⟨NF,rfl⟩ .nil)⟩⟩
   |drop=>calc⟨q,by kernel_rfl,λH=>.inr ⟨_,_,_,lP4,rfl,rfl,by show 0<=sizeLine;decide,.nil⟩⟩
   |send _ _=>calc⟨r,by kernel_rfl,λH=>.inr ⟨_,_,_,lP5,rfl,rfl,by show 2<=sizeLine;decide,(.cons ⟨NG,rfl⟩ (.cons ⟨NH,rfl⟩ .nil))⟩⟩
   |say _=>calc⟨t,by kernel_rfl,λH=>.inr ⟨_,_,_,lP6,rfl,rfl,by show 1<=sizeLine;decide,(.cons ⟨NI,rfl⟩ .nil)⟩⟩
   |skip _ _ _=>exact⟨u,by kernel_rfl,λH=>.inr ⟨_,_,_,lP7,rfl,rfl,by show 3<=sizeLine;decide,(.cons ⟨NJ,rfl⟩ (.cons ⟨NK,rfl⟩ (.cons ⟨NL,rfl⟩ .nil)))⟩⟩
 }
 have k:DX K j B (λi:Nat=>if i=4 then b else g):={
  l7:=W.mg_of X G DN.ax
  l8:=W.mg_of X G LM.ax
  l9:=W.mg_of X G aB
  cl:=λi hi=>by
   rcases hi with rfl|rfl
   ·exact DN.cls x y
   ·exact LM.cls x y
  inj:=λi j hi hj e=>by
   rcases hi with rfl|rfl<;>rcases hj with rfl|rfl<;>first|rfl|calc absurd e YK|exact absurd e.symm YK
  nB:=λi hi=>by
   rcases hi with rfl|rfl
   ·exact LI
   ·exact Nu
  xb:=⟨⟨_,_,_,_,_,_,_,_,_,_,_,_,_,_,Q3⟩⟩
  cG:=cG
 }
 obtain⟨f,a,d,an,j,m,kV,dc,pm,cd,ct,ll,lc,lk⟩:=IG;have e:=hfa.symm.trans (W.mg_of X G a)
 cases e;refine⟨W.fnOf "law" "law" (eF uT) (cA uT) (az uT) .none kV dc pm an cd ct,λs v=>.of_eq rfl,λbase _ _=>?_⟩;have e:=GX (P:=l.prog) (w:=w) (base:=base) (bc X G sI (jK λ_ _ _ _ _ _ _ _=>rfl)) T;have r:=yp (P:=l.prog) (w:=w) (base:=base) (bc X G kT (lM λ_ _ _ _ _ _ _=>rfl)) T;have j:=DM (P:=l.prog) (w:=w) (base:=base) (bc X G lG (lM λ_ _ _ _ _ _ _=>rfl)) T;have m:=yt (bc X G kU (jK λ_ _ _ _ _ _ _ _=>rfl)) T j;have d:=ym (P:=l.prog) (w:=w) (base:=base) (bc X G kW (jK λ_ _ _ _ _ _ _ _=>rfl)) T;have t:=Al (bc X G mR (lM λ_ _ _ _ _ _ _=>rfl)) T d;have a:=xI (P:=l.prog) (w:=w) (base:=base) (bc X G kX (jK λ_ _ _ _ _ _ _ _=>rfl)) T;have d:=xR (bc X G kY (jK λ_ _ _ _ _ _ _ _=>rfl)) T a;have n:=zR (bc X G mS (jK λ_ _ _ _ _ _ _ _=>rfl)) T a d;have o:=tm (bc X G ji (lM λ_ _ _ _ _ _ _=>rfl)) T n a;have d:=CZ (P:=l.prog) (w:=w) (base:=base) (bc X G pK (lM λ_ _ _ _ _ _ _=>rfl)) T;have u:=DE (bc X G pL (lM λ_ _ _ _ _ _ _=>rfl)) T e a o d;have n:=C9 (P:=l.prog) (w:=w) (base:=base) (bc X G pM (lM λ_ _ _ _ _ _ _=>rfl)) T;have d:=zJ (P:=l.prog) (w:=w) (base:=base) (bc X G mT (lM λ_ _ _ _ _ _ _=>rfl)) T;have a:=xG (bc X G kZ (pJ λ_ _ _ _ _ _ _ _ _=>rfl)) T d;have o:=zL (bc X G mU (jK λ_ _ _ _ _ _ _ _=>rfl)) T d a;have p:=Dc (bc X G pN (pJ λ_ _ _ _ _ _ _ _ _=>rfl)) T o d a;have q:=Dd (bc X G pO (jK λ_ _ _ _ _ _ _ _=>rfl)) T n p;have o:=rW (bc X G iG (jK λ_ _ _ _ _ _ _ _=>rfl)) T q;have d:=C8 (P:=l.prog) (w:=w) (base:=base) (bc X G pP (pJ λ_ _ _ _ _ _ _ _ _=>rfl)) T;have n:=tf (bc X G jj (qw λ_ _ _ _ _ _ _ _ _ _=>rfl)) T d a;have p:=o7 (bc X G gw (qw λ_ _ _ _ _ _ _ _ _ _=>rfl)) T n a;have q:=Df (wb X G pV pW pQ oh (Q2 λ_ _ _ _ _ _ _ _ _ _ _=>rfl)) T o p;have n:=xO (bc X G k6 (jK λ_ _ _ _ _ _ _ _=>rfl)) T a;have o:=Hd (bc X G sJ (jK λ_ _ _ _ _ _ _ _=>rfl)) T a;have p:=vM (bc X G j4 (pJ λ_ _ _ _ _ _ _ _ _=>rfl)) T n d o;have v:=Ve (wb X G IL IM IE LN (qw λ_ _ _ _ _ _ _ _ _ _=>rfl)) T p;have z:=sD (bc X G iH (lM λ_ _ _ _ _ _ _=>rfl)) T q v;have d:=yb (P:=l.prog) (w:=w) (base:=base) (bc X G k7 (Q2 λ_ _ _ _ _ _ _ _ _ _ _=>rfl)) T;have o:=vQ (bc X G j5 (qw λ_ _ _ _ _ _ _ _ _ _=>rfl)) T d;have v:=Ap (bc X G mV (pJ λ_ _ _ _ _ _ _ _ _=>rfl)) T o;have n:=zZ (P:=l.prog) (w:=w) (base:=base) (c:=(λi:Nat=>if i=4 then b else g)) (LL X G (DN.cls x y) mW DN.ax (jK λ_ _ _ _ _ _ _ _=>rfl)) T k;have o:=sm (c:=(λi:Nat=>if i=4 then b else g)) (cL iI (pJ λ_ _ _ _ _ _ _ _ _=>rfl)) T k a n;have d:=nW (c:=(λi:Nat=>if i=4 then b else g)) (cL fW (qw λ_ _ _ _ _ _ _ _ _ _=>rfl)) T k a o n;have p:=Ab (c:=(λi:Nat=>if i=4 then b else g)) (cL mX (pJ λ_ _ _ _ _ _ _ _ _=>rfl)) T k d;have n:=tL (c:=(λi:Nat=>if i=4 then b else g)) (cL jk (pJ λ_ _ _ _ _ _ _ _ _=>rfl)) T k d;have q:=qu (c:=(λi:Nat=>if i=4 then b else g)) (cL gU (pJ λ_ _ _ _ _ _ _ _ _=>rfl)) T k d;have x:=Aw (P:=l.prog) (w:=w) (base:=base) (bc X G lG (lM λ_ _ _ _ _ _ _=>rfl)) T;have y:=tM (c:=(λi:Nat=>if i=4 then b else g)) (bc X G jl (qw λ_ _ _ _ _ _ _ _ _ _=>rfl)) T k p n q x;have C:=qv (bc X G gV (pJ λ_ _ _ _ _ _ _ _ _=>rfl)) T y;have b:=v9 (P:=l.prog) (w:=w) (base:=base) (bc X G j6 (lM λ_ _ _ _ _ _ _=>rfl)) T;have g:=sr (cL iJ (jK λ_ _ _ _ _ _ _ _=>rfl)) T o;have k:=Ay (bc X G mY (jK λ_ _ _ _ _ _ _ _=>rfl)) T m b j g p n q;have i:=pd (P:=l.prog) (w:=w) (base:=base) (bc X G gy (qw λ_ _ _ _ _ _ _ _ _ _=>rfl)) T;have b:=vO (P:=l.prog) (w:=w) (base:=base) (bc X G j7 (pJ λ_ _ _ _ _ _ _ _ _=>rfl)) T;have j:=zT (P:=l.prog) (w:=w) (base:=base) (bc X G mZ (jK λ_ _ _ _ _ _ _ _=>rfl)) T;have n:=xY (P:=l.prog) (w:=w) (base:=base) (bc X G k8 (lM λ_ _ _ _ _ _ _=>rfl)) T;have g:=tq (P:=l.prog) (w:=w) (base:=base) (bc X G jm (qw λ_ _ _ _ _ _ _ _ _ _=>rfl)) T;have o:=zS (bc X G m7 (Q2 λ_ _ _ _ _ _ _ _ _ _ _=>rfl)) T g;have p:=pf (cL gz (qw λ_ _ _ _ _ _ _ _ _ _=>rfl)) T i b j n o;have g:=r8 (P:=l.prog) (w:=w) (base:=base) (cL iK (lM λ_ _ _ _ _ _ _=>rfl)) T;have b:=zW (P:=l.prog) (w:=w) (base:=base) (cL m9 (lM λ_ _ _ _ _ _ _=>rfl)) T;have i:=tE (cL jo (pJ λ_ _ _ _ _ _ _ _ _=>rfl)) T a;have j:=tF (cL jq (jK λ_ _ _ _ _ _ _ _=>rfl)) T i;have n:=sh (cL iL (jK λ_ _ _ _ _ _ _ _=>rfl)) T i;have o:=qr (cL gW (qw λ_ _ _ _ _ _ _ _ _ _=>rfl)) T b d;have i:=pA (P:=l.prog) (w:=w) (base:=base) (cL gA (qw λ_ _ _ _ _ _ _ _ _ _=>rfl)) T;have d:=mE (cL fq (jK λ_ _ _ _ _ _ _ _=>rfl)) T a;have q:=yg (cL k9 (jK λ_ _ _ _ _ _ _ _=>rfl)) T d;have a:=tH (cL jr (qw λ_ _ _ _ _ _ _ _ _ _=>rfl)) T p g b j n o i q;have d:=Ah (cL nc (pJ λ_ _ _ _ _ _ _ _ _=>rfl)) T a;have j:=ke (P:=l.prog) (w:=w) (base:=base) (cL eD (lM λ_ _ _ _ _ _ _=>rfl)) T;have a:=tw (P:=l.prog) (w:=w) (base:=base) (cL js (lM λ_ _ _ _ _ _ _=>rfl)) T;have l:=VG (wb X G IU IV IF LO (jK λ_ _ _ _ _ _ _ _=>rfl)) T j a g b i;exact Q1 (jP ll lc lk) T e r m t u z v C k d l
theorem walk{l:W.OpenLaw}{q:Program}{a:List Str}{g:(Str->Option Value)->Heap->Prop}{c:World->Heap->Prop}{d:DefRec}{K:Params->W.Frag}(i:l.most=some 63)(j:d.params.defaults=[])
  (m:∀(w:World) (h:Heap),c w h->(K w.params).In h)
  (F:∀(w:World) (b:Str->Option Value) (e:Addr) (h:Heap),(K w.params).In h->h.Ns mainGlobals b->b d.name=some (.ref e)->
   ∃f:FuncData,(∀(s:Shared) (u:Value),BindsTo s f ⟨[u],[]⟩ [("_law_script",u)])/\∀base:Heap,(K w.params).In base->base.Ns mainGlobals b->iU l.prog w (K w.params) b base uq 10 e f ["_law_script"] (wa (K w.params))):
  W.WalkO q a g c l.row.toRowW d [] (λf vs=>PySem.call f vs):=
 L2.J6 (n:=63) (k:=10) (x:="_law_script") (CX:=λ_=>uq) (sp:=λw=>wa (K w.params)) i (by decide) j ⟨rfl,by decide,by decide⟩ m F (λ_ _ a b c _ d=>⟨a,b,rfl,d,c,λ_=>rfl⟩) λ_ _ _ _ _ z=>z
end D9
end
namespace PySem.W.Fast
def tw10300450291886944972:=Nat
def tw4559031533578934263:=Nat
def tw8415796189520233528:=Nat
def tw10451023204634970354:=Nat
def tw2452721489709920156:=Nat
def tw11551707113935125170:=Nat
def tw14382901867668731260:=Nat
def tw5109279398228833782:=Nat
def tw17560264244418030500:=Nat
def tw10558164965465168427:=Nat
def tw3943662465447583788:=Nat
def tw5269284481512040731:=Nat
def tw12269917875564484238:=Nat
def tw6260809331560883356:=Nat
def tw14950931088238746923:=Nat
def tw3578817581154422154:=Nat
def tw4107733451282073545:=Nat
def tw15107129840459016465:=Nat
def tw11529326927667542063:=Nat
def tw10527865396752878842:=Nat
def tw16609375841466520431:=Nat
def tw4134268109201654360:=Nat
def tw2026912618612490033:=Nat
def tw10094353612215575497:=Nat
def tw3275205093160099970:=Nat
def tw841881577683043060:=Nat
def tw6371661451957153029:=Nat
def tw4802004285328982528:=Nat
def tw7048451499139883992:=Nat
def tw1347159715959563503:=Nat
def tw3849463390321592320:=Nat
def tw8141715195788586229:=Nat
def tw5038228224977531106:=Nat
def tw13827834220108169754:=Nat
def tw15846871070247370477:=Nat
def tw8324937134083309658:=Nat
def tw1182056596752451761:=Nat
def tw11354752122388827410:=Nat
def tw3206722545080423758:=Nat
def tw7097064813101291109:=Nat
def tw5936542891287382519:=Nat
def tw3417709974006504746:=Nat
def tw13287483446375350180:=Nat
def tw12103730582908100762:=Nat
def tw11567657289045155470:=Nat
def tw7820122353343801112:=Nat
def tw6959037668742724552:=Nat
def tw6327062438020911745:=Nat
def tw1580627151505124312:=Nat
def tw9456876990728385110:=Nat
def tw7287960268646043661:=Nat
def tw8867965867323501189:=Nat
def tw4709491241665660933:=Nat
def tw5990553661327142240:=Nat
def tw12005755777668754635:=Nat
def tw17305671954102566124:=Nat
def tw2952639092701425121:=Nat
def tw570941616025808619:=Nat
def tw6367017961127821235:=Nat
def tw12516833737287791074:=Nat
def tw6708134045158408687:=Nat
def tw15082644978120679692:=Nat
def tw14875367770315772565:=Nat
def tw10525273120802170741:=Nat
def tw1769617937969496450:=Nat
def tw14983013749747578563:=Nat
def tw17241751303535493142:=Nat
def tw14282896167766582434:=Nat
def tw10644092322157453769:=Nat
def tw1940467700907021811:=Nat
def tw3847790325441625409:=Nat
def tw16185598762514807801:=Nat
def tw305869943435132055:=Nat
def tw16203374035485817298:=Nat
def tw9196408215692728065:=Nat
def tw15177307456632899470:=Nat
def tw1375751075695611223:=Nat
def tw18280560704543162466:=Nat
def tw3621873432090872439:=Nat
def tw4666185045910504845:=Nat
def tw16365163011106335128:=Nat
def tw2211841842974899269:=Nat
def tw18397697112839370713:=Nat
def tw76092800144369180:=Nat
def tw8947028143178586274:=Nat
def tw2897229177266605732:=Nat
def tw16341690281008719477:=Nat
def tw14149213211175048420:=Nat
def tw16833771201551826813:=Nat
def tw12701454202329928760:=Nat
def tw11202821658993638141:=Nat
def tw15274012560224834008:=Nat
def tw15982881619999775350:=Nat
def tw9769062049167979857:=Nat
def tw1381760242347483991:=Nat
def tw15048989573828070994:=Nat
def tw6287884057308468542:=Nat
def tw453672921915839514:=Nat
def tw687475709397999559:=Nat
def tw4674426727498369998:=Nat
def tw3826950890689708403:=Nat
def tw3333934707231068577:=Nat
def tw7385344517327961662:=Nat
def tw10890150969556331712:=Nat
def tw10070557892988680407:=Nat
def tw14569598811155706089:=Nat
def tw9504280274124986324:=Nat
def tw3731115568827607566:=Nat
def tw10719185555472251372:=Nat
def tw8042269986315639237:=Nat
def tw13923354257548416145:=Nat
def tw15323344465559319435:=Nat
def tw7284818988678596116:=Nat
def tw13748097744104290365:=Nat
def tw804763266237330269:=Nat
def tw9641915815245368482:=Nat
def tw3691724782827338109:=Nat
def tw12910636851015039375:=Nat
def tw11531079018113103234:=Nat
def tw17676869529524526561:=Nat
def tw15321416936883975495:=Nat
def tw2137876451196077607:=Nat
def tw5915272070724628939:=Nat
def tw8655324713112947083:=Nat
def tw11657792552402765960:=Nat
def tw12490319209232527864:=Nat
def tw11442377763300670365:=Nat
def tw16397765275323712363:=Nat
def tw13391861914204381930:=Nat
def tw2571242830409864274:=Nat
def tw17868585180607224180:=Nat
def tw9580170085071781792:=Nat
def tw10337566959051006235:=Nat
def tw17050278739079741820:=Nat
def tw5586966638632465351:=Nat
def tw10236730646955358870:=Nat
def tw3937039890508879714:=Nat
def tw5811670083260161374:=Nat
def tw1764830466083368094:=Nat
def tw3041585237614855335:=Nat
def tw1802462175467669627:=Nat
def tw7273191664550878848:=Nat
def tw501476200339964741:=Nat
def tw5845031239219087616:=Nat
def tw5440411310489808524:=Nat
def tw13758033440288483591:=Nat
def tw6983623850398918723:=Nat
def tw18004767676154886550:=Nat
def tw8004887268326640220:=Nat
def tw517380931543658987:=Nat
def tw16041030697895374103:=Nat
def tw1559975456003926282:=Nat
def tw145733851020949024:=Nat
def tw6595733806075204726:=Nat
def tw2931621490874153112:=Nat
def tw17738163842855767490:=Nat
def tw16997849536770040440:=Nat
def tw4172922244473220189:=Nat
def tw16887597675382651618:=Nat
def tw17902680847159980930:=Nat
def tw3353696194814575023:=Nat
def tw17524374052156200978:=Nat
def tw17855195804999212379:=Nat
def tw11188522324879374243:=Nat
def tw13927601809942242864:=Nat
def tw17871197158361518935:=Nat
def tw6905232514841454891:=Nat
def tw6192089859030299656:=Nat
def tw4727481326385803420:=Nat
def tw6050969501070422242:=Nat
def tw1907495753928272451:=Nat
def tw13925335086406629222:=Nat
def tw6633697029387833428:=Nat
def tw9339266912060233101:=Nat
def tw13282762048236538836:=Nat
def tw12391171304784595122:=Nat
def tw12321857730412495419:=Nat
def tw4648797257144064316:=Nat
def tw11241718353301883238:=Nat
def tw13056325393483372542:=Nat
def tw87990701448211302:=Nat
def tw14090543081495529474:=Nat
def tw14953715957591140557:=Nat
def tw16591370761744502393:=Nat
def tw1128583881867898276:=Nat
def tw3903927131638709565:=Nat
def tw11097263830928659339:=Nat
def tw9860274177586839791:=Nat
def tw17686992690535948491:=Nat
def tw17397942792405098253:=Nat
def tw7327475320721852820:=Nat
def tw8390372077580880322:=Nat
def tw10233220989878515571:=Nat
def tw264284087169392414:=Nat
def tw1773204750237999298:=Nat
def tw9055120371474214800:=Nat
def tw17586439106801287056:=Nat
def tw10136385644380309750:=Nat
def tw5829951269764835666:=Nat
def tw611955490375645384:=Nat
def tw9772591358262049014:=Nat
def tw3984263900570761924:=Nat
def tw18122556574278293703:=Nat
def tw15003253496032227011:=Nat
def tw5267659177035597795:=Nat
def tw15214778053511138949:=Nat
def tw9983766511722464645:=Nat
def tw8204535157391223011:=Nat
def tw17779448033721092546:=Nat
def tw884306074718890602:=Nat
def tw3073705094329138297:=Nat
def tw18140706334902660451:=Nat
def tw8269092828820815096:=Nat
def tw9535569584106156005:=Nat
def tw2180429422083466678:=Nat
def tw18157970909879454707:=Nat
def tw13703569838378473947:=Nat
def tw6669593988988765458:=Nat
def tw6010122959204310630:=Nat
def tw10122071987721293689:=Nat
def tw15758491225053594293:=Nat
def tw738441180021130230:=Nat
def tw12858392293154090828:=Nat
def tw4490375881873949928:=Nat
def tw17827791169643193461:=Nat
def tw4948882094144988235:=Nat
def tw2928920082758000145:=Nat
def tw7274394807606399165:=Nat
def tw9303687743733771405:=Nat
def tw9897952694788805893:=Nat
def tw7425659675573158568:=Nat
def tw1576858458312142356:=Nat
def tw15455265103669896638:=Nat
def tw17460068173875999761:=Nat
def tw18117400017494260553:=Nat
def tw10063659046520225979:=Nat
def tw11986122566875191333:=Nat
def tw13921257966532808669:=Nat
def tw5568504922832854708:=Nat
def tw948784205036324186:=Nat
def tw12232978273627564844:=Nat
def tw14597977969160871360:=Nat
def tw13045392168549564746:=Nat
def tw15336380588191754527:=Nat
def tw5580751628022600161:=Nat
def tw18007111715181899670:=Nat
def tw4294622039920673823:=Nat
def tw16526761679308314801:=Nat
def tw14171179817748654166:=Nat
def tw16407707459866187283:=Nat
def tw10023488755454526660:=Nat
def tw17222069093638411936:=Nat
def tw7565586215113033962:=Nat
def tw6218865870599844686:=Nat
def tw7249560442053081122:=Nat
def tw17229628994073414223:=Nat
def tw16606884801166471141:=Nat
def tw16494619497973877475:=Nat
def tw3398184765686291900:=Nat
def tw14981930305143454507:=Nat
def tw18281547182736617847:=Nat
def tw6758541719636733291:=Nat
def tw17774057757536912810:=Nat
def tw6014524864842754153:=Nat
def tw13075930396907978426:=Nat
def tw4667318298992923381:=Nat
def tw4443687348341143151:=Nat
def tw8770280478321393534:=Nat
def tw1938780366719098355:=Nat
def tw16961457037745553920:=Nat
def tw10525015897320349543:=Nat
def tw10509828817821820577:=Nat
def tw9279062050790150969:=Nat
def tw14077167945195443401:=Nat
def tw4674735971151075069:=Nat
def tw15271120959692504352:=Nat
def tw14477007819963393344:=Nat
def tw10221426636420201497:=Nat
def tw12118440438700201558:=Nat
def tw998794778567567850:=Nat
def tw18312563122880968685:=Nat
def tw10461725767923714214:=Nat
def tw5536048165960106621:=Nat
def tw176090172337139307:=Nat
def tw485697205323135130:=Nat
def tw706209773786352212:=Nat
def tw16615557350666848809:=Nat
def tw14514713660928388123:=Nat
def tw11485941094312605679:=Nat
def tw1975676626247483652:=Nat
def tw10376481306079583521:=Nat
def tw8497183993816673130:=Nat
def tw6374663585224469201:=Nat
def tw13824173113980452675:=Nat
def tw5580561457174145550:=Nat
def tw9121501052168188896:=Nat
def tw793508413122661904:=Nat
def tw13394276487790616146:=Nat
def tw14114763307607931427:=Nat
def tw11338329256650318909:=Nat
def tw992692285242359585:=Nat
def tw16726224722160900116:=Nat
def tw9211569616873125396:=Nat
def tw11289058701665422773:=Nat
def tw629742621029479148:=Nat
def tw3709478364861942911:=Nat
def tw1228747535109279644:=Nat
def tw18286121420406043847:=Nat
def tw14104263675232525591:=Nat
def tw16922006467711855423:=Nat
def tw4769119367198347349:=Nat
def tw11920102578039007349:=Nat
def tw9603954001783461757:=Nat
def tw4307963055822637201:=Nat
def tw5258712148801887640:=Nat
def tw14567485852957157916:=Nat
def tw3193341807778603470:=Nat
def tw14128975726754272298:=Nat
def tw5803530517549099995:=Nat
def tw15316040706620282495:=Nat
def tw12420800955069606459:=Nat
def tw14517568626742112980:=Nat
def tw10177689163069262463:=Nat
def tw12914529879013966700:=Nat
def tw17276627963901339364:=Nat
def tw11538202417453160054:=Nat
def tw13543584031224057383:=Nat
def tw15019983743973781307:=Nat
def tw15841115921574161991:=Nat
def tw2963736852879174975:=Nat
def tw10205878801179470225:=Nat
def tw2757132908443889565:=Nat
def tw10973835458772168944:=Nat
def tw11270263807210977597:=Nat
def tw2077835391562661516:=Nat
def tw10626571283283493216:=Nat
def tw2077192347020244086:=Nat
def tw5365561831816307747:=Nat
def tw9716232089547567511:=Nat
def tw1779594758340067331:=Nat
def tw1681123789921120258:=Nat
def tw16120479733864870996:=Nat
def tw8159502697967553885:=Nat
def tw16372289750883352882:=Nat
def tw9544612135764908682:=Nat
def tw8151330910637118069:=Nat
def tw944157569445773591:=Nat
def tw1289990825023005612:=Nat
def tw15026012098519049058:=Nat
def tw16670977590699539817:=Nat
def tw17472334847618451367:=Nat
def tw12667888881245129818:=Nat
def tw7872846524438074941:=Nat
def tw11228683872462435547:=Nat
def tw7967964928360219747:=Nat
def tw10158187246124807274:=Nat
def tw18168579347022322084:=Nat
def tw17580976670128821500:=Nat
def tw11821354930623015255:=Nat
def tw3802740462647185077:=Nat
def tw13983409428331043797:=Nat
def tw8712560530883441248:=Nat
def tw7968056257026379771:=Nat
def tw14157621837230835484:=Nat
def tw14661087841035473676:=Nat
def tw7487886027415494867:=Nat
def tw8127082421023691504:=Nat
def tw17310493781978952186:=Nat
def tw11330414020345720416:=Nat
def tw2671520606845976253:=Nat
def tw15784900462417912489:=Nat
def tw2043155704942099770:=Nat
def tw13170738386527562382:=Nat
def tw6959834868329188658:=Nat
def tw9437220823288621711:=Nat
def tw9310997352013539360:=Nat
def tw1778207243051854829:=Nat
def tw11609540248069543688:=Nat
def tw838729987816425483:=Nat
def tw7326540285337731733:=Nat
def tw17022003587969559732:=Nat
def tw7233032423030803226:=Nat
def tw15793282929510540399:=Nat
def tw5824661989308140755:=Nat
def tw12822170761085882089:=Nat
def tw2788480326482002703:=Nat
def tw3266136107515111137:=Nat
def tw9714428473380927427:=Nat
def tw4499086302399405116:=Nat
def tw14151762431096513713:=Nat
def tw3812135336155020476:=Nat
def tw6564069667698186679:=Nat
def tw17260357788156785270:=Nat
def tw9800570843256891284:=Nat
def tw5134709184858924090:=Nat
def tw11917489102048614730:=Nat
def tw11265946338100014782:=Nat
def tw8310974408327351479:=Nat
def tw17565136972361318005:=Nat
def tw10114501399092851391:=Nat
def tw4726707645632416665:=Nat
def tw10564862396585384797:=Nat
def tw8831113849622685736:=Nat
def tw8761008034849509539:=Nat
def tw6488746375347809338:=Nat
def tw9355485265696654599:=Nat
def tw16118538581087073865:=Nat
def tw16047224858471507777:=Nat
def tw3471933928313982397:=Nat
def tw7779478804828065254:=Nat
def tw15295246711508754925:=Nat
def tw6214488775031973883:=Nat
def tw15408849294726334449:=Nat
def tw9465144106488146239:=Nat
def tw3133663180838612402:=Nat
def tw3712682170931273823:=Nat
def tw10999882994845424310:=Nat
def tw979254716232269844:=Nat
def tw3972065866236449678:=Nat
def tw184987803746850215:=Nat
def tw16123357551354231420:=Nat
def tw5998613840448071475:=Nat
def tw2754515293138458083:=Nat
def tw1938225044079201943:=Nat
def tw3672290220811514713:=Nat
def tw3877653634675204861:=Nat
def tw2150298828601842982:=Nat
def tw14029946117306980412:=Nat
def tw4549500798230320377:=Nat
def tw3587680216236804133:=Nat
def tw12691599852085770662:=Nat
def tw15291361578670912997:=Nat
def tw8403431195709034982:=Nat
def tw7858795546367082466:=Nat
def tw5272700216116425826:=Nat
def tw11377134593119670134:=Nat
def tw9301952179357742350:=Nat
def tw1170646710252129963:=Nat
def tw5178793707951052359:=Nat
def tw12466340134388979526:=Nat
def tw11307234995201996022:=Nat
def tw12992788959958290912:=Nat
def tw13684773678053666790:=Nat
def tw17662454499959741399:=Nat
def tw16728681140580092534:=Nat
def tw3084927720913920727:=Nat
def tw11595809684623789492:=Nat
def tw5903625940251713015:=Nat
def tw14385740427864146093:=Nat
def tw16973856392514565269:=Nat
def tw16242218438049829338:=Nat
def tw13194089317933557235:=Nat
def tw18286715915010351414:=Nat
def tw17704885280488725628:=Nat
def tw18150580299683733708:=Nat
def tw17670717898465393975:=Nat
def tw801318979930967854:=Nat
def tw15624767428990705879:=Nat
def tw18308017205833392125:=Nat
def tw4420750097789670628:=Nat
def tw2816351445984462205:=Nat
def tw17200623240436032367:=Nat
def tw4787475926873789029:=Nat
def tw8395266417078629780:=Nat
def tw3796336959304371098:=Nat
def tw14068830578955988780:=Nat
def tw8365810283384148939:=Nat
def tw15742832847560716313:=Nat
def tw6215382636442862988:=Nat
def tw5411748213867362155:=Nat
def tw15574280084924471843:=Nat
def tw14870763500185870628:=Nat
def tw10562009404212796479:=Nat
def tw16122108132880402444:=Nat
def tw12122114719492758192:=Nat
def tw5391251873385831420:=Nat
def tw4924232912414532090:=Nat
def tw6378366879169551738:=Nat
def tw4764087800498779833:=Nat
end PySem.W.Fast
open PySem PySem.W PyProof.Rows
local macro_rules | `(tactic| walk_at "d") => `(tactic| first | exact D9.Nw (by k_is) (by k_is) (by k_is) (by k_is) | (refine' D9.Nw ?a ?l ?c ?k; (case a => k_is); (case l => k_is); (case c => k_is); (case k => k_is)))
local macro_rules | `(tactic| walk_at "x") => `(tactic| (refine' D9.W6 ?a ?b ?c ?d ?e ?f ?g; (case a => k_is); (case b => k_is); (case c => k_is); (case d => k_is); (case e => k_is); (case f => k_is); (case g => k_is)))
local macro_rules | `(tactic| walk_at "m") => `(tactic| first | exact D9.Nx (by k_is) (by k_is) (by k_is) (by k_is) (by k_is) | (refine' D9.Nx ?a ?i ?l ?c ?k; (case a => k_is); (case i => k_is); (case l => k_is); (case c => k_is); (case k => k_is)))
set_option maxRecDepth 100000 in
set_option maxHeartbeats 0 in
theorem PySem.Challenge.cw_cutrestore_k25_letters_events_holds : PySem.Challenge.rw_cutrestore_k25_letters_events.Holds := by
 w_on;o_law;k_head;(case hw=>w_witness2)
 k_fill
 refine D9.walk (l:=PySem.Challenge.rw_cutrestore_k25_letters_events) rfl rfl (λw h Y=>W.kIn_of Y) ?F
 case F=>
  intro w mg fa h KX G Te;refine' D9.all_mk KX G Te ?aB ?Q3 ?DN ?LM ?cG ?oh ?LN ?LO ?sI ?kT ?lG ?kU ?kW ?mR ?kX ?kY ?mS ?ji ?pK ?pL ?pM ?mT ?kZ ?mU ?pN ?pO ?iG ?pP ?jj ?gw ?pQ ?k6 ?sJ ?j4 ?IE ?iH ?k7 ?j5 ?mV ?mW ?iI ?fW ?mX ?jk ?gU ?jl ?gV ?j6 ?iJ ?mY ?gy ?j7 ?mZ ?k8 ?jm ?m7 ?gz ?iK ?m9 ?jo ?jq ?iL ?gW ?gA ?fq ?k9 ?jr ?nc ?eD ?js ?IF ?IG ?pR ?pS ?pT ?pU ?pV ?pW ?CW ?CY ?Mx ?PD ?My ?IH ?II ?IJ ?IK ?IL ?IM ?GQ ?GR ?xD ?xE ?zI ?IP ?IQ ?IS ?IT ?IU ?IV ?GS ?GU ?cU ?dz ?cm ?dW ?cP ?bL ?eR ?cV ?vI ?nM ?j8 ?IW ?Az ?IX ?wc ?AA ?IY ?wd ?IZ ?Ja ?Jb ?Jc ?Jd ?lg ?j9 ?dS ?dH ?dI ?ff ?df ?fu ?dJ ?dU ?aF ?lF ?neF ?lP0 ?lP1 ?lP2 ?lP3 ?lP4 ?lP5 ?lP6 ?lP7 ?YK ?LI ?Nu
  (case aB|Q3=>k_is)
  (case DN|LM=>walk_at "x")
  (case cG|oh|LN|LO=>k_is)
  (case sI|kT|lG|kU|kW|mR|kX|kY|mS|ji|pK|pL|pM|mT|kZ|mU|pN|pO|iG|pP|jj|gw=>walk_at "d")
  (case pQ=>walk_at "m")
  (case k6|sJ|j4=>walk_at "d")
  (case IE=>walk_at "m")
  (case iH|k7|j5|mV=>walk_at "d")
  (case mW|iI|fW|mX|jk|gU=>walk_at "m")
  (case jl|gV|j6=>walk_at "d")
  (case iJ=>walk_at "m")
  (case mY|gy|j7|mZ|k8|jm|m7=>walk_at "d")
  (case gz|iK|m9|jo|jq|iL|gW|gA|fq|k9|jr|nc|eD|js|IF=>walk_at "m")
  (case IG=>walk_at "d")
  (case pR|pS|pT|pU|pV|pW|CW|CY|Mx|PD|My|IH|II|IJ|IK|IL|IM|GQ|GR|xD|xE|zI|IP|IQ|IS|IT|IU|IV|GS|GU|cU|dz|cm|dW|cP|bL|eR|cV|vI|nM|j8|IW|Az|IX|wc|AA|IY|wd|IZ|Ja|Jb|Jc|Jd|lg|j9|dS|dH|dI|ff|df|fu|dJ|dU|aF|lF=>k_is)
  (case neF=>first|rfl|decide)
  (case lP0|lP1|lP2|lP3|lP4|lP5|lP6|lP7=>k_is)
  (case YK|LI|Nu=>decide +kernel)
