import PyProof.Rows.All
import Wide.All
import OpenK.AllK
import Wide.FinOn
import Lean
import PyProof.EqAt
import PyProof.EqKinds
import PyProof.TupleCall
import PyProof.NeKinds
import PyProof.Rows.Range3
import KE.KIsAll
import PyProof.ExcClass3
import PyProof.InstStoreFacts
import PyProof.ExcArgsOwn
import PyProof.ExcBaseAll.ValueError
import PyProof.ExcAttrAll.ValueError
import PyProof.Draws
import PyProof.ZipIter
import PyProof.SumWalk
import PyProof.Rows.FactsT2
import PyProof.EnumMake
import PyProof.Rows.EnumRows
import KE.KTab
import PyProof.StationsW
import PyProof.RulesAs
import PyProof.NsDelKeeps
import PyProof.PassesOwn
import PyProof.Rows.ListMulArg
import PyProof.StrWalks
import PyProof.MeetsStr
import PyProof.MeetsStr2
import PyProof.StrBlockL
import PyProof.SliceStr2
import PyProof.StrLawsIdx
import PyProof.FitsStr
import PyProof.StrLaws
import PyProof.Rows.FStr
import KE.KIntText
import PyProof.StrLawsTight
import PyProof.Rows.StrIntSpec
import PyProof.Rows.CountFlat
import PyProof.Rows.SeqMore2
import PyProof.SeqRoads
import PyProof.StrLawsAffix
import PyProof.InstEq
import PySem.Challenge.RW_cutrestore_k21_nets_made_and_refused
set_option compiler.extract_closed false
set_option Elab.async false
set_option linter.all false
set_option maxRecDepth 100000
set_option hygiene false
local macro_rules | `(tactic| grind) => `(tactic| first | exact Or.inl rfl | exact Or.inr rfl)
local macro_rules | `(tactic| symm) => `(tactic| refine D.ok sc (λvs H Q E h => ?_) (λf cy A outer s H vs Q E hr h => ?_))
local macro_rules
 | `(tactic| walk_at "xc") => `(tactic| (refine ⟨?_⟩; intro pins s σ H Q I h))
 | `(tactic| walk_at "xd") => `(tactic| (refine ⟨?_⟩; intro pins s σ H D I h))
set_option hygiene true
abbrev Jn:= @PySem.F.excBase_ValueError
abbrev Kh:= @PySem.F.attrBase_ValueError
abbrev lJ:= @PyProof.Rows.boot_isinstance
abbrev tV:= @PySem.F.plainAttrs_list
abbrev zK:= @PySem.F.slot_list_append
abbrev zL:= @PySem.F.type_list_append
abbrev vN:= @PyProof.Rows.boot_tuple
abbrev tW:= @PyProof.Rows.boot_list
abbrev CV:= @PyProof.Rows.boot_all
namespace L2
open PySem PySem.Spec PyProof.Rows
section
theorem dI {α:Type _}{l:List α}{i:Nat}(h:i < l.length):l[i]?=some l[i]:=List.getElem?_eq_getElem h
abbrev Key:=Sum Int Str
def mf:Key->Value->Bool
 | .inl k,v=>Value.isInt k v
 | .inr x,v=>Value.isStrOf x v
def Ki (w:World):Key->Int
 | .inl k=>hashInt k
 | .inr x=>hashStr w x
theorem bQ:∀{k:Key} {v:Value},mf k v=true->(∃i t,k=Sum.inl i/\v=Value.int i t)\/(∃x t,k=Sum.inr x/\v=Value.str x t)
 | .inl i,v,h=>by
  obtain⟨t,e⟩:=Value.isInt_shape (k:=i) (v:=v) h
  exact .inl ⟨i,t,rfl,e⟩
 | .inr x,v,h=>by
  obtain⟨t,e⟩:=Value.isStrOf_shape (x:=x) (v:=v) h
  exact .inr ⟨x,t,rfl,e⟩
theorem tX (i:Int)(t:Tok):mf (.inl i) (.int i t)=true:=by simp[mf,Value.isInt]
theorem tY (x:Str)(t:Tok):mf (.inr x) (.str x t)=true:=by simp[mf,Value.isStrOf]
theorem CW (a b:Int):decide ((Sum.inl a:Key)=Sum.inl b)=(a == b):=by
 by_cases e:a=b
 ·subst e;simp
 ·have h:¬(Sum.inl a:Key)=Sum.inl b:=λq=>e (Sum.inl.inj q)
  rw[decide_eq_false h]
  exact(beq_eq_false_iff_ne.mpr e).symm
theorem CY (a b:Str):decide ((Sum.inr a:Key)=Sum.inr b)=decide (a=b):=by
 by_cases e:a=b
 ·subst e;simp
 ·have h:¬(Sum.inr a:Key)=Sum.inr b:=λq=>e (Sum.inr.inj q)
  rw[decide_eq_false h,decide_eq_false e]
theorem CZ (a:Int)(b:Str):decide ((Sum.inl a:Key)=Sum.inr b)=false:=decide_eq_false (λq=>nomatch q)
theorem Dc (a:Str)(b:Int):decide ((Sum.inr a:Key)=Sum.inl b)=false:=decide_eq_false (λq=>nomatch q)
def cW (prog:Program)(w:World):PySem.KeyKind prog w Key where
 is:=mf
 hash:=Ki w
 inj:=λv a b ha hb=>by
  rcases bQ ha with⟨i,t,rfl,rfl⟩ | ⟨x,t,rfl,rfl⟩
  ·rcases bQ hb with⟨j,u,rfl,e⟩ | ⟨y,u,rfl,e⟩
   ·injection e with e1 _;rw[e1]
   ·exact nomatch e
  ·rcases bQ hb with⟨j,u,rfl,e⟩ | ⟨y,u,rfl,e⟩
   ·exact nomatch e
   ·injection e with e1 _;rw[e1]
 byValue:=λk v h=>by
  rcases bQ h with⟨i,t,rfl,rfl⟩ | ⟨x,t,rfl,rfl⟩ <;> rfl
 pyHash:=λhv h=>by
  rcases bQ hv with⟨i,t,rfl,rfl⟩ | ⟨x,t,rfl,rfl⟩
  ·exact wpAny_pyHash_int h
  ·exact wpAny_pyHash_str h
 eqBool:=λhu hv h=>by
  rcases bQ hu with⟨i,t,rfl,rfl⟩ | ⟨x,t,rfl,rfl⟩
  ·rcases bQ hv with⟨j,u,rfl,rfl⟩ | ⟨y,u,rfl,rfl⟩
   ·rw[CW] at h;exact wpAny_eqBool_int h
   ·rw[CZ] at h;exact SeqAt.EqAt.int_str i t y u _ _ _ _ h
  ·rcases bQ hv with⟨j,u,rfl,rfl⟩ | ⟨y,u,rfl,rfl⟩
   ·rw[Dc] at h;exact SeqAt.EqAt.str_int x t j u _ _ _ _ h
   ·rw[CY] at h;exact wpAny_eqBool_str h
 «strs»:=λk x t v h=>by
  rcases bQ h with⟨i,u,rfl,e⟩ | ⟨y,u,rfl,e⟩
  ·exact nomatch e
  ·injection e with e1 _
   subst e1
   cases v <;> rfl
theorem om (prog:Program)(w:World)(i:Int)(t:Tok):(cW prog w).is (.inl i) (.int i t)=true:=tX i t
theorem oo (prog:Program)(w:World)(x:Str)(t:Tok):(cW prog w).is (.inr x) (.str x t)=true:=tY x t
end
section
variable {a b:Addr}{o:HO}{H:Hp}
inductive V where
 | bb | bl (b:Bool) | int (i:Int) | str (x:Str) | qd (b:Array UInt8) | By (b:UInt64) | ref (a:Addr) | ty (n:String)
 deriving DecidableEq
def RelV:V->Value->Prop
 | .bb,u=>u=Value.none
 | .bl b,u=>u=Value.bool b
 | .int i,u=>∃t,u=Value.int i t
 | .str x,u=>∃t,u=Value.str x t
 | .qd b,u=>∃t,u=Value.bytes b t
 | .By b,u=>∃t,u=Value.float b t
 | .ref a,u=>u=Value.ref a
 | .ty n,u=>u=Value.type n
abbrev Vals:List V->List Value->Prop:=Paired RelV
theorem Vals.length{xs:List V}{us:List Value}(r:Vals xs us):xs.length=us.length:=Paired.length r
theorem Vals.get:∀{xs:List V} {us:List Value} {i:Nat} {x:V},Vals xs us->xs[i]?=some x->∃u,us[i]?=some u/\RelV x u
 | _,_,_,_,.nil,e=>by simp at e
 | _,_,0,_,.cons r _,e=>by simp at e;subst e;exact⟨_,rfl,r⟩
 | _,_,i + 1,x,.cons _ t,e=>by
  obtain⟨u,h1,h2⟩:=Vals.get (i:=i) (x:=x) t (by simpa using e)
  exact⟨u,by simpa using h1,h2⟩
theorem Vals.set{x:V}{u:Value}(r:RelV x u):∀{xs:List V} {us:List Value} (i:Nat),Vals xs us->Vals (xs.set i x) (us.set i u)
 | _,_,_,.nil=>.nil
 | _,_,0,.cons _ t=>.cons r t
 | _,_,i + 1,.cons q t=>.cons q (Vals.set r i t)
theorem Vals.append:∀{xs ys:List V} {us ws:List Value},Vals xs us->Vals ys ws->Vals (xs++ys) (us++ws)
 | _,_,_,_,.nil,s=>s
 | _,_,_,_,.cons r t,s=>.cons r (Vals.append t s)
theorem Vals.take:∀{xs:List V} {us:List Value} (n:Nat),Vals xs us->Vals (xs.take n) (us.take n)
 | _,_,0,_=>.nil
 | _,_,_ + 1,.nil=>.nil
 | _,_,n + 1,.cons r t=>.cons r (Vals.take n t)
theorem Vals.drop:∀{xs:List V} {us:List Value} (n:Nat),Vals xs us->Vals (xs.drop n) (us.drop n)
 | _,_,0,r=>r
 | _,_,_ + 1,.nil=>.nil
 | _,_,n + 1,.cons _ t=>Vals.drop n t
def gS:Option V->Option Value->Prop
 | some v,some u=>RelV v u
 | none,none=>True
 | _,_=>False
def KV {κ:Type}:List (κ×V)->List (κ×Value)->Prop:=Paired λ(p:κ×V) (q:κ×Value)=>p.1=q.1/\RelV p.2 q.2
def kV:Key->V
 | .inl i=>.int i
 | .inr x=>.str x
inductive HO where
 | lst (xs:List V)
 | tup (xs:List V)
 | dK (bD:List (Key×V)) | dT (bD:List (List Key×V))
 | set (S:Int->Bool) (n:Nat)
 | ins (C dx:Addr) (fs:List (Str×V))
 | own (x:Addr)
 | xd (fs:List (Str×V))
 | met (f x:Addr)
 | Kj (lo hi:Int)
 | qf (o:Obj) (u:HO)
 | Dd (ps:Array Value)
 | ext (φ:Heap->Prop)
abbrev Hp:=Addr->Option HO
def upd (H:Hp)(a:Addr)(o:HO):Hp:=λb=>if b=a then some o else H b
theorem ag:upd H a o a=some o:=by unfold upd;rw[if_pos rfl]
theorem ay (h:b≠a):upd H a o b=H b:=by unfold upd;rw[if_neg h]
theorem ko {u:HO}:upd (upd H a o) a u=upd H a u:=by
 funext b;unfold upd;split <;> rfl
theorem ao (h:H a=some o)(h':H b=none):a≠b:=by
 intro e;subst e;rw[h] at h';cases h'
section
variable (P:Program)(w:World)
def bH (H:Hp)(h:Heap)(a:Addr):HO->Prop
 | .lst xs=>xs.length<=sizeLine/\∃(aE:List Value) (n:Nat),Vals xs aE/\h.get? a=some {cls:=.type "list",data:=.seq aE.toArray n}
 | .tup xs=>xs.length<=sizeLine/\∃aE:List Value,Vals xs aE/\IsTup h a aE.toArray
 | .dK bD=>bD.length<=sizeLine/\(a == sysModules)=false/\∃vs,KV bD vs/\h.DictOf (cW P w) a vs
 | .dT bD=>bD.length<=sizeLine/\(a == sysModules)=false/\∃xs:List (List Key×Addr×Value),
   Paired (λ(p:List Key×V) (q:List Key×Addr×Value)=>p.1=q.1/\H q.2.1=some (.tup (p.1.map kV))/\RelV p.2 q.2.2) bD xs/\
   ∃o es ep,h.get? a=some o/\o.ExactDict/\o.data=.dict es ep/\es.toList=xs.map (entryOfKey (tupleKind (cW P w)))/\(xs.map (·.1)).Nodup
 | .set S n=>h.SetOf (intKind P w) a S n
 | .ins C dx fs=>H dx=some (.own a)/\fs.length<=1000/\dx≠a/\h.get? a=some (W.instObj C dx)/\
   ∃mA,h.Ns1 dx mA/\(∀f,gS (fs.lookup f) (mA f))/\PySem.Within mA (fs.map (·.1))
 | .own _=>∃o,h.get? a=some o
 | .xd fs=>∃mA,h.Ns1 a mA/\∀f,gS (fs.lookup f) (mA f)
 | .Kj lo hi=>∃t u v,h.get? a=some {cls:=.type "range",data:=.fields #[.int lo t,.int hi u,.int 1 v]}
 | .qf o u=>h.get? a=some o/\bH H h a u
 | .Dd ps=>h.get? a=some {cls:=.none,data:=.fields ps}
 | .met f x=>h.get? a=some (W.methodObj (.ref f) (.ref x))
 | .ext φ=>φ h/\(∃o,h.get? a=some o)/\∀h1 h2:Heap,φ h1->(∀o,h1.get? a=some o->h2.get? a=some o)->φ h2
def iy (H:Hp)(h:Heap):Prop:=∀a o,H a=some o->bH P w H h a o
end
section
variable {P:Program}{w:World}{H H':Hp}{h h':Heap}{a:Addr}{o:HO}
theorem bH.lt(x:bH P w H h a o):a < h.objs.size:=by
 cases o with
 | lst xs=>obtain⟨_,_,_,_,e⟩:=x;exact Heap.lt_size e
 | tup xs=>obtain⟨_,_,_,p⟩:=x;exact p.lt
 | dK bD=>obtain⟨_,_,_,_,o,_,_,e,_⟩:=x;exact Heap.lt_size e
 | dT bD=>obtain⟨_,_,_,_,o,_,_,e,_⟩:=x;exact Heap.lt_size e
 | set S n=>obtain⟨o,_,_,_,e,_⟩:=x;exact Heap.lt_size e
 | ins C dx fs=>obtain⟨_,_,_,e,_⟩:=x;exact Heap.lt_size e
 | own y=>obtain⟨_,e⟩:=x;exact Heap.lt_size e
 | xd fs=>obtain⟨_,⟨_,_,_,e,_⟩,_⟩:=x;exact Heap.lt_size e
 | Kj lo hi=>obtain⟨_,_,_,e⟩:=x;exact Heap.lt_size e
 | qf ob u=>obtain⟨e,_⟩:=x;exact Heap.lt_size e
 | Dd ps=>exact Heap.lt_size (show h.get? a=some _ from x)
 | met f y=>exact Heap.lt_size (show h.get? a=some _ from x)
 | ext φ=>obtain⟨_,⟨_,e⟩,_⟩:=x;exact Heap.lt_size e
theorem Paired.Gz{α β:Type}{F G:α->β->Prop}:∀{l₁:List α} {l₂:List β},Paired F l₁ l₂->(∀a b,F a b->G a b)->Paired G l₁ l₂
 | _,_,.nil,_=>.nil
 | _,_,.cons r t,f=>.cons (f _ _ r) (Paired.Gz t f)
theorem bH.aY(x:bH P w H h a o)(k:∀b u,(b=a\/H b=some (.own a))->h.get? b=some u->h'.get? b=some u)
  (ho:∀b,H b=some (.own a)->H' b=some (.own a)) (ht:∀b xs,H b=some (.tup xs)->H' b=some (.tup xs)):bH P w H' h' a o:=by
 induction o with
 | lst xs=>obtain⟨z,aE,n,r,e⟩:=x;exact⟨z,aE,n,r,k _ _ (.inl rfl) e⟩
 | tup xs=>obtain⟨z,aE,r,ob,e,c⟩:=x;exact⟨z,aE,r,ob,k _ _ (.inl rfl) e,c⟩
 | dK bD=>obtain⟨z,y,vs,r,ob,es,ep,e,c⟩:=x;exact⟨z,y,vs,r,ob,es,ep,k _ _ (.inl rfl) e,c⟩
 | dT bD=>
  obtain⟨z,y,xs,r,ob,es,ep,e,c⟩:=x
  exact⟨z,y,xs,Paired.Gz r λp q z=>⟨z.1,ht _ _ z.2.1,z.2.2⟩,ob,es,ep,k _ _ (.inl rfl) e,c⟩
 | set S n=>obtain⟨ob,es,ep,t,e,c⟩:=x;exact⟨ob,es,ep,t,k _ _ (.inl rfl) e,c⟩
 | ins C dx fs=>
  obtain⟨d,z,ne,e,mA,⟨od,es,ep,e2,c⟩,r⟩:=x
  exact⟨ho _ d,z,ne,k _ _ (.inl rfl) e,mA,⟨od,es,ep,k _ _ (.inr d) e2,c⟩,r⟩
 | own y=>obtain⟨ob,e⟩:=x;exact⟨ob,k _ _ (.inl rfl) e⟩
 | xd fs=>obtain⟨mA,⟨od,es,ep,e,c⟩,r⟩:=x;exact⟨mA,⟨od,es,ep,k _ _ (.inl rfl) e,c⟩,r⟩
 | Kj lo hi=>obtain⟨t,u,v,e⟩:=x;exact⟨t,u,v,k _ _ (.inl rfl) e⟩
 | qf ob u ih=>obtain⟨e,q⟩:=x;exact⟨k _ _ (.inl rfl) e,ih q⟩
 | Dd ps=>
  have e:h.get? a=some {cls:=.none,data:=.fields ps}:=x
  show h'.get? a=some {cls:=.none,data:=.fields ps}
  exact k a _ (.inl rfl) e
 | met f y=>
  have e:h.get? a=some (W.methodObj (.ref f) (.ref y)):=x
  show h'.get? a=some (W.methodObj (.ref f) (.ref y))
  exact k a _ (.inl rfl) e
 | ext φ=>obtain⟨p,⟨o,e⟩,st⟩:=x;exact⟨st _ _ p λo q=>k _ _ (.inl rfl) q,⟨o,k _ _ (.inl rfl) e⟩,st⟩
theorem iy.lt(x:iy P w H h)(e:H a=some o):a < h.objs.size:=(x a o e).lt
theorem iy.fresh(x:iy P w H h)(e:h.objs.size<=a):H a=none:=by
 cases q:H a with
 | none=>rfl
 | some u=>exact absurd (Nat.lt_of_lt_of_le (x.lt q) e) (Nat.lt_irrefl _)
theorem iy.kept(x:iy P w H h)(k:∀b u,h.get? b=some u->h'.get? b=some u):iy P w H h':=λa o e=>
 (x a o e).aY (λb u _ q=>k b u q) (λ_ q=>q) λ_ _ q=>q
theorem iy.laid(x:iy P w H h)(k:∀b u,h.get? b=some u->h'.get? b=some u)(hp:h.objs.size<=a)(new:bH P w (upd H a o) h' a o):iy P w (upd H a o) h':=λb u e=>by
 have hn:=x.fresh hp
 by_cases hb:b=a
 ·subst hb;rw[ag] at e;cases e;exact new
 ·rw[ay hb] at e
  exact(x b u e).aY (λc v _ q=>k c v q) (λc q=>by rw[ay (ao q hn)];exact q) λc xs q=>by rw[ay (ao q hn)];exact q
end
def Rd (H:Hp)(a:Addr)(u:HO):Prop:=H a=some u\/∃o,H a=some (.qf o u)
theorem Rd.ok{P:Program}{w:World}{h:Heap}{u:HO}(r:Rd H a u)(x:iy P w H h):bH P w H h a u:=by
 rcases r with r | ⟨o,r⟩
 ·exact x a u r
 ·obtain⟨_,q⟩:=x a _ r
  exact q
def Jo:Option HO->Prop
 | some (.lst _)=>True
 | some (.dK _)=>True
 | some (.dT _)=>True
 | some (.set _ _)=>True
 | some (.ins _ _ _)=>True
 | some (.ext _)=>True
 | _=>False
section
variable {P:Program}{w:World}{H:Hp}{h h':Heap}{x e:Addr}{o':HO}
theorem iy.write(ok:iy P w H h)(mu:Jo (H x))(he:e=x\/H e=some (.own x))(k:∀b u,b≠e->h.get? b=some u->h'.get? b=some u)(FH:∃u,h'.get? e=some u)
  (new:bH P w (upd H x o') h' x o'):iy P w (upd H x o') h':=λb u q=>by
 have GB:∀c y,H c=some (.own y)->c≠x:=λc y r z=>by subst z;rw[r] at mu;exact mu
 have Kk:∀c xs,H c=some (.tup xs)->c≠x:=λc xs r z=>by subst z;rw[r] at mu;exact mu
 by_cases hb:b=x
 ·subst hb;rw[ag] at q;cases q;exact new
 ·rw[ay hb] at q
  by_cases z0:b=e
  ·have q':H b=some (.own x):=by
    rcases he with z | z
    ·exact absurd (z0.trans z) hb
    ·rw[z0];exact z
   rw[q] at q';cases q'
   obtain⟨v,hv⟩:=FH
   exact⟨v,by rw[z0];exact hv⟩
  ·refine(ok b u q).aY (λc v hc r=>k c v ?_ r) (λc r=>by rw[ay (GB c b r)];exact r) λc xs r=>by rw[ay (Kk c xs r)];exact r
   rcases hc with rfl | hc
   ·exact z0
   ·rintro rfl
    rcases he with z | z
    ·exact GB c b hc z
    ·rw[hc] at z;cases z;exact hb rfl
end
structure Un (fs ex:List Addr)(H H':Hp)(h h':Heap):Prop where
 keep:∀b o,h.get? b=some o->H b=none->b ∉ fs->b ∉ ex->h'.get? b=some o
 slot:∀b o,h.get? b=some o->H b=none->b ∈ fs->b ∉ ex->∃sl,h'.get? b=some {o with slots:=sl}
 free:∀b o,h.get? b=some o->H b=none->b ∉ ex->H' b=none
 there:∀b o,h.get? b=some o->b ∉ ex->∃o',h'.get? b=some o'
 aZ:∀b xs,H b=some (.tup xs)->H' b=some (.tup xs)
 i3:∀b o u,H b=some (.qf o u)->H' b=some (.qf o u)
 j5:∀b ps,H b=some (.Dd ps)->∃more,H' b=some (.Dd (ps++more))
section
variable {fs PN ex TC:List Addr}{H H1 H2:Hp}{h h1 h2 h':Heap}{a x e:Addr}{o:HO}
theorem Un.any(u:Un fs ex H H1 h h1){b:Addr}{ob:Obj}(q:h.get? b=some ob)(n:H b=none)(hx:b ∉ ex):∃sl,h1.get? b=some {ob with slots:=sl}:=by
 by_cases hb:b ∈ fs
 ·exact u.slot b ob q n hb hx
 ·exact⟨ob.slots,u.keep b ob q n hb hx⟩
theorem Un.trans(a:Un fs ex H H1 h h1)(b:Un fs ex H1 H2 h1 h2):Un fs ex H H2 h h2 where
 keep:=λc ob q n hc hx=>b.keep c ob (a.keep c ob q n hc hx) (a.free c ob q n hx) hc hx
 slot:=λc ob q n hc hx=>by
  obtain⟨sl,e1⟩:=a.slot c ob q n hc hx
  obtain⟨Kl,e2⟩:=b.slot c _ e1 (a.free c ob q n hx) hc hx
  exact⟨Kl,e2⟩
 free:=λc ob q n hx=>by
  obtain⟨o',e1⟩:=a.there c ob q hx
  exact b.free c o' e1 (a.free c ob q n hx) hx
 there:=λc ob q hx=>by
  obtain⟨o',e1⟩:=a.there c ob q hx
  exact b.there c o' e1 hx
 aZ:=λc xs q=>b.aZ c xs (a.aZ c xs q)
 i3:=λc ob xs q=>b.i3 c ob xs (a.i3 c ob xs q)
 j5:=λc ps q=>by
  obtain⟨m1,e1⟩:=a.j5 c ps q
  obtain⟨m2,e2⟩:=b.j5 c _ e1
  exact⟨m1++m2,by rw[e2,Array.append_assoc]⟩
theorem Un.kept(k:∀b u,h.get? b=some u->h'.get? b=some u):Un fs ex H H h h':=
 ⟨λb ob q _ _ _=>k b ob q,λb ob q _ _ _=>⟨ob.slots,k b ob q⟩,λ_ _ _ n _=>n,λb ob q _=>⟨ob,k b ob q⟩,λ_ _ q=>q,λ_ _ _ q=>q,λ_ ps q=>⟨#[],by rw[q];simp⟩⟩
theorem Un.refl:Un fs ex H H h h:=Un.kept λ_ _ q=>q
theorem Un.laid(k:∀b u,h.get? b=some u->h'.get? b=some u)(hp:h.objs.size<=a)(hn:H a=none):Un fs ex H (upd H a o) h h' where
 keep:=λb u q _ _ _=>k b u q
 slot:=λb u q _ _ _=>⟨u.slots,k b u q⟩
 free:=λb u q n _=>by rw[ay (Nat.ne_of_lt (Nat.lt_of_lt_of_le (Heap.lt_size q) hp))];exact n
 there:=λb u q _=>⟨u,k b u q⟩
 aZ:=λb xs q=>by rw[ay (ao q hn)];exact q
 i3:=λb u xs q=>by rw[ay (ao q hn)];exact q
 j5:=λb ps q=>⟨#[],by rw[ay (ao q hn),q];simp⟩
theorem Un.write(mu:Jo (H x))(he:e=x\/H e=some (.own x))(k:∀b u,b≠e->h.get? b=some u->h'.get? b=some u)(FH:∃u,h'.get? e=some u):Un fs ex H (upd H x o) h h':=by
 have hx:∀b,H b=none->b≠x:=λb n z=>by subst z;rw[n] at mu;exact mu
 have hb:∀b,H b=none->b≠e:=λb n z=>by
  subst z
  rcases he with r | r
  ·exact hx b n r
  ·rw[n] at r;cases r
 have hm:∀b u,H b=some u->¬Jo (some u)->b≠x:=λb u q nm z=>by subst z;rw[q] at mu;exact nm mu
 refine⟨λb u q n _ _=>k b u (hb b n) q,λb u q n _ _=>⟨u.slots,k b u (hb b n) q⟩,λb u q n _=>by rw[ay (hx b n)];exact n,λb u q _=>?_,
  λb xs q=>by rw[ay (hm b _ q λz=>z)];exact q,λb u xs q=>by rw[ay (hm b _ q λz=>z)];exact q,λb ps q=>⟨#[],by rw[ay (hm b _ q λz=>z),q];simp⟩⟩
 by_cases z0:b=e
 ·subst z0;exact FH
 ·exact⟨u,k b u z0 q⟩
end
def Jp (h:Heap)(H:Hp):List Addr:=(List.range h.objs.size).filter λa=>(H a).isSome
def mZ (h:Heap)(H:Hp):Heap:=W.hideAll h (Jp h H)
theorem tZ (h:Heap)(H:Hp):(mZ h H).objs.size=h.objs.size:=W.hideAll_size _ _
theorem wj {h:Heap}{o:Obj}(e:h.get? b=some o)(n:H b=none):(mZ h H).get? b=some o:=
 W.hideAll_get _ e λhm=>by
  have q:(H b).isSome=true:=(List.mem_filter.mp hm).2
  rw[n] at q;simp at q
theorem Aa {h:Heap}{H:Hp}{b:Addr}{o:Obj}(e:(mZ h H).get? b=some o):h.get? b=some o/\H b=none:=by
 have e':h.get? b=some o:=W.of_hideAll (Jp h H) e
 refine⟨e',?_⟩
 cases q:H b with
 | none=>rfl
 | some x=>
  have hm:b ∈ Jp h H:=List.mem_filter.mpr ⟨List.mem_range.mpr (Heap.lt_size e'),by simp[q]⟩
  have z:(mZ h H).get? b=none:=W.hideAll_none (Jp h H) hm
  rw[z] at e;cases e
def Ab (g h:Heap)(L:Addr):List (Addr×Obj):=(List.range h.objs.size).filterMap λa=>if a=L\/(g.get? a).isSome=true then none else(h.get? a).map λo=>(a,o)
def rest (g h:Heap)(L d:Addr):List (Addr×Obj):=(Ab g h L).filter λp=>decide (p.1≠d)
end
section
variable {A:Around}{ch:List Addr}{t':Nat}{E:Value->Shared->Prop}
structure Mod (K:W.Frag)(mg:Str->Option Value)(base:Heap):Prop where
 og:K.In base
 glob:base.Ns mainGlobals mg
 blt:∃mb,base.Ns builtinsNs mb/\∀x:Str,x≠"__name__"->mb x=bootBuiltins x
 nolimit:base.NoLimit
structure Cx where
 prog:Program
 w:World
 K:W.Frag
 mg:Str->Option Value
 base:Heap
 A:Around
 N:List Str
 s₀:Shared
 H₀:Hp
 env:Env
 outer:List Env
 stack:List Env
 ex:List Addr
 fn:Str->Bool
 calm:Bool
 pn:List (Addr×Obj)
 xe:Value->Shared->Prop
def oh (l:List Env):List Addr:=l.filterMap (·.frame)
abbrev Cx.fs(X:Cx):List Addr:=oh X.outer
def Km (sc:Scope)(x:Str):Prop:=sc.names.lookup x=some .local\/sc.names.lookup x=some .cell\/sc.names.lookup x=some .free
def Loc (sc:Scope)(x:Str):Prop:=sc.names.lookup x=some .local\/sc.names.lookup x=some .cell
def Look (env:Env)(h:Heap)(m:Str->Option Value)(x:Str)(u:Value):Prop:=
 (env.kindOf x=some .local/\m x=some u)\/((env.kindOf x=some .cell\/env.kindOf x=some .free)/\∃c,env.cells.lookup x=some c/\h.IsCell c (some u))
structure Cx.Ok(X:Cx):Prop where
 mod:Mod X.K X.mg X.base
 kind:X.env.scope.kind=.function
 glob:X.env.globals=mainGlobals
 blt:X.env.builtins=builtinsNs
 above:X.s₀.heap.objs.size<=X.env.locals
 inj:∀x y c,X.env.cells.lookup x=some c->X.env.cells.lookup y=some c->x=y
 has:∀x,(X.env.kindOf x=some .cell\/X.env.kindOf x=some .free)->∃c,X.env.cells.lookup x=some c
 De:∀x c,X.fn x=true->X.env.cells.lookup x=some c->X.s₀.heap.objs.size<=c
 hd:X.calm=true->X.A.handled=none
 frames:X.A.frames=some X.stack
 FI:X.stack=X.outer\/(X.stack=X.env::X.outer/\X.env.frame=some X.env.locals)
 GC:∀b ∈ X.ex,b≠X.env.locals/\∀x c,X.env.cells.lookup x=some c->c≠b
 bs:∀b o,X.base.get? b=some o->X.s₀.heap.get? b=some o/\X.H₀ b=none
 t5:X.base.objs.size<=X.s₀.heap.objs.size
 oq:∀b o,X.base.get? b=some o->b ∉ X.ex
 qk:∀b ∈ X.ex,b ∉ X.fs
 iz:X.s₀.heap.FunFrames X.base X.outer
 Ac:∀b ∈ X.fs,X.H₀ b=none
structure Inv (X:Cx)(pins:List (Addr×Obj))(σ:List (Option V))(H:Hp)(s:Shared):Prop where
 ok:X.Ok
 os:s.os=X.s₀.os
 bare:AllBare s.gens
 base:Un X.fs X.ex X.H₀ H X.s₀.heap s.heap
 loc:∃m,s.heap.Ns X.env.locals m/\∀(i:Nat) (x:Str) (v:V),X.N[i]?=some x->σ[i]?=some (some v)->Km X.env.scope x->∃u,RelV v u/\Look X.env s.heap m x u
 cell:∀x c,X.env.cells.lookup x=some c->∃v,s.heap.IsCell c v
 free:H X.env.locals=none
 eG:∀x c,X.env.cells.lookup x=some c->H c=none
 pin:∀p ∈ X.pn++pins,s.heap.get? p.1=some p.2/\H p.1=none/\p.1≠X.env.locals/\p.1 ∉ X.fs/\∀v,p.2.data≠.cell v
 ba:iy X.prog X.w H s.heap
 len:σ.length=X.N.length
section
variable {X:Cx}{pins:List (Addr×Obj)}{σ:List (Option V)}{H H':Hp}{s:Shared}{h':Heap}
theorem Cx.Ok.Df(ok:X.Ok){b:Addr}{o:Obj}(e:X.base.get? b=some o):b ∉ X.fs:=λhb=>by
 have:=(ok.iz.mem hb).1
 rw[e] at this;cases this
theorem Inv.bs(I:Inv X pins σ H s):∀b o,X.base.get? b=some o->s.heap.get? b=some o/\H b=none:=λb o e=>
 ⟨I.base.keep b o (I.ok.bs b o e).1 (I.ok.bs b o e).2 (I.ok.Df e) (I.ok.oq b o e),I.base.free b o (I.ok.bs b o e).1 (I.ok.bs b o e).2 (I.ok.oq b o e)⟩
theorem Inv.bk(I:Inv X pins σ H s):∀b o,X.base.get? b=some o->s.heap.get? b=some o:=λb o e=>(I.bs b o e).1
theorem Inv.mod(I:Inv X pins σ H s):Mod X.K X.mg X.base:=I.ok.mod
theorem Inv.dP(I:Inv X pins σ H s):X.K.In s.heap:=I.ok.mod.og.keeps I.bk
theorem Inv.fr(I:Inv X pins σ H s):∃m,Fr X.base X.env.locals s.heap m:=
 let ⟨m,hn,_⟩:=I.loc
 ⟨m,hn,I.bk,Nat.le_trans I.ok.t5 I.ok.above⟩
theorem Inv.lt(I:Inv X pins σ H s):X.env.locals < s.heap.objs.size:=let ⟨_,hn,_⟩:=I.loc;hn.lt
theorem Inv.sz(I:Inv X pins σ H s):X.s₀.heap.objs.size<=s.heap.objs.size:=Nat.le_trans I.ok.above (Nat.le_of_lt I.lt)
theorem Inv.Dg(I:Inv X pins σ H s){a:Addr}(h:s.heap.objs.size<=a):a ∉ X.fs:=λhb=>by
 obtain⟨_,o,ho,_⟩:=I.ok.iz.mem hb
 exact absurd (Nat.lt_of_lt_of_le (Heap.lt_size ho) (Nat.le_trans I.sz h)) (Nat.lt_irrefl _)
theorem Inv.wk(I:Inv X pins σ H s):∀x c,X.env.cells.lookup x=some c->c≠X.env.locals:=λx c e z=>by
 obtain⟨v,o,ho,hd⟩:=I.cell x c e
 obtain⟨m,⟨o',es,ep,kC,mh,_⟩,_⟩:=I.loc
 rw[z,kC] at ho;cases ho;rw[mh] at hd;cases hd
theorem Inv.iz(I:Inv X pins σ H s):s.heap.FunFrames X.base X.outer:=by
 have all:∀(l:List Env),(∀b ∈ oh l,b ∈ X.fs)->X.s₀.heap.FunFrames X.base l->s.heap.FunFrames X.base l:=by
  intro l
  induction l with
  | nil=>intro _ _;trivial
  | cons env r ih=>
   intro hs hl
   obtain⟨hk,⟨L,o,hf,hn,ho,hd⟩,hr⟩:=hl
   have hL:L ∈ X.fs:=hs L (by unfold oh;rw[List.filterMap_cons,hf];exact List.mem_cons_self)
   obtain⟨sl,e⟩:=I.base.slot L o ho (I.ok.Ac L hL) hL λz=>I.ok.qk L z hL
   exact⟨hk,⟨L,_,hf,hn,e,hd⟩,ih (λb hb=>hs b (by unfold oh;rw[List.filterMap_cons,hf];exact List.mem_cons_of_mem _ hb)) hr⟩
 exact all X.outer (λ_ hb=>hb) I.ok.iz
theorem Inv.stack(I:Inv X pins σ H s):s.heap.FunFrames X.base X.stack:=by
 rcases I.ok.FI with e | ⟨e,hf⟩
 ·rw[e];exact I.iz
 ·rw[e]
  obtain⟨m,hn,_⟩:=I.loc
  refine .cons (by rw[I.ok.kind];decide) hf hn ?_ I.iz
  exact Heap.get?_none_of_le (Nat.le_trans I.ok.t5 I.ok.above)
theorem Inv.m3(I:Inv X pins σ H s):∀b ∈ oh X.stack,b ∈ X.env.locals::X.fs:=λb hb=>by
 rcases I.ok.FI with e | ⟨e,hf⟩
 ·rw[e] at hb;exact List.mem_cons_of_mem _ hb
 ·rw[e] at hb
  unfold oh at hb
  rw[List.filterMap_cons,hf] at hb
  exact hb
theorem Inv.kq(I:Inv X pins σ H s):∀b ∈ oh X.stack,H b=none:=λb hb=>by
 rcases List.mem_cons.mp (I.m3 b hb) with e | hb
 ·rw[e];exact I.free
 ·obtain⟨_,o,ho,_⟩:=I.ok.iz.mem hb
  exact I.base.free b o ho (I.ok.Ac b hb) λz=>I.ok.qk b z hb
theorem Inv.step{g':Array GenState}{t':Nat}{d':Drawn}(I:Inv X pins σ H s)
  (zM:∀b ∈ ch,(b ∈ X.ex\/X.s₀.heap.objs.size<=b)/\b≠X.env.locals/\(∀x c,X.env.cells.lookup x=some c->c≠b)/\∀p ∈ X.pn++pins,p.1≠b)
  (keep:∀b o,b≠X.env.locals->b ∉ X.fs->b ∉ ch->s.heap.get? b=some o->H b=none->h'.get? b=some o)
  (slot:∀b o,b≠X.env.locals->b ∈ X.fs->b ∉ ch->s.heap.get? b=some o->H b=none->∃sl,h'.get? b=some {o with slots:=sl}) (free:∀b o,b ∉ ch->s.heap.get? b=some o->H b=none->H' b=none)
  (there:∀b o,b ∉ ch->s.heap.get? b=some o->∃o',h'.get? b=some o')
  (aZ:∀b xs,H b=some (.tup xs)->H' b=some (.tup xs)) (i3:∀b o u,H b=some (.qf o u)->H' b=some (.qf o u)) (j5:∀b ps,H b=some (.Dd ps)->∃more,H' b=some (.Dd (ps++more)))
  (ns:∀m,s.heap.Ns X.env.locals m->h'.Ns X.env.locals m) (ba:iy X.prog X.w H' h') (hg:AllBare g'):
  Inv X pins σ H' {s with heap:=h',gens:=g',drawn:=d',toks:=t'}:=by
 have NF:∀b o,X.s₀.heap.get? b=some o->b≠X.env.locals:=λb o e=>Nat.ne_of_lt (Nat.lt_of_lt_of_le (Heap.lt_size e) I.ok.above)
 have Jq:∀b o,X.s₀.heap.get? b=some o->b ∉ X.ex->b ∉ ch:=λb o e hx hb=>by
  rcases(zM b hb).1 with z | z
  ·exact hx z
  ·exact absurd (Nat.lt_of_lt_of_le (Heap.lt_size e) z) (Nat.lt_irrefl _)
 have cellK:∀x c,X.env.cells.lookup x=some c->∀v,s.heap.IsCell c v->h'.IsCell c v:=λx c e v ⟨o,ho,hd⟩=>by
  have GD:c ∉ ch:=λz=>(zM c z).2.2.1 x c e rfl
  by_cases hc:c ∈ X.fs
  ·obtain⟨sl,q⟩:=slot c o (I.wk x c e) hc GD ho (I.eG x c e)
   exact⟨_,q,hd⟩
  ·exact⟨o,keep c o (I.wk x c e) hc GD ho (I.eG x c e),hd⟩
 refine⟨I.ok,I.os,hg,⟨λb o e n hb hx=>?_,λb o e n hb hx=>?_,λb o e n hx=>?_,λb o e hx=>?_,λb xs e=>aZ b xs (I.base.aZ b xs e),λb o xs e=>i3 b o xs (I.base.i3 b o xs e),λb ps e=>?_⟩,?_,λx c e=>?_,?_,λx c e=>?_,λp hp=>?_,ba,I.len⟩
 ·exact keep b o (NF b o e) hb (Jq b o e hx) (I.base.keep b o e n hb hx) (I.base.free b o e n hx)
 ·obtain⟨sl,e1⟩:=I.base.slot b o e n hb hx
  obtain⟨Kl,e2⟩:=slot b _ (NF b o e) hb (Jq b o e hx) e1 (I.base.free b o e n hx)
  exact⟨Kl,e2⟩
 ·obtain⟨o',e1⟩:=I.base.there b o e hx
  exact free b o' (Jq b o e hx) e1 (I.base.free b o e n hx)
 ·obtain⟨o',e1⟩:=I.base.there b o e hx
  exact there b o' (Jq b o e hx) e1
 ·obtain⟨m1,e1⟩:=I.base.j5 b ps e
  obtain⟨m2,e2⟩:=j5 b _ e1
  exact⟨m1++m2,by rw[e2,Array.append_assoc]⟩
 ·obtain⟨m,hn,hl⟩:=I.loc
  refine⟨m,ns m hn,λi x v e1 e2 e3=>?_⟩
  obtain⟨u,r,l⟩:=hl i x v e1 e2 e3
  refine⟨u,r,?_⟩
  rcases l with l | ⟨k,c,e,z⟩
  ·exact .inl l
  ·exact .inr ⟨k,c,e,cellK x c e _ z⟩
 ·obtain⟨v,z⟩:=I.cell x c e
  exact⟨v,cellK x c e v z⟩
 ·obtain⟨m,⟨o,_,_,ho,_⟩,_⟩:=I.loc
  exact free _ o (λz=>(zM _ z).2.1 rfl) ho I.free
 ·obtain⟨v,o,ho,hd⟩:=I.cell x c e
  exact free c o (λz=>(zM c z).2.2.1 x c e rfl) ho (I.eG x c e)
 ·obtain⟨e,n,ne,nf,d⟩:=I.pin p hp
  have GD:p.1 ∉ ch:=λz=>(zM p.1 z).2.2.2 p hp rfl
  exact⟨keep p.1 p.2 ne nf GD e n,free p.1 p.2 GD e n,ne,nf,d⟩
theorem Inv.un(I:Inv X pins σ H s)(u:Un X.fs [] H H' s.heap h')(ba:iy X.prog X.w H' h'):Inv X pins σ H' {s with heap:=h',toks:=t'}:=by
 obtain⟨m,⟨o,es,ep,ho,r⟩,_⟩:=id I.loc
 obtain⟨sl,hL⟩:=u.any ho I.free (by simp)
 exact I.step (g':=s.gens) (d':=s.drawn) (ch:=[]) (λ_ z=>nomatch z) (λb o _ hb _ e n=>u.keep b o e n hb (by simp)) (λb o _ hb _ e n=>u.slot b o e n hb (by simp)) (λb o _ e n=>u.free b o e n (by simp)) (λb o _ e=>u.there b o e (by simp)) u.aZ u.i3 u.j5 (λm' hm=>by
  obtain⟨o',Kn,Ko,kC,r'⟩:=hm
  rw[ho] at kC;cases kC
  exact⟨_,Kn,Ko,hL,r'⟩) ba I.bare
theorem Inv.call{g':Array GenState}{d':Drawn}(I:Inv X pins σ H s)(u:Un (oh X.stack) ch H H' s.heap h')(ba:iy X.prog X.w H' h')(hg:AllBare g')
  (zM:∀b ∈ ch,(b ∈ X.ex\/X.s₀.heap.objs.size<=b)/\b≠X.env.locals/\(∀x c,X.env.cells.lookup x=some c->c≠b)/\∀p ∈ X.pn++pins,p.1≠b):
  Inv X pins σ H' {s with heap:=h',gens:=g',drawn:=d',toks:=t'}:=by
 obtain⟨m,⟨o,es,ep,ho,r⟩,_⟩:=id I.loc
 obtain⟨sl,hL⟩:=u.any ho I.free λz=>(zM _ z).2.1 rfl
 exact I.step (ch:=ch) zM (λb o hL hb hc e n=>u.keep b o e n (λz=>(List.mem_cons.mp (I.m3 b z)).elim hL hb) hc) (λb o _ _ hc e n=>u.any e n hc) (λb o hc e n=>u.free b o e n hc) (λb o hc e=>u.there b o e hc) u.aZ u.i3 u.j5 (λm' hm=>by
  obtain⟨o',Kn,Ko,kC,r'⟩:=hm
  rw[ho] at kC;cases kC
  exact⟨_,Kn,Ko,hL,r'⟩) ba hg
theorem Inv.turned{it:Addr}(I:Inv X pins σ H s)(k:∀b o,b≠it->s.heap.get? b=some o->h'.get? b=some o)(hn:H it=none)(hL:it≠X.env.locals)
  (h1:it ∈ X.ex\/X.s₀.heap.objs.size<=it) (h2:∀x c,X.env.cells.lookup x=some c->c≠it) (h3:∀p ∈ X.pn++pins,p.1≠it):Inv X pins σ H {s with heap:=h',toks:=t'}:=by
 have Bz:∀b u,H b=some u->b≠it:=λb u e z=>by rw[z,hn] at e;cases e
 refine I.step (g':=s.gens) (d':=s.drawn) (ch:=[it]) (λb hb=>?_) (λb o _ _ hc e _=>k b o (λz=>hc (by simp[z])) e) (λb o _ _ hc e _=>⟨o.slots,k b o (λz=>hc (by simp[z])) e⟩) (λ_ _ _ _ n=>n)
  (λb o hc e=>⟨o,k b o (λz=>hc (by simp[z])) e⟩) (λ_ _ e=>e) (λ_ _ _ e=>e) (λb ps e=>⟨#[],by rw[e];simp⟩) (λm hm=>?_) (λb u e=>?_) I.bare
 ·have e:b=it:=by simpa using hb
  subst e
  exact⟨h1,hL,h2,h3⟩
 ·obtain⟨o,es,ep,ho,r⟩:=hm
  exact⟨o,es,ep,k _ o (Ne.symm hL) ho,r⟩
 ·refine(I.ba b u e).aY (λc v hc q=>k c v ?_ q) (λ_ q=>q) λ_ _ q=>q
  rcases hc with z | z
  ·rw[z];exact Bz b u e
  ·exact Bz c _ z
theorem Inv.tok(I:Inv X pins σ H s)(t:Nat):Inv X pins σ H {s with toks:=t}:=I.un (h':=s.heap) (t':=t) Un.refl I.ba
theorem Inv.kept(I:Inv X pins σ H s)(k:∀b u,s.heap.get? b=some u->h'.get? b=some u):Inv X pins σ H {s with heap:=h',toks:=t'}:=I.un (Un.kept k) (I.ba.kept k)
theorem Inv.laid{a:Addr}{o:HO}(I:Inv X pins σ H s)(k:∀b u,s.heap.get? b=some u->h'.get? b=some u)(hp:s.heap.objs.size<=a)(new:bH X.prog X.w (upd H a o) h' a o):
  Inv X pins σ (upd H a o) {s with heap:=h',toks:=t'}:=I.un (Un.laid k hp (I.ba.fresh hp)) (I.ba.laid k hp new)
theorem Inv.write{x e:Addr}{o:HO}(I:Inv X pins σ H s)(mu:Jo (H x))(he:e=x\/H e=some (.own x))(k:∀b u,b≠e->s.heap.get? b=some u->h'.get? b=some u)(FH:∃u,h'.get? e=some u)
  (new:bH X.prog X.w (upd H x o) h' x o):Inv X pins σ (upd H x o) {s with heap:=h',toks:=t'}:=I.un (Un.write mu he k FH) (I.ba.write mu he k FH new)
theorem Inv.m7{BA:List (Addr×Obj)}(I:Inv X pins σ H s)(h:∀p ∈ BA,s.heap.get? p.1=some p.2/\H p.1=none/\p.1≠X.env.locals/\p.1 ∉ X.fs/\∀v,p.2.data≠.cell v):Inv X BA σ H s:=
 ⟨I.ok,I.os,I.bare,I.base,I.loc,I.cell,I.free,I.eG,λp hp=>(List.mem_append.mp hp).elim (λz=>I.pin p (List.mem_append_left _ z)) (h p),I.ba,I.len⟩
theorem kD {N:List Str}(hN:N.Nodup){i j:Nat}{x:Str}(a:N[i]?=some x)(b:N[j]?=some x):i=j:=by
 obtain⟨h1,e1⟩:=List.getElem?_eq_some_iff.mp a
 obtain⟨h2,e2⟩:=List.getElem?_eq_some_iff.mp b
 exact(List.getElem_inj hN).mp (e1.trans e2.symm)
theorem t9 {M:Model}{i:Nat}{x:Str}{v:V}{u:Value}{Q:Unit->Shared->Prop}(I:Inv X pins σ H s)(hN:X.N.Nodup)(hi:X.N[i]?=some x)(hx:Loc X.env.scope x)(r:RelV v u)
  (h:∀s',Inv X pins (σ.set i (some v)) H s'->(∃a,Heap.SameBut a s.heap s'.heap/\(a=X.env.locals\/X.env.cells.lookup x=some a))->Q () s') (hf:X.fn x=true\/X.env.scope.names.lookup x=some .local:=by first | exact .inl rfl | exact .inr rfl | assumption):wpAny M A (storeName X.env x u) Q E s:=by
 obtain⟨m,hn,hl⟩:=id I.loc
 have Dh:(X.env.scope.kind == .class || (X.env.scope.kind == .module && X.env.locals != X.env.globals))=false:=by rw[I.ok.kind];rfl
 have GF:i < σ.length:=by rw[I.len];exact(List.getElem?_eq_some_iff.mp hi).1
 have wk:=I.wk
 have tracked:∀{a:Addr} {h':Heap},(∃o,s.heap.get? a=some o/\H a=none)->Heap.SameBut a s.heap h'->iy X.prog X.w H h':=λ{a h'} ha hs b ob e=>by
  obtain⟨_,_,BB⟩:=ha
  refine(I.ba b ob e).aY (λc w' hc q=>(hs.2 c ?_).trans q) (λ_ q=>q) λ_ _ q=>q
  rintro rfl
  rcases hc with rfl | hc
  ·rw[BB] at e;cases e
  ·rw[BB] at hc;cases hc
 rcases hx with hk | hk
 ·refine wpAny_storeName_local hk hn (λh' Kp hs=>?_) Dh
  obtain⟨oL,_,_,NG,_⟩:=id hn
  refine h _ ⟨I.ok,I.os,I.bare,⟨λb o e n hb hx=>?_,λb o e n hb hx=>?_,I.base.free,λb o e hx=>?_,I.base.aZ,I.base.i3,I.base.j5⟩,⟨_,Kp,λj y v' e1 e2 e3=>?_⟩,λy c e=>?_,I.free,I.eG,λp hp=>?_,tracked ⟨oL,NG,I.free⟩ hs,by simpa using I.len⟩ ⟨_,hs,.inl rfl⟩
  ·exact(hs.2 b (Nat.ne_of_lt (Nat.lt_of_lt_of_le (Heap.lt_size e) I.ok.above))).trans (I.base.keep b o e n hb hx)
  ·obtain⟨sl,e1⟩:=I.base.slot b o e n hb hx
   exact⟨sl,(hs.2 b (Nat.ne_of_lt (Nat.lt_of_lt_of_le (Heap.lt_size e) I.ok.above))).trans e1⟩
  ·obtain⟨o',e1⟩:=I.base.there b o e hx
   exact⟨o',(hs.2 b (Nat.ne_of_lt (Nat.lt_of_lt_of_le (Heap.lt_size e) I.ok.above))).trans e1⟩
  ·by_cases hj:j=i
   ·subst hj
    rw[hi] at e1;cases e1
    rw[List.getElem?_set_self GF] at e2
    cases e2
    exact⟨u,r,.inl ⟨hk,by simp⟩⟩
   ·rw[List.getElem?_set_ne (Ne.symm hj)] at e2
    obtain⟨u',r',q⟩:=hl j y v' e1 e2 e3
    refine⟨u',r',?_⟩
    rcases q with⟨k,e⟩ | ⟨k,c,e,z⟩
    ·refine .inl ⟨k,?_⟩
     have:y≠x:=λe=>hj (kD hN e1 (e ▸ hi))
     simp[this,e]
    ·exact .inr ⟨k,c,e,z.sameBut hs (wk y c e)⟩
  ·obtain⟨w',z⟩:=I.cell y c e
   exact⟨w',z.sameBut hs (wk y c e)⟩
  ·obtain⟨e,n,ne,nf,d⟩:=I.pin p hp
   exact⟨(hs.2 p.1 ne).trans e,n,ne,nf,d⟩
 ·have GG:X.fn x=true:=by
   rcases hf with z | z
   ·exact z
   ·rw[z] at hk;cases hk
  obtain⟨c,hc⟩:=I.ok.has x (.inl hk)
  obtain⟨w',z⟩:=I.cell x c hc
  refine wpAny_storeName_cell I.ok.kind hk hc z (λh' zN hs=>?_)
  obtain⟨oc,Jr,Kq⟩:=id z
  refine h {s with heap:=h'} ⟨I.ok,I.os,I.bare,⟨λb o e n hb hx=>?_,λb o e n hb hx=>?_,I.base.free,λb o e hx=>?_,I.base.aZ,I.base.i3,I.base.j5⟩,⟨m,hn.sameBut hs (Ne.symm (wk x c hc)),λj y v' e1 e2 e3=>?_⟩,λy c' e=>?_,I.free,I.eG,λp hp=>?_,tracked ⟨oc,Jr,I.eG x c hc⟩ hs,by simpa using I.len⟩ ⟨c,hs,.inr hc⟩
  ·exact(hs.2 b (Nat.ne_of_lt (Nat.lt_of_lt_of_le (Heap.lt_size e) (I.ok.De x c GG hc)))).trans (I.base.keep b o e n hb hx)
  ·obtain⟨sl,e1⟩:=I.base.slot b o e n hb hx
   exact⟨sl,(hs.2 b (Nat.ne_of_lt (Nat.lt_of_lt_of_le (Heap.lt_size e) (I.ok.De x c GG hc)))).trans e1⟩
  ·obtain⟨o',e1⟩:=I.base.there b o e hx
   exact⟨o',(hs.2 b (Nat.ne_of_lt (Nat.lt_of_lt_of_le (Heap.lt_size e) (I.ok.De x c GG hc)))).trans e1⟩
  ·by_cases hj:j=i
   ·subst hj
    rw[hi] at e1;cases e1
    rw[List.getElem?_set_self GF] at e2
    cases e2
    exact⟨u,r,.inr ⟨.inl hk,c,hc,zN⟩⟩
   ·rw[List.getElem?_set_ne (Ne.symm hj)] at e2
    obtain⟨u',r',q⟩:=hl j y v' e1 e2 e3
    refine⟨u',r',?_⟩
    rcases q with q | ⟨k,c',e,z'⟩
    ·exact .inl q
    ·refine .inr ⟨k,c',e,z'.sameBut hs ?_⟩
     rintro rfl
     exact hj (kD hN e1 (I.ok.inj _ _ _ e hc ▸ hi))
  ·by_cases NH:c'=c
   ·subst NH;exact⟨_,zN⟩
   ·obtain⟨w2,z2⟩:=I.cell y c' e
    exact⟨w2,z2.sameBut hs NH⟩
  ·obtain⟨e,n,ne,nf,d⟩:=I.pin p hp
   refine⟨(hs.2 p.1 ?_).trans e,n,ne,nf,d⟩
   intro q
   rw[q,Jr] at e
   have q':oc=p.2:=Option.some.inj e
   exact d w' (by rw[<-q'];exact Kq)
theorem fY {M:Model}{i:Nat}{x:Str}{v:V}{u:Value}{Q:Unit->Shared->Prop}(I:Inv X pins σ H s)(hN:X.N.Nodup)(hi:X.N[i]?=some x)(hx:Loc X.env.scope x)(r:RelV v u)
  (h:∀s',Inv X pins (σ.set i (some v)) H s'->Q () s') (hf:X.fn x=true\/X.env.scope.names.lookup x=some .local:=by first | exact .inl rfl | exact .inr rfl | assumption):wpAny M A (storeName X.env x u) Q E s:=
 t9 I hN hi hx r (λs' I' _=>h s' I') hf
theorem Inv.BC{s':Shared}(I:Inv X pins σ H s)(ho:s'.os=s.os)(u:Un (oh X.stack) ch H H' s.heap s'.heap)(ba:iy X.prog X.w H' s'.heap)(hg:AllBare s'.gens)
  (zM:∀b ∈ ch,(b ∈ X.ex\/X.s₀.heap.objs.size<=b)/\b≠X.env.locals/\(∀x c,X.env.cells.lookup x=some c->c≠b)/\∀p ∈ X.pn++pins,p.1≠b):Inv X pins σ H' s':=by
 obtain⟨h',g',d',t',o'⟩:=s'
 have e:o'=s.os:=ho
 subst e
 exact I.call (g':=g') (t':=t') (d':=d') u ba hg zM
end
abbrev XK:=Value->Option Addr->Hp->Prop
abbrev St:=List (Option V)
abbrev VK:=V->Hp->Prop
abbrev TE:=St->Hp->VK->Prop
abbrev TT:=St->Hp->(Bool->Hp->Prop)->Prop
abbrev TA:=St->Hp->(List V->Hp->Prop)->Prop
structure Ends where
 nx:St->Hp->Prop
 rt:VK
 bk:St->Hp->Prop:=λ_ _=>False
 ct:St->Hp->Prop:=λ_ _=>False
abbrev TS:=Ends->St->Hp->Prop
def EP (X:Cx)(pins:List (Addr×Obj))(σ:St)(Q:VK)(u:Value)(s':Shared):Prop:=∃v H',Inv X pins σ H' s'/\RelV v u/\Q v H'
def TP (X:Cx)(pins:List (Addr×Obj))(σ:St)(Q:Bool->Hp->Prop)(b:Bool)(s':Shared):Prop:=∃H',Inv X pins σ H' s'/\Q b H'
def AP (X:Cx)(pins:List (Addr×Obj))(σ:St)(Q:List V->Hp->Prop)(us:List Value)(s':Shared):Prop:=∃vs H',Inv X pins σ H' s'/\Vals vs us/\Q vs H'
def SP (X:Cx)(pins:List (Addr×Obj))(D:Ends)(f:Flow)(s':Shared):Prop:=
 match f with
 | .next=>∃σ' H',Inv X pins σ' H' s'/\D.nx σ' H'
 | .brk=>∃σ' H',Inv X pins σ' H' s'/\D.bk σ' H'
 | .cont=>∃σ' H',Inv X pins σ' H' s'/\D.ct σ' H'
 | .ret u=>∃v σ' H',Inv X pins σ' H' s'/\RelV v u/\D.rt v H'
structure PE (X:Cx)(e:Expr)(t:TE):Prop where
 out:
  ∀(pins:List (Addr×Obj)) (s:Shared) (σ:St) (H:Hp) (Q:VK),Inv X pins σ H s->t σ H Q->wpAny (model X.prog X.w) X.A (eval e X.env) (EP X pins σ Q) X.xe s
instance {X:Cx}{e:Expr}{t:TE}:CoeFun (PE X e t) λ_=>
 ∀(pins:List (Addr×Obj)) (s:Shared) (σ:St) (H:Hp) (Q:VK),Inv X pins σ H s->t σ H Q->wpAny (model X.prog X.w) X.A (eval e X.env) (EP X pins σ Q) X.xe s:=⟨PE.out⟩
structure PT (X:Cx)(e:Expr)(t:TT):Prop where
 out:
  ∀(pins:List (Addr×Obj)) (s:Shared) (σ:St) (H:Hp) (Q:Bool->Hp->Prop),Inv X pins σ H s->t σ H Q->wpAny (model X.prog X.w) X.A (isTrue e X.env (eval e X.env)) (TP X pins σ Q) X.xe s
instance {X:Cx}{e:Expr}{t:TT}:CoeFun (PT X e t) λ_=>
 ∀(pins:List (Addr×Obj)) (s:Shared) (σ:St) (H:Hp) (Q:Bool->Hp->Prop),Inv X pins σ H s->t σ H Q->wpAny (model X.prog X.w) X.A (isTrue e X.env (eval e X.env)) (TP X pins σ Q) X.xe s:=⟨PT.out⟩
structure PW (X:Cx)(e:Expr)(t:TT):Prop where
 out:
  ∀(whole:Sem Value) (pins:List (Addr×Obj)) (s:Shared) (σ:St) (H:Hp) (Q:Bool->Hp->Prop),Inv X pins σ H s->t σ H Q->wpAny (model X.prog X.w) X.A (isTrue e X.env whole) (TP X pins σ Q) X.xe s
instance {X:Cx}{e:Expr}{t:TT}:CoeFun (PW X e t) λ_=>
 ∀(whole:Sem Value) (pins:List (Addr×Obj)) (s:Shared) (σ:St) (H:Hp) (Q:Bool->Hp->Prop),Inv X pins σ H s->t σ H Q->wpAny (model X.prog X.w) X.A (isTrue e X.env whole) (TP X pins σ Q) X.xe s:=⟨PW.out⟩
theorem PW.pt{X:Cx}{e:Expr}{t:TT}(h:PW X e t):PT X e t:=⟨h.out _⟩
structure PA (X:Cx)(es:List Expr)(t:TA):Prop where
 out:
  ∀(pos:Pos) (pins:List (Addr×Obj)) (s:Shared) (σ:St) (H:Hp) (Q:List V->Hp->Prop),Inv X pins σ H s->t σ H Q->wpAny (model X.prog X.w) X.A (spliced (backTo pos (starEach es X.env))) (AP X pins σ Q) X.xe s
instance {X:Cx}{es:List Expr}{t:TA}:CoeFun (PA X es t) λ_=>
 ∀(pos:Pos) (pins:List (Addr×Obj)) (s:Shared) (σ:St) (H:Hp) (Q:List V->Hp->Prop),Inv X pins σ H s->t σ H Q->wpAny (model X.prog X.w) X.A (spliced (backTo pos (starEach es X.env))) (AP X pins σ Q) X.xe s:=⟨PA.out⟩
structure PS (X:Cx)(st:Stmt)(t:TS):Prop where
 out:
  ∀(pins:List (Addr×Obj)) (s:Shared) (σ:St) (H:Hp) (D:Ends),Inv X pins σ H s->t D σ H->wpAny (model X.prog X.w) X.A (exec st X.env) (SP X pins D) X.xe s
instance {X:Cx}{st:Stmt}{t:TS}:CoeFun (PS X st t) λ_=>
 ∀(pins:List (Addr×Obj)) (s:Shared) (σ:St) (H:Hp) (D:Ends),Inv X pins σ H s->t D σ H->wpAny (model X.prog X.w) X.A (exec st X.env) (SP X pins D) X.xe s:=⟨PS.out⟩
structure kr (X:Cx)(st:List Stmt)(t:TS):Prop where
 out:
  ∀(pins:List (Addr×Obj)) (s:Shared) (σ:St) (H:Hp) (D:Ends),Inv X pins σ H s->t D σ H->wpAny (model X.prog X.w) X.A (execs st X.env) (SP X pins D) X.xe s
instance {X:Cx}{st:List Stmt}{t:TS}:CoeFun (kr X st t) λ_=>
 ∀(pins:List (Addr×Obj)) (s:Shared) (σ:St) (H:Hp) (D:Ends),Inv X pins σ H s->t D σ H->wpAny (model X.prog X.w) X.A (execs st X.env) (SP X pins D) X.xe s:=⟨kr.out⟩
theorem bU {α:Type}{t:Sem α}{Q Q':α->Shared->Prop}{M:Model}{s:Shared}(h:wpAny M A t Q E s)(hQ:∀a s,Q a s->Q' a s):wpAny M A t Q' E s:=wpAny_mono h hQ λ_ _ x=>x
end
section
variable {pins:List (Addr×Obj)}{pos:Pos}{σ:St}{x:Str}{u:Value}{E Q:Value->Shared->Prop}
section
variable {X:Cx}
theorem bin {a b:Expr}{ta tb:TE}(ha:PE X a ta)(hb:PE X b tb){pins:List (Addr×Obj)}{s:Shared}{σ:St}{H:Hp}{R:V->V->Hp->Prop}(I:Inv X pins σ H s)(h:ta σ H λx H1=>tb σ H1 λy H2=>R x y H2)
  {α:Type} {Q:α->Shared->Prop} {f:Value->Value->Sem α}
  (hf:∀v u s2 x y H2,Inv X pins σ H2 s2->RelV x v->RelV y u->R x y H2->wpAny (model X.prog X.w) X.A (f v u) Q X.xe s2):
  wpAny (model X.prog X.w) X.A (eval a X.env) (λv s₁=>wpAny (model X.prog X.w) X.A (eval b X.env) (λu s₂=>wpAny (model X.prog X.w) X.A (f v u) Q X.xe s₂) X.xe s₁) X.xe s:=by
 refine bU (ha pins s σ H _ I h) λv s1 ⟨x,H1,I1,r1,q1⟩=>?_
 refine bU (hb pins s1 σ H1 _ I1 q1) λu s2 ⟨y,H2,I2,r2,q2⟩=>?_
 exact hf v u s2 x y H2 I2 r1 r2 q2
def ou (i:Nat):TE:=λσ H Q=>∃v,σ[i]?=some (some v)/\Q v H
def tC (v:V):TE:=λ_ H Q=>Q v H
theorem Di {i:Nat}(hN:X.N[i]?=some x)(hv:Km X.env.scope x)(hd:(x == ("__debug__":Str))=false:=by decide)(lN:(x == ("__classdict__":Str))=false:=by decide):PE X (.Name x pos) (ou i):=by
 walk_at "xc"
 obtain⟨v,e,h⟩:=h
 obtain⟨m,hn,hl⟩:=I.loc
 obtain⟨u,r,l⟩:=hl i x v hN e hv
 have fin:EP X pins σ Q u s:=⟨v,H,I,r,h⟩
 rcases l with⟨hk,hm⟩ | ⟨hk,c,hc,BD⟩
 ·exact wpAny_Name (wpAny_loadName_local I.ok.kind hk hn hm fin) hd
 ·rcases hk with hk | hk
  ·exact wpAny_Name (wpAny_loadName_cell I.ok.kind hk hc BD fin) hd
  ·exact wpAny_Name (wpAny_loadName_free I.ok.kind hk hc BD fin lN) hd
theorem af {i j pos}:PE X (.Constant (.int i) j pos) (tC (.int i)):=.mk λ_ _ _ H _ I h=>wpAny_Constant_int ⟨.int i,H,I.tok _,⟨_,rfl⟩,h⟩
theorem cI {b j pos}:PE X (.Constant (.bool b) j pos) (tC (.bl b)):=.mk λ_ _ _ H _ I h=>Constant_bool ⟨.bl b,H,I,rfl,h⟩
theorem fZ {j pos}:PE X (.Constant .none j pos) (tC .bb):=.mk λ_ _ _ H _ I h=>Constant_none ⟨.bb,H,I,rfl,h⟩
theorem aR {x j pos}:PE X (.Constant (.str x) j pos) (tC (.str x)):=.mk λ_ _ _ H _ I h=>Calls.Constant_str ⟨.str x,H,I.tok _,⟨_,rfl⟩,h⟩
def Gl (X:Cx)(x:Str):Prop:=X.env.kindOf x=some .globalImplicit
theorem fI {s:Shared}{H:Hp}(I:Inv X pins σ H s)(hg:Gl X x)(hm:X.mg x=some u)(h:Q u s)
  (hd:(x == ("__debug__":Str))=false:=by decide):wpAny (model X.prog X.w) X.A (eval (.Name x pos) X.env) Q E s:=
 Calls.Name_function_global I.ok.kind hg (Calls.loadGlobal_global (by rw[I.ok.glob];exact I.mod.glob.keeps I.bk) hm h) hd
theorem i4 {s:Shared}{H:Hp}(I:Inv X pins σ H s)(hg:Gl X x)(hm:X.mg x=none)(hv:bootBuiltins x=some u)(h:Q u s)
  (hn:x≠"__name__":=by decide) (hd:(x == ("__debug__":Str))=false:=by decide):wpAny (model X.prog X.w) X.A (eval (.Name x pos) X.env) Q E s:=by
 obtain⟨mb,h1,h2⟩:=I.mod.blt
 exact Calls.Name_function_global I.ok.kind hg (Calls.loadGlobal_builtin (by rw[I.ok.glob];exact I.mod.glob.keeps I.bk) hm (by rw[I.ok.blt];exact h1.keeps I.bk) ((h2 x hn).trans hv) h) hd
theorem bu {v:V}(hg:Gl X x)(hm:X.mg x=some u)(r:RelV v u)(hd:(x == ("__debug__":Str))=false:=by decide):PE X (.Name x pos) (tC v):=
 .mk λ_ _ _ H _ I h=>fI I hg hm ⟨v,H,I,r,h⟩ hd
theorem bO {v:V}(hg:Gl X x)(hm:X.mg x=none)(hv:bootBuiltins x=some u)(r:RelV v u)(hn:x≠"__name__":=by decide)(hd:(x == ("__debug__":Str))=false:=by decide):PE X (.Name x pos) (tC v):=
 .mk λ_ _ _ H _ I h=>i4 I hg hm hv ⟨v,H,I,r,h⟩ hn hd
variable {a b:Expr}{ta tb:TE}{pos:Pos}
structure PC (X:Cx)(op:CmpOp)(a b:Expr)(t:TE):Prop where
 out:
  ∀(pins:List (Addr×Obj)) (s:Shared) (σ:St) (H:Hp) (Q:VK),Inv X pins σ H s->t σ H Q->
   wpAny (model X.prog X.w) X.A (eval a X.env) (λv s₁=>wpAny (model X.prog X.w) X.A (eval b X.env) (λu s₂=>wpAny (model X.prog X.w) X.A (compareOp op v u) (EP X pins σ Q) X.xe s₂) X.xe s₁) X.xe s
instance {X:Cx}{op:CmpOp}{a b:Expr}{t:TE}:CoeFun (PC X op a b t) λ_=>
 ∀(pins:List (Addr×Obj)) (s:Shared) (σ:St) (H:Hp) (Q:VK),Inv X pins σ H s->t σ H Q->
  wpAny (model X.prog X.w) X.A (eval a X.env) (λv s₁=>wpAny (model X.prog X.w) X.A (eval b X.env) (λu s₂=>wpAny (model X.prog X.w) X.A (compareOp op v u) (EP X pins σ Q) X.xe s₂) X.xe s₁) X.xe s:=⟨PC.out⟩
theorem wm (b:Expr){op:CmpOp}(h:op≠.In)(h2:op≠.NotIn):behindInMarks op b=false:=by
 have e1:(op == CmpOp.In)=false:=by cases op <;> first | rfl | exact absurd rfl h
 have e2:(op == CmpOp.NotIn)=false:=by cases op <;> first | rfl | exact absurd rfl h2
 cases b <;> simp[behindInMarks,e1,e2]
def tB (t:TE):TT:=λσ H Q=>t σ H λx H1=>∃c,x=.bl c/\Q c H1
theorem Kr {op:CmpOp}{t:TE}(h:PC X op a b t)(h1:behindInMarks op b=false:=by first | exact wm _ (by decide) (by decide) | rfl):PT X (.Compare a [op] [b] pos) (tB t):=by
 refine⟨?_⟩
 intro pins s σ H Q I hw
 refine wpAny_isTrue_Compare1 (bU (h pins s σ H _ I hw) λv s1 h1=>bU h1 λu s2 h2=>bU h2 λc s3 ⟨x,H1,I1,r1,q1⟩=>?_) h1
 obtain⟨d,rfl,q⟩:=q1
 cases r1
 exact wpAny_truthy_bool ⟨H1,I1,q⟩
theorem bJ {e:Expr}{t:TE}(h:PE X e t)(he:∀whole,isTrue e X.env whole=(do let v <-whole;standAt e.pos;holding [v] (truthy v)):=by intro _;rfl):PT X e (tB t):=by
 refine⟨?_⟩
 intro pins s σ H Q I hw
 refine isTrue_plain (bU (h pins s σ H _ I hw) λv s1 ⟨x,H1,I1,r1,q1⟩=>?_) (he _)
 obtain⟨d,rfl,q⟩:=q1
 cases r1
 exact wpAny_truthy_bool ⟨H1,I1,q⟩
variable {tA Js:TT}{rest:List Expr}
def Dj (t u:TT):TT:=λσ H Q=>t σ H λc H1=>if c=true then u σ H1 Q else Q false H1
def Ks (t u:TT):TT:=λσ H Q=>t σ H λc H1=>if c=true then Q true H1 else u σ H1 Q
def Dk (t:TT):TT:=λσ H Q=>t σ H λc H1=>Q (!c) H1
theorem pw_and1 (ha:PT X a tA):PW X (.BoolOp .And [a] pos) tA:=by
 refine⟨?_⟩
 intro wh pins s σ H Q I h
 refine isTrue_and (bU (ha pins s σ H Q I h) λc s1 e=>?_)
 cases c with
 | true=>exact isTrue_and_nil e
 | false=>exact e
theorem pw_or1 (ha:PT X a tA):PW X (.BoolOp .Or [a] pos) tA:=by
 refine⟨?_⟩
 intro wh pins s σ H Q I h
 refine isTrue_or (bU (ha pins s σ H Q I h) λc s1 e=>?_)
 cases c with
 | false=>exact isTrue_or_nil e
 | true=>exact e
theorem pw_and (ha:PT X a tA)(hb:PW X (.BoolOp .And (b::rest) pos) Js):PW X (.BoolOp .And (a::b::rest) pos) (Dj tA Js):=by
 refine⟨?_⟩
 intro wh pins s σ H Q I h
 refine isTrue_and (bU (ha pins s σ H _ I h) λc s1 ⟨H1,I1,q1⟩=>?_)
 cases c with
 | true=>exact hb wh pins s1 σ H1 Q I1 q1
 | false=>exact⟨H1,I1,q1⟩
theorem pw_or (ha:PT X a tA)(hb:PW X (.BoolOp .Or (b::rest) pos) Js):PW X (.BoolOp .Or (a::b::rest) pos) (Ks tA Js):=by
 refine⟨?_⟩
 intro wh pins s σ H Q I h
 refine isTrue_or (bU (ha pins s σ H _ I h) λc s1 ⟨H1,I1,q1⟩=>?_)
 cases c with
 | true=>exact⟨H1,I1,q1⟩
 | false=>exact hb wh pins s1 σ H1 Q I1 q1
theorem bK (ha:PT X a tA):PT X (.UnaryOp .Not a pos) (Dk tA):=by
 walk_at "xc"
 exact isTrue_not (ha pins s σ H (λc H1=>Q (!c) H1) I h)
def wq (ta tb:TE):TE:=λσ H Q=>ta σ H λx H1=>∃c,x=.bl c/\if c=true then tb σ H1 Q else Q (.bl false) H1
def Dl (ta tb:TE):TE:=λσ H Q=>ta σ H λx H1=>∃c,x=.bl c/\if c=true then Q (.bl true) H1 else tb σ H1 Q
def wt (ta:TE):TE:=λσ H Q=>ta σ H λx H1=>∃c,x=.bl c/\Q (.bl (!c)) H1
theorem dJ {op}{t:TE}(h:PE X a t):PE X (.BoolOp op [a] pos) t:=.mk λpins s σ H Q I hw=>BoolOp_one (h pins s σ H Q I hw)
theorem dR (ha:PE X a ta)(hb:PE X (.BoolOp .And (b::rest) pos) tb):PE X (.BoolOp .And (a::b::rest) pos) (wq ta tb):=by
 walk_at "xc"
 refine BoolOp_and (bU (ha pins s σ H _ I h) λv s1 ⟨x,H1,I1,r1,q1⟩=>?_)
 obtain⟨c,rfl,q1⟩:=q1
 cases r1
 refine wpAny_truthy_bool ?_
 cases c with
 | true=>exact hb pins s1 σ H1 Q I1 q1
 | false=>exact⟨.bl false,H1,I1,rfl,q1⟩
theorem BE (ha:PE X a ta)(hb:PE X (.BoolOp .Or (b::rest) pos) tb):PE X (.BoolOp .Or (a::b::rest) pos) (Dl ta tb):=by
 walk_at "xc"
 refine BoolOp_or (bU (ha pins s σ H _ I h) λv s1 ⟨x,H1,I1,r1,q1⟩=>?_)
 obtain⟨c,rfl,q1⟩:=q1
 cases r1
 refine wpAny_truthy_bool ?_
 cases c with
 | false=>exact hb pins s1 σ H1 Q I1 q1
 | true=>exact⟨.bl true,H1,I1,rfl,q1⟩
theorem wu (ha:PE X a ta):PE X (.UnaryOp .Not a pos) (wt ta):=by
 walk_at "xc"
 refine UnaryOp_ (bU (ha pins s σ H _ I h) λv s1 ⟨x,H1,I1,r1,q1⟩=>?_)
 obtain⟨c,rfl,q1⟩:=q1
 cases r1
 exact not_of (wpAny_truthy_bool ⟨.bl (!c),H1,I1,rfl,q1⟩)
def Kt (t:TT)(ta tb:TE):TE:=λσ H Q=>t σ H λc H1=>if c=true then ta σ H1 Q else tb σ H1 Q
end
end
section
variable {X:Cx}{e tg:Expr}{pins:List (Addr×Obj)}{σ:St}{K:W.Frag}
def aX (K:W.Frag)(H:Hp)(a:Addr)(xs:List V):Prop:=
 Rd H a (.lst xs)\/
  ∃(o:Obj) (aE:Array Value) (n:Nat),K.lookup a=some o/\o.cls=.type "list"/\o.dict=none/\o.data=.seq aE n/\aE.size<=sizeLine/\Vals xs aE.toList
def bM (K:W.Frag)(H:Hp)(a:Addr)(xs:List V):Prop:=
 Rd H a (.tup xs)\/
  ∃(o:Obj) (aE:Array Value) (n:Nat),K.lookup a=some o/\o.cls=.type "tuple"/\o.data=.seq aE n/\aE.size<=sizeLine/\Vals xs aE.toList
def Ku:Value->Option V
 | .none=>some .bb
 | .bool b=>some (.bl b)
 | .int i _=>some (.int i)
 | .str x _=>some (.str x)
 | .bytes b _=>some (.qd b)
 | .float b _=>some (.By b)
 | .ref a=>some (.ref a)
 | .type n=>some (.ty n)
 | _=>none
theorem RelV.abs{x:V}{u:Value}(r:RelV x u):Ku u=some x:=by
 cases x with
 | bb=>cases r;rfl
 | bl _=>cases r;rfl
 | int _=>obtain⟨t,rfl⟩:=r;rfl
 | str _=>obtain⟨t,rfl⟩:=r;rfl
 | qd _=>obtain⟨t,rfl⟩:=r;rfl
 | By _=>obtain⟨t,rfl⟩:=r;rfl
 | ref _=>cases r;rfl
 | ty _=>cases r;rfl
theorem RelV.inj{x y:V}{u:Value}(r:RelV x u)(q:RelV y u):x=y:=Option.some.inj (r.abs.symm.trans q.abs)
theorem Vals.inj:∀{xs ys:List V} {us:List Value},Vals xs us->Vals ys us->xs=ys
 | _,_,_,.nil,.nil=>rfl
 | _,_,_,.cons r t,.cons r' t'=>by rw[r.inj r',Vals.inj t t']
section
variable {X:Cx}{pins:List (Addr×Obj)}{σ:St}{H:Hp}{s:Shared}{a:Addr}{xs ys:List V}
theorem aX.of(h:H a=some (.lst xs)):aX K H a xs:=.inl (.inl h)
theorem bM.of(h:H a=some (.tup xs)):bM K H a xs:=.inl (.inl h)
theorem Inv.list(I:Inv X pins σ H s)(h:aX X.K H a xs):∃aE:List Value,Vals xs aE/\PlainL s.heap a aE.toArray/\xs.length<=sizeLine:=by
 rcases h with h | ⟨o,aE,n,hk,hc,hd,hs,hz,r⟩
 ·obtain⟨z,aE,n,r,e⟩:=h.ok I.ba
  exact⟨aE,r,⟨_,n,e,rfl,rfl,rfl⟩,z⟩
 ·refine⟨aE.toList,r,⟨o,n,I.dP a o hk,hc,hd,by simpa using hs⟩,?_⟩
  have e:=r.length
  simp only[Array.length_toList] at e
  omega
theorem Inv.tuple(I:Inv X pins σ H s)(h:bM X.K H a xs):∃aE:List Value,Vals xs aE/\IsTup s.heap a aE.toArray/\xs.length<=sizeLine:=by
 rcases h with h | ⟨o,aE,n,hk,hc,hs,hz,r⟩
 ·obtain⟨z,aE,r,p⟩:=h.ok I.ba
  exact⟨aE,r,p,z⟩
 ·refine⟨aE.toList,r,⟨o,I.dP a o hk,hc,n,by simpa using hs⟩,?_⟩
  have e:=r.length
  simp only[Array.length_toList] at e
  omega
theorem Inv.ow(I:Inv X pins σ H s)(h:aX X.K H a xs)(h':aX X.K H a ys):xs=ys:=by
 obtain⟨aE,r,⟨o,n,e,_,_,d⟩,_⟩:=I.list h
 obtain⟨f6,r',⟨o',n',e',_,_,d'⟩,_⟩:=I.list h'
 rw[e] at e';cases e'
 rw[d] at d'
 injection d' with d1 _
 have:aE=f6:=by simpa using congrArg Array.toList d1
 subst this
 exact r.inj r'
theorem Inv.mi(I:Inv X pins σ H s)(h:bM X.K H a xs)(h':bM X.K H a ys):xs=ys:=by
 obtain⟨aE,r,⟨o,e,_,n,d⟩,_⟩:=I.tuple h
 obtain⟨f6,r',⟨o',e',_,n',d'⟩,_⟩:=I.tuple h'
 rw[e] at e';cases e'
 rw[d] at d'
 injection d' with d1 _
 have:aE=f6:=by simpa using congrArg Array.toList d1
 subst this
 exact r.inj r'
end
abbrev Cx.gJ(X:Cx)(E:Value->Shared->Prop):Cx:={X with xe:=E}
abbrev Cx.lK(X:Cx):Cx:=X.gJ λ_ _=>False
theorem Cx.Ok.gJ(ok:X.Ok)(E:Value->Shared->Prop):(X.gJ E).Ok:=
 ⟨ok.mod,ok.kind,ok.glob,ok.blt,ok.above,ok.inj,ok.has,ok.De,ok.hd,ok.frames,ok.FI,ok.GC,ok.bs,ok.t5,ok.oq,ok.qk,ok.iz,ok.Ac⟩
theorem Cx.Ok.cO{E:Value->Shared->Prop}(ok:(X.gJ E).Ok):X.Ok:=
 ⟨ok.mod,ok.kind,ok.glob,ok.blt,ok.above,ok.inj,ok.has,ok.De,ok.hd,ok.frames,ok.FI,ok.GC,ok.bs,ok.t5,ok.oq,ok.qk,ok.iz,ok.Ac⟩
section
variable {X:Cx}{pins:List (Addr×Obj)}{σ:St}{H:Hp}{s:Shared}{E:Value->Shared->Prop}
theorem Inv.gJ(I:Inv X pins σ H s)(E:Value->Shared->Prop):Inv (X.gJ E) pins σ H s:=⟨I.ok.gJ E,I.os,I.bare,I.base,I.loc,I.cell,I.free,I.eG,I.pin,I.ba,I.len⟩
theorem Inv.cO(I:Inv (X.gJ E) pins σ H s):Inv X pins σ H s:=⟨I.ok.cO,I.os,I.bare,I.base,I.loc,I.cell,I.free,I.eG,I.pin,I.ba,I.len⟩
theorem SP.cO{D:Ends}{f:Flow}{s':Shared}(h:SP (X.gJ E) pins D f s'):SP X pins D f s':=by
 cases f with
 | next=>obtain⟨σ',H',I,q⟩:=h;exact⟨σ',H',I.cO,q⟩
 | brk=>obtain⟨σ',H',I,q⟩:=h;exact⟨σ',H',I.cO,q⟩
 | cont=>obtain⟨σ',H',I,q⟩:=h;exact⟨σ',H',I.cO,q⟩
 | ret u=>obtain⟨v,σ',H',I,r,q⟩:=h;exact⟨v,σ',H',I.cO,r,q⟩
theorem PE.lK{t:TE}(h:PE X.lK e t):PE X e t:=.mk λpins s σ H Q I hw=>
 wpAny_mono (h pins s σ H Q (I.gJ _) hw) (λ_ _ ⟨v,H',I',r,q⟩=>⟨v,H',I'.cO,r,q⟩) λ_ _ z=>False.elim z
theorem PT.lK{t:TT}(h:PT X.lK e t):PT X e t:=.mk λpins s σ H Q I hw=>
 wpAny_mono (h pins s σ H Q (I.gJ _) hw) (λ_ _ ⟨H',I',q⟩=>⟨H',I'.cO,q⟩) λ_ _ z=>False.elim z
theorem kr.lK{st:List Stmt}{t:TS}(h:kr X.lK st t):kr X st t:=.mk λpins s σ H D I hw=>
 wpAny_mono (h pins s σ H D (I.gJ _) hw) (λ_ _ q=>q.cO) λ_ _ z=>False.elim z
end
section
variable {X:Cx}{st:Stmt}{rest:List Stmt}{t u:TS}{e:Expr}{te:TE}{pos:Pos}
def wx:TS:=λD σ H=>D.nx σ H
def wy (t u:TS):TS:=λD σ H=>t {D with nx:=u D} σ H
theorem aP:kr X [] wx:=.mk λ_ _ σ H _ I h=>wpAny_execs_nil ⟨σ,H,I,h⟩
theorem aj (h1:PS X st t)(h2:kr X rest u):kr X (st::rest) (wy t u):=by
 walk_at "xd"
 refine wpAny_execs_cons (bU (h1 pins s σ H {D with nx:=u D} I h) λf s1 q=>?_)
 cases f with
 | next=>
  obtain⟨σ',H',I',q⟩:=q
  exact h2 pins s1 σ' H' D I' q
 | ret v=>exact q
 | brk=>exact q
 | cont=>exact q
theorem au (h1:PS X st t):kr X [st] t:=by
 walk_at "xd"
 refine wpAny_execs_cons (bU (h1 pins s σ H D I h) λf s1 q=>?_)
 cases f with
 | next=>exact wpAny_execs_nil q
 | ret v=>exact q
 | brk=>exact q
 | cont=>exact q
theorem Inv.quiet{H:Hp}{s:Shared}(I:Inv X pins σ H s):interactive X.env=false:=by simp[interactive,I.ok.kind]
def oy (te:TE):TS:=λD σ H=>te σ H λ_ H1=>D.nx σ H1
theorem Ad (he:PE X e te)(hs:swapsWith e none pos.line X.env=pure false:=by rfl):PS X (.Expr e pos) (oy te):=by
 walk_at "xd"
 exact wpAny_Expr_any (bU (he pins s σ H _ I h) λv s1 ⟨x,H1,I1,r1,q1⟩=>⟨σ,H1,I1,q1⟩) I.quiet hs
def Ae (te:TE):TS:=λD σ H=>te σ H D.rt
theorem aK (he:PE X e te):PS X (.Return (some e) pos) (Ae te):=by
 walk_at "xd"
 exact wpAny_Return_some (bU (he pins s σ H _ I h) λv s1 ⟨x,H1,I1,r1,q1⟩=>⟨x,σ,H1,I1,r1,q1⟩)
def BF:TS:=λD _ H=>D.rt .bb H
def Af (c:TT)(t u:TS):TS:=λD σ H=>c σ H λb H1=>if b=true then t D σ H1 else u D σ H1
theorem bg {c:Expr}{a b:List Stmt}{tc:TT}(hc:PT X c tc)(ha:kr X a t)(hb:kr X b u):PS X (.If c a b pos) (Af tc t u):=by
 walk_at "xd"
 refine wpAny_If (bU (hc pins s σ H _ I h) λd s1 ⟨H1,I1,q1⟩=>?_)
 cases d with
 | true=>exact ha pins s1 σ H1 D I1 q1
 | false=>exact hb pins s1 σ H1 D I1 q1
def ql:TS:=λ_ _ _=>False
theorem f7:PS X st ql:=.mk λ_ _ _ _ _ _ h=>h.elim
end
abbrev TG:=V->St->Hp->(St->Hp->Prop)->Prop
abbrev BG:=List V->St->Hp->(St->Hp->Prop)->Prop
structure PG (X:Cx)(target:Expr)(t:TG):Prop where
 out:
  ∀(pins:List (Addr×Obj)) (s:Shared) (σ:St) (H:Hp) (v:V) (u:Value) (Q:St->Hp->Prop),Inv X pins σ H s->RelV v u->t v σ H Q->
   wpAny (model X.prog X.w) X.A (assign target X.env u) (λ_ s'=>∃σ' H',Inv X pins σ' H' s'/\Q σ' H') X.xe s
instance {X:Cx}{target:Expr}{t:TG}:CoeFun (PG X target t) λ_=>
 ∀(pins:List (Addr×Obj)) (s:Shared) (σ:St) (H:Hp) (v:V) (u:Value) (Q:St->Hp->Prop),Inv X pins σ H s->RelV v u->t v σ H Q->
  wpAny (model X.prog X.w) X.A (assign target X.env u) (λ_ s'=>∃σ' H',Inv X pins σ' H' s'/\Q σ' H') X.xe s:=⟨PG.out⟩
structure FJ (X:Cx)(ts:List Expr)(t:BG):Prop where
 out:
  ∀(pins:List (Addr×Obj)) (s:Shared) (σ:St) (H:Hp) (vs:List V) (us:List Value) (Q:St->Hp->Prop),Inv X pins σ H s->Vals vs us->t vs σ H Q->
   wpAny (model X.prog X.w) X.A (assignInOrder ((assignEach ts X.env).map (·.2)) us) (λ_ s'=>∃σ' H',Inv X pins σ' H' s'/\Q σ' H') X.xe s
instance {X:Cx}{ts:List Expr}{t:BG}:CoeFun (FJ X ts t) λ_=>
 ∀(pins:List (Addr×Obj)) (s:Shared) (σ:St) (H:Hp) (vs:List V) (us:List Value) (Q:St->Hp->Prop),Inv X pins σ H s->Vals vs us->t vs σ H Q->
  wpAny (model X.prog X.w) X.A (assignInOrder ((assignEach ts X.env).map (·.2)) us) (λ_ s'=>∃σ' H',Inv X pins σ' H' s'/\Q σ' H') X.xe s:=⟨FJ.out⟩
abbrev Dm:=V->V->V->Hp->(Hp->Prop)->Prop
def Dn (X:Cx)(t:Dm):Prop:=
 ∀(pins:List (Addr×Obj)) (s:Shared) (σ:St) (H:Hp) (o i v:V) (ov iv u:Value) (Q:Hp->Prop),Inv X pins σ H s->RelV o ov->RelV i iv->RelV v u->t o i v H Q->
  wpAny (model X.prog X.w) X.A (setItem ov iv u) (λ_ s'=>∃H',Inv X pins σ H' s'/\Q H') X.xe s
abbrev NI:=V->V->Hp->VK->Prop
section
variable {X:Cx}{pos:Pos}
def eH (i:Nat):TG:=λv σ H Q=>Q (σ.set i (some v)) H
theorem bf {i:Nat}{x:Str}(hN:X.N.Nodup)(hi:X.N[i]?=some x)(hx:Loc X.env.scope x)(hf:X.fn x=true\/X.env.scope.names.lookup x=some .local:=by first | exact .inl rfl | exact .inr rfl | assumption):PG X (.Name x pos) (eH i):=by
 refine⟨?_⟩
 intro pins s σ H v u Q I r h
 exact wpAny_assign_Name (fY I hN hi hx r (λs' I'=>⟨_,H,I',h⟩) hf)
def Dp:BG:=λvs σ H Q=>vs=[]/\Q σ H
def oz (t:TG)(u:BG):BG:=λvs σ H Q=>∃v r,vs=v::r/\t v σ H λσ' H'=>u r σ' H' Q
theorem Ag:FJ X [] Dp:=by
 refine⟨?_⟩
 intro pins s σ H vs us Q I r h
 obtain⟨e,h⟩:=h
 subst e
 cases r
 exact assignInOrder_nil ⟨σ,H,I,h⟩
theorem oA {es:List Expr}{t:TG}{u:BG}(h1:PG X e t)(h2:FJ X es u)
  (hs:(assignEach (e::es) X.env).map (·.2)=assign e X.env::(assignEach es X.env).map (·.2):=by rfl):FJ X (e::es) (oz t u):=by
 refine⟨?_⟩
 intro pins s σ H vs us Q I r h
 obtain⟨v,vr,e1,h⟩:=h
 subst e1
 cases r with
 | cons r rr=>
  rw[hs]
  refine assignInOrder_cons (bU (h1 pins s σ H _ _ _ I r h) λ_ s1 ⟨σ1,H1,I1,q1⟩=>?_)
  exact h2 pins s1 σ1 H1 _ _ Q I1 rr q1
def Dq (K:W.Frag)(n:Nat)(t:BG):TG:=λv σ H Q=>∃a xs,v=.ref a/\bM K H a xs/\xs.length=n/\t xs σ H Q
theorem Dr {es:List Expr}{k:Nat}{t:BG}{n:Nat}(hc:X.calm=true)(h:FJ X es t)
  (hn:(assignEach es X.env).length=n:=by rfl) (wz:(assignEach es X.env).findIdx? (·.1)=none:=by rfl):PG X (.Tuple es k pos) (Dq X.K n t):=by
 refine⟨?_⟩
 intro pins s σ H v u Q I r hw
 obtain⟨a,xs,e1,hq,hl,hw⟩:=hw
 subst e1
 cases r
 obtain⟨aE,rv,ht,hz⟩:=I.tuple hq
 refine assign_Tuple_tuple (I.ok.hd hc) ht (by simp[hn,<-hl,rv.length]) wz λh' hx=>?_
 have I1:Inv X pins σ H {s with heap:=h'}:=I.kept (t':=s.toks) λb o e=>hx b o (Nat.ne_of_lt (Heap.lt_size e)) e
 exact h pins _ σ H xs _ Q I1 (by simpa using rv) hw
def Ds (to ti:TE)(t:Dm):TG:=λv σ H Q=>to σ H λo H1=>ti σ H1 λi H2=>t o i v H2 λH3=>Q σ H3
theorem i5 {o i:Expr}{to ti:TE}{t:Dm}(ho:PE X o to)(hi:PE X i ti)(hs:Dn X t)
  (ha:∀v,assign (.Subscript o i pos) X.env v=(do
   let ov <-holding [v] (eval o X.env)
   let iv <-holding [v,ov] (eval i X.env)
   standAt pos
   holding [v,ov,iv] (setItem ov iv v)
   release [v,ov,iv] []):=by intro _;rfl):PG X (.Subscript o i pos) (Ds to ti t):=by
 refine⟨?_⟩
 intro pins s σ H v u Q I r h
 rw[ha]
 refine wpAny_bind (wpAny_holding (bU (ho pins s σ H _ I h) λov s1 ⟨x,H1,I1,r1,q1⟩=>?_))
 refine wpAny_bind (wpAny_holding (bU (hi pins s1 σ H1 _ I1 q1) λiv s2 ⟨y,H2,I2,r2,q2⟩=>?_))
 refine wpAny_bind (wpAny_standAt (wpAny_bind (wpAny_holding (bU (hs pins s2 σ H2 x y v ov iv u _ I2 r1 r2 r q2) λ_ s3 ⟨H3,I3,q3⟩=>?_))))
 exact wpAny_release ⟨σ,H3,I3,q3⟩
def qm (te:TE)(g:TG):TS:=λD σ H=>te σ H λx H1=>g x σ H1 D.nx
theorem i6 {te:TE}{g:TG}(he:PE X e te)(hg:PG X tg g)(hs:swapsWithSole [tg] e pos.line X.env=pure false:=by rfl)(hw:swappedStores [tg] e X.env=pure none:=by rfl)
  (h1:(assignEach [tg] X.env).map (·.2)=[assign tg X.env]:=by rfl):PS X (.Assign [tg] e pos) (qm te g):=by
 walk_at "xd"
 refine wpAny_Assign_stores (bU (he pins s σ H _ I h) λv s1 ⟨x,H1,I1,r1,q1⟩=>?_) hs hw
 rw[h1]
 exact bU (hg pins s1 σ H1 x v _ I1 r1 q1) λ_ s2 q=>q
theorem Dt {i:Nat}{x:Str}{te:TE}{pos':Pos}(hN:X.N.Nodup)(hi:X.N[i]?=some x)(hx:Loc X.env.scope x)(he:PE X e te)(hs:swapsWith e (some (.Name x pos')) pos.line X.env=pure false:=by rfl)(hf:X.fn x=true\/X.env.scope.names.lookup x=some .local:=by first | exact .inl rfl | exact .inr rfl | assumption):
  PS X (.Assign [.Name x pos'] e pos) (qm te (eH i)):=by
 walk_at "xd"
 refine wpAny_Assign_Name (bU (he pins s σ H _ I h) λv s1 ⟨y,H1,I1,r1,q1⟩=>?_) hs
 exact fY I1 hN hi hx r1 (λs2 I2=>⟨_,H1,I2,q1⟩) hf
def GH (i:Nat)(te:TE)(ti:NI):TS:=λD σ H=>∃x,σ[i]?=some (some x)/\te σ H λy H1=>ti x y H1 λz H2=>D.nx (σ.set i (some z)) H2
def NJ (f:Int->Int->Int):NI:=λx y H Q=>∃i j,x=.int i/\y=.int j/\Q (.int (f i j)) H
end
section
variable {X:Cx}{pos:Pos}
def qo (c:TT)(tb:TS):TS:=λD σ H=>∃W:Nat->St->Hp->Prop,(∃m,W m σ H)/\∀m σ H,W m σ H->
 c σ H λb H1=>if b=true then ∃N:St->Hp->Prop,(∀σ' H',N σ' H'->∃m',m' < m/\W m' σ' H')/\tb {D with nx:=N,ct:=N,bk:=D.nx} σ H1 else D.nx σ H1
theorem oB {c:Expr}{body:List Stmt}{tc:TT}{tb:TS}(hp:PassesOwn (model X.prog X.w) X.A X.env X.xe)(hc:PT X c tc)(hb:kr X body tb):PS X (.While c body [] pos) (qo tc tb):=by
 walk_at "xd"
 obtain⟨W,⟨m0,w0⟩,turn⟩:=h
 refine wpAny_While (codeAny_whileLoop (λn s'=>∃σ' H',Inv X pins σ' H' s'/\W n σ' H') ?_ m0 ⟨σ,H,I,w0⟩)
 rintro n s1 ⟨σ1,H1,I1,w1⟩
 refine wpAny_passesOwn hp (bU (hc pins s1 σ1 H1 _ I1 (turn n σ1 H1 w1)) λb s2 ⟨H2,I2,q2⟩=>?_)
 cases b with
 | true=>
  obtain⟨N,hN,q2⟩:=q2
  rw[if_pos rfl]
  refine wpAny_passesOwn hp (bU (hb pins s2 σ1 H2 _ I2 q2) λf s3 q3=>?_)
  cases f with
  | next=>
   obtain⟨σ3,H3,I3,n3⟩:=q3
   obtain⟨m',hm,w3⟩:=hN σ3 H3 n3
   exact⟨m',hm,σ3,H3,I3,w3⟩
  | cont=>
   obtain⟨σ3,H3,I3,n3⟩:=q3
   obtain⟨m',hm,w3⟩:=hN σ3 H3 n3
   exact⟨m',hm,σ3,H3,I3,w3⟩
  | brk=>exact q3
  | ret v=>exact q3
 | false=>
  rw[if_neg Bool.false_ne_true]
  exact wpAny_execs_nil ⟨σ1,H2,I2,q2⟩
end
structure It where
 go:Nat->Hp->Prop
 BH:Nat->Hp->V->Hp->Prop
 stop:Nat->Hp->Prop
def i8 (X:Cx)(pins:List (Addr×Obj))(H:Hp)(b:Addr):Prop:=
 H b=none/\b≠X.env.locals/\b ∉ X.fs/\(b ∈ X.ex\/X.s₀.heap.objs.size<=b)/\(∀x c,X.env.cells.lookup x=some c->c≠b)/\∀p ∈ X.pn++pins,p.1≠b
theorem Inv.wA{H H':Hp}{s:Shared}{b:Addr}(I:Inv X pins σ H s)(hb:s.heap.objs.size<=b)(hn:H' b=none):i8 X pins H' b:=by
 refine⟨hn,Nat.ne_of_gt (Nat.lt_of_lt_of_le I.lt hb),I.Dg hb,.inr (Nat.le_trans I.sz hb),λx c e z=>?_,λp hp z=>?_⟩
 ·obtain⟨v,q⟩:=I.cell x c e
  exact absurd (Nat.lt_of_lt_of_le q.lt (by rw[z];exact hb)) (Nat.lt_irrefl _)
 ·exact absurd (Nat.lt_of_lt_of_le (Heap.lt_size (I.pin p hp).1) (by rw[z];exact hb)) (Nat.lt_irrefl _)
structure Turn (P:Program)(w:World)(K:W.Frag)(tg:Expr)(J:It)(fp:List Addr)(it:Addr)(tn:Nat->Heap->Prop):Prop where
 mem:it ∈ fp
 obj:∀i h,tn i h->∀b ∈ fp,∃o,h.get? b=some o/\∀v,o.data≠.cell v
 keep:∀i h h',tn i h->(∀b ∈ fp,∀o,h.get? b=some o->h'.get? b=some o)->tn i h'
 item:∀(X:Cx),X.prog=P->X.w=w->X.K=K->X.calm=true->∀(i:Nat) (pins:List (Addr×Obj)) (s:Shared) (σ:St) (H:Hp) (E:Value->Shared->Prop),Inv X pins σ H s->(∀b ∈ fp,i8 X pins H b)->tn i s.heap->J.go i H->
  wpAny (model P w) X.A (pyNext (.ref it)) (λr s1=>∃u,r=some u/\
   wpAny (model P w) X.A (letOwnedTupleGo tg (.ref it) u) (λ_ s2=>∃x H',Inv X pins σ H' s2/\RelV x u/\J.BH i H x H'/\tn (i + 1) s2.heap/\∀b ∈ fp,H' b=none) E s1) E s
 done:∀(X:Cx),X.prog=P->X.w=w->X.K=K->X.calm=true->∀(i:Nat) (pins:List (Addr×Obj)) (s:Shared) (σ:St) (H:Hp) (E:Value->Shared->Prop),Inv X pins σ H s->(∀b ∈ fp,i8 X pins H b)->tn i s.heap->J.stop i H->
  wpAny (model P w) X.A (pyNext (.ref it)) (λr s1=>r=none/\Inv X pins σ H s1) E s
 self:∀(A:Around) (i:Nat) (s:Shared) (Q:Value->Shared->Prop) (E:Value->Shared->Prop),tn i s.heap->Q (.ref it) s->wpAny (model P w) A (pyIter (.ref it)) Q E s
abbrev TI:=St->Hp->(It->Hp->Prop)->Prop
def Kv (X:Cx)(pins:List (Addr×Obj))(σ:St)(tg:Expr)(R:It->Hp->Prop)(Jt:Value)(s2:Shared):Prop:=
 ∃(it:Addr) (fp:List Addr) (tn:Nat->Heap->Prop) (J:It) (H':Hp),Jt=.ref it/\Inv X pins σ H' s2/\Turn X.prog X.w X.K tg J fp it tn/\tn 0 s2.heap/\(∀b ∈ fp,i8 X pins H' b)/\R J H'
structure PI (X:Cx)(tg iter:Expr)(wi:TI):Prop where
 out:
  ∀(pins:List (Addr×Obj)) (s:Shared) (σ:St) (H:Hp) (R:It->Hp->Prop),Inv X pins σ H s->wi σ H R->
   wpAny (model X.prog X.w) X.A (eval iter X.env) (λv s1=>wpAny (model X.prog X.w) X.A (pyIter v) (Kv X pins σ tg R) X.xe s1) X.xe s
instance {X:Cx}{tg iter:Expr}{wi:TI}:CoeFun (PI X tg iter wi) λ_=>
 ∀(pins:List (Addr×Obj)) (s:Shared) (σ:St) (H:Hp) (R:It->Hp->Prop),Inv X pins σ H s->wi σ H R->
  wpAny (model X.prog X.w) X.A (eval iter X.env) (λv s1=>wpAny (model X.prog X.w) X.A (pyIter v) (Kv X pins σ tg R) X.xe s1) X.xe s:=⟨PI.out⟩
theorem wB {M:Model}{A:Around}{E:Value->Shared->Prop}{s:Shared}{tg:Expr}{it:Addr}{u:Value}{o:Obj}{n:String}{vs:Array Value}{Q:Unit->Shared->Prop}(ho:s.heap.get? it=some o)(hc:o.cls=.type n)(hd:o.data=.fields vs)
    (hn:["enumerate","zip","dict_itemiterator","dict_reverseitemiterator","odict_iterator","itertools.zip_longest","itertools.pairwise"].contains n=false) (hQ:Q () s):wpAny M A (letOwnedTupleGo tg (.ref it) u) Q E s:=by
  unfold letOwnedTupleGo
  cases tg <;> first
    | exact wpAny_pure hQ
    | (cases u <;> first
        | exact wpAny_pure hQ
        | (refine wpAny_bind (wpAny_load ho ?_)
           rw[hc,hd]
           show wpAny M A (if (["enumerate","zip","dict_itemiterator","dict_reverseitemiterator","odict_iterator","itertools.zip_longest","itertools.pairwise"].contains n && vs[0]? == some (rawInt _))=true then _ else _) Q E s
           rw[if_neg (by intro h;rw[hn,Bool.false_and] at h;cases h)]
           exact wpAny_pure hQ))
def ud (K:W.Frag)(a:Addr):It:=
 ⟨λi H=>∃xs x,aX K H a xs/\xs[i]?=some x,λi H x H'=>H'=H/\∀xs,aX K H a xs->xs[i]?=some x,λi H=>∃xs,aX K H a xs/\xs.length<=i⟩
def Kw (K:W.Frag)(a:Addr):It:=
 ⟨λi H=>∃xs x,bM K H a xs/\xs[i]?=some x,λi H x H'=>H'=H/\∀xs,bM K H a xs->xs[i]?=some x,λi H=>∃xs,bM K H a xs/\xs.length<=i⟩
def vO (lo:Int)(n:Nat):It:=⟨λi _=>i < n,λi H x H'=>H'=H/\x=.int (lo + i),λi _=>n<=i⟩
theorem uf {P:Program}{w:World}(a it:Addr):Turn P w K tg (ud K a) [it] it (λi h=>h.IsListIter it a i) where
 mem:=by simp
 obj:=λi h st b hb=>by
  have e:b=it:=by simpa using hb
  subst e
  obtain⟨o,e,c,d⟩:=st
  exact⟨o,e,λv z=>by rw[d] at z;cases z⟩
 keep:=λi h h' st k=>st.at λo e=>k it (by simp) o e
 item:=by
  intro X hP hw hK hc i pins s σ H E I hf st hg
  subst hP hw hK
  obtain⟨xs,x,hq,hx⟩:=hg
  obtain⟨aE,rv,p,hz⟩:=I.list hq
  obtain⟨u,hu,ru⟩:=rv.get hx
  obtain⟨f0,f1,f2,f3,f4,f5⟩:=hf it (by simp)
  refine wpAny_pyNext_list_item st p.isList (x:=u) (by simpa using hu) λh' wC sb=>?_
  have I1:Inv X pins σ H {s with heap:=h'}:=I.turned (t':=s.toks) (λb o hb e=>(sb.2 b hb).trans e) f0 f1 f3 f4 f5
  obtain⟨o,e,c,d⟩:=id wC
  exact⟨u,rfl,wB (s:={s with heap:=h'}) e c d (by decide) ⟨x,H,I1,ru,⟨rfl,λys hy=>by rw[I.ow hy hq];exact hx⟩,wC,λb hb=>(hf b hb).1⟩⟩
 done:=by
  intro X hP hw hK hc i pins s σ H E I hf st hg
  subst hP hw hK
  obtain⟨xs,hq,hx⟩:=hg
  obtain⟨aE,rv,p,hz⟩:=I.list hq
  obtain⟨f0,f1,f2,f3,f4,f5⟩:=hf it (by simp)
  have hl:=rv.length
  exact wpAny_pyNext_list_end (I.ok.hd hc) st p.isList (by simp;omega) λh' eb=>⟨rfl,I.turned (t':=s.toks) (λb o hb e=>eb b o hb e) f0 f1 f3 f4 f5⟩
 self:=λ_ _ _ _ _ st h=>wpAny_pyIter_listiter st h
theorem qp {P:Program}{w:World}(a it:Addr):Turn P w K tg (Kw K a) [it] it (λi h=>h.IsTupleIter it a i) where
 mem:=by simp
 obj:=λi h st b hb=>by
  have e:b=it:=by simpa using hb
  subst e
  obtain⟨o,e,c,d⟩:=st
  exact⟨o,e,λv z=>by rw[d] at z;cases z⟩
 keep:=λi h h' st k=>st.at λo e=>k it (by simp) o e
 item:=by
  intro X hP hw hK hc i pins s σ H E I hf st hg
  subst hP hw hK
  obtain⟨xs,x,hq,hx⟩:=hg
  obtain⟨aE,rv,p,hz⟩:=I.tuple hq
  obtain⟨u,hu,ru⟩:=rv.get hx
  obtain⟨f0,f1,f2,f3,f4,f5⟩:=hf it (by simp)
  refine wpAny_pyNext_tuple_item st (show s.heap.IsTuple a aE.toArray from p) (x:=u) (by simpa using hu) λh' wC sb=>?_
  have I1:Inv X pins σ H {s with heap:=h'}:=I.turned (t':=s.toks) (λb o hb e=>(sb.2 b hb).trans e) f0 f1 f3 f4 f5
  obtain⟨o,e,c,d⟩:=id wC
  exact⟨u,rfl,wB (s:={s with heap:=h'}) e c d (by decide) ⟨x,H,I1,ru,⟨rfl,λys hy=>by rw[I.mi hy hq];exact hx⟩,wC,λb hb=>(hf b hb).1⟩⟩
 done:=by
  intro X hP hw hK hc i pins s σ H E I hf st hg
  subst hP hw hK
  obtain⟨xs,hq,hx⟩:=hg
  obtain⟨aE,rv,p,hz⟩:=I.tuple hq
  obtain⟨f0,f1,f2,f3,f4,f5⟩:=hf it (by simp)
  have hl:=rv.length
  exact wpAny_pyNext_tuple_end (I.ok.hd hc) st (show s.heap.IsTuple a aE.toArray from p) (by simp;omega) λh' eb=>⟨rfl,I.turned (t':=s.toks) (λb o hb e=>eb b o hb e) f0 f1 f3 f4 f5⟩
 self:=λ_ _ _ _ _ st h=>wpAny_pyIter_tupleiter st h
theorem qr {P:Program}{w:World}(it:Addr)(lo:Int)(n:Nat):Turn P w K tg (vO lo n) [it] it (λi h=>IsRangeIter h it (lo + (i:Nat) * 1) ((n:Int) - (i:Nat)) 1) where
 mem:=by simp
 obj:=λi h st b hb=>by
  have e:b=it:=by simpa using hb
  subst e
  exact⟨_,st,λv z=>by
   have z':Data.fields _=Data.cell v:=z
   cases z'⟩
 keep:=λi h h' st k=>k it (by simp) _ st
 item:=by
  intro X hP hw hK hc i pins s σ H E I hf st hg
  subst hP hw hK
  obtain⟨f0,f1,f2,f3,f4,f5⟩:=hf it (by simp)
  have W:=Walks.range (prog:=X.prog) (w:=X.w) (I.ok.hd hc) it lo 1 n
  refine W.item i s _ _ hg st λv h' tk hv wC kk=>?_
  obtain⟨t,rfl⟩:=hv
  have I1:Inv X pins σ H {s with heap:=h',toks:=tk}:=I.turned (λb o hb e=>kk b o (by simpa using hb) e) f0 f1 f3 f4 f5
  refine⟨_,rfl,wB (s:={s with heap:=h',toks:=tk}) (n:="range_iterator") wC rfl rfl (by decide) ⟨.int (lo + i),H,I1,⟨t,?_⟩,⟨rfl,rfl⟩,wC,λb hb=>(hf b hb).1⟩⟩
  rw[Int.mul_one]
 done:=by
  intro X hP hw hK hc i pins s σ H E I hf st hg
  subst hP hw hK
  obtain⟨f0,f1,f2,f3,f4,f5⟩:=hf it (by simp)
  exact wpAny_pyNext_range_end (I.ok.hd hc) st (by have:n<=i:=hg;omega) λh' eb=>⟨rfl,I.turned (t':=s.toks) (λb o hb e=>eb b o hb e) f0 f1 f3 f4 f5⟩
 self:=λ_ _ _ _ _ st h=>wpAny_pyIter_rangeiter st h
end
section
variable {H:Hp}{pins:List (Addr×Obj)}{s:Shared}{σ:St}{g:TG}{tb:TS}
section
variable {X:Cx}{tg:Expr}
theorem wD {R:It->Hp->Prop}{E:Value->Shared->Prop}{lo hi:Int}{t u v:Tok}{tk:Nat}(I:Inv X pins σ H s)(h1:-(2 ^ 62)<=lo)(h2:lo < 2 ^ 62)(h3:-(2 ^ 62)<=hi)(h4:hi < 2 ^ 62)
  (q:R (vO lo (hi - lo).toNat) H):wpAny (model X.prog X.w) X.A (pyIter (.ref s.heap.objs.size)) (Kv X pins σ tg R) E {s with heap:=s.heap.push {cls:=.type "range",data:=.fields #[.int lo t,.int hi u,.int 1 v]},toks:=tk}:=by
 refine wpAny_pyIter_range (IsRange.new ..) (small_one h1 h2 h3 h4) ?_
 have I1:Inv X pins σ H {s with heap:=s.heap.push {cls:=.type "range",data:=.fields #[.int lo t,.int hi u,.int 1 v]},toks:=tk}:=I.kept λb o e=>Heap.get?_push_of_some _ e
 refine⟨(s.heap.push {cls:=.type "range",data:=.fields #[.int lo t,.int hi u,.int 1 v]}).objs.size,[(s.heap.push {cls:=.type "range",data:=.fields #[.int lo t,.int hi u,.int 1 v]}).objs.size],_,_,H,rfl,
  I1.kept (t':=tk) λb o e=>Heap.get?_push_of_some _ e,qr _ lo (hi - lo).toNat,?_,λb hb=>?_,q⟩
 ·have e1:lo + ((0:Nat):Int) * 1=lo:=by simp
  have e2:(((hi - lo).toNat:Nat):Int) - ((0:Nat):Int)=Builtin.Range.rangeSize lo hi 1:=by rw[rangeSize_one];split <;> omega
  show IsRangeIter _ _ (lo + ((0:Nat):Int) * 1) ((((hi - lo).toNat:Nat):Int) - ((0:Nat):Int)) 1
  rw[e1,e2]
  exact Heap.get?_push_size _ rfl
 ·have e:b=(s.heap.push {cls:=.type "range",data:=.fields #[.int lo t,.int hi u,.int 1 v]}).objs.size:=by simpa using hb
  subst e
  exact I1.wA (Nat.le_refl _) (I1.ba.fresh (Nat.le_refl _))
def wF (ta:TA):TI:=λσ H R=>ta σ H λvs H1=>∃j:Int,vs=[.int j]/\-(2 ^ 62)<=j/\j < 2 ^ 62/\R (vO 0 j.toNat) H1
def BI (ta:TA):TI:=λσ H R=>ta σ H λvs H1=>∃i j:Int,vs=[.int i,.int j]/\(-(2 ^ 62)<=i/\i < 2 ^ 62/\-(2 ^ 62)<=j/\j < 2 ^ 62)/\R (vO i (j - i).toNat) H1
theorem cm {a:Expr}{ta:TA}{p pos:Pos}(hg:Gl X "range")(hm:X.mg "range"=none)(ha:PA X [a] ta)(hs:starEach [a] X.env=[(false,eval a X.env)]:=by rfl):PI X tg (.Call (.Name "range" p) [a] [] pos) (wF ta):=by
 refine⟨?_⟩
 intro pins s σ H R I h
 refine Call_ (i4 I hg hm boot_range (PyProof.Rows.callWith_type1 (bU (ha pos pins s σ H _ I h) λus s1 ⟨vs,H1,I1,r1,q1⟩=>?_) hs rfl))
 obtain⟨j,e,q1,q2,q⟩:=q1
 subst e
 cases r1 with
 | cons r rr=>
  cases rr
  obtain⟨t,rfl⟩:=r
  exact call_range_1 (wD I1 (by omega) (by omega) q1 q2 (by simpa using q))
def Du (wi:TI)(g:TG)(tb:TS):TS:=λD σ H=>wi σ H λJ H1=>∃W:Nat->Nat->St->Hp->Prop,(∃m,W 0 m σ H1)/\∀i m σ H,W i m σ H->
 (J.stop i H/\D.nx σ H)\/(J.go i H/\∃N:St->Hp->Prop,(∀σ' H',N σ' H'->∃m',m' < m/\W (i + 1) m' σ' H')/\∀x H',J.BH i H x H'->g x σ H' λσ2 H2=>tb {D with nx:=N,ct:=N,bk:=D.nx} σ2 H2)
def i9 (fp:List Addr)(h:Heap):List (Addr×Obj):=fp.filterMap λb=>(h.get? b).map λo=>(b,o)
theorem fJ {fp:List Addr}{h:Heap}{b:Addr}{o:Obj}(hb:b ∈ fp)(e:h.get? b=some o):(b,o) ∈ i9 fp h:=List.mem_filterMap.mpr ⟨b,hb,by rw[e];rfl⟩
theorem ug {fp:List Addr}{h:Heap}{p:Addr×Obj}(hp:p ∈ i9 fp h):p.1 ∈ fp/\h.get? p.1=some p.2:=by
 obtain⟨b,hb,e⟩:=List.mem_filterMap.mp hp
 cases q:h.get? b with
 | none=>rw[q] at e;cases e
 | some o=>
  rw[q] at e
  have e':(b,o)=p:=Option.some.inj e
  subst e'
  exact⟨hb,q⟩
theorem Inv.pinned{fp:List Addr}(I:Inv X pins σ H s)(hf:∀b ∈ fp,i8 X pins H b)(ho:∀b ∈ fp,∃o,s.heap.get? b=some o/\∀v,o.data≠.cell v):Inv X (pins++i9 fp s.heap) σ H s:=
 I.m7 λp hp=>(List.mem_append.mp hp).elim (λz=>I.pin p (List.mem_append_right _ z)) λz=>by
  obtain⟨hb,e⟩:=ug z
  obtain⟨f0,f1,f2,_⟩:=hf p.1 hb
  obtain⟨o,e',d⟩:=ho p.1 hb
  rw[e] at e';cases e'
  exact⟨e,f0,f1,f2,d⟩
theorem Inv.f9{pl:List (Addr×Obj)}(I:Inv X (pins++pl) σ H s):Inv X pins σ H s:=I.m7 λp hp=>I.pin p (List.mem_append_right _ (List.mem_append_left _ hp))
theorem eP {iter:Expr}{body:List Stmt}{wi:TI}{pos:Pos}(hp:PassesOwn (model X.prog X.w) X.A X.env X.xe)(hc:X.calm=true)(hi:PI X tg iter wi)(hg:PG X tg g)(hb:kr X body tb)
  (hs:∀x,foldedSetIterable iter X.env x=pure x:=by intro _;rfl):PS X (.For tg iter body [] pos) (Du wi g tb):=by
 walk_at "xd"
 refine wpAny_For (bU (hi pins s σ H _ I h) λv s1 h1=>bU h1 λJt s2 h2=>?_) hs
 obtain⟨it,fp,tn,J,H2,e,I2,T,rV,f2,W,⟨m0,w0⟩,turn⟩:=h2
 subst e
 have qt:∀{H':Hp},(∀b ∈ fp,H' b=none)->∀b ∈ fp,i8 X pins H' b:=λhn b hb=>⟨hn b hb,(f2 b hb).2⟩
 refine codeAny_forLoop_any (λn s'=>∃i σ' H',Inv X pins σ' H' s'/\tn i s'.heap/\(∀b ∈ fp,H' b=none)/\W i n σ' H') ?_ m0 ⟨0,σ,H2,I2,rV,λb hb=>(f2 b hb).1,w0⟩
 rintro n s3 ⟨i,σ3,H3,I3,iZ,GI,w3⟩
 rcases turn i n σ3 H3 w3 with⟨stop,qn⟩ | ⟨go,N,hN,step⟩
 ·refine wpAny_passesOwn hp (bU (T.done X rfl rfl rfl hc i pins s3 σ3 H3 X.xe I3 (qt GI) iZ stop) λr s4 ⟨hr,I4⟩=>?_)
  subst hr
  exact wpAny_execs_nil ⟨σ3,H3,I4,qn⟩
 ·refine wpAny_passesOwn hp (bU (T.item X rfl rfl rfl hc i pins s3 σ3 H3 X.xe I3 (qt GI) iZ go) λr s4 ⟨u,hr,h4⟩=>?_)
  subst hr
  refine wpAny_passesOwn hp (bU h4 λ_ s5 ⟨x,H5,I5,r5,y5,gL,Kx⟩=>?_)
  have Ky:=I5.pinned (qt Kx) (T.obj _ _ gL)
  refine wpAny_passesOwn hp (bU (hg _ s5 σ3 H5 x u _ Ky r5 (step x H5 y5)) λ_ s6 ⟨σ6,H6,I6,q6⟩=>?_)
  refine wpAny_passesOwn hp (bU (hb _ s6 σ6 H6 _ I6 q6) λf s7 q7=>?_)
  have again:∀{σ7:St} {H7:Hp},Inv X (pins++i9 fp s5.heap) σ7 H7 s7->N σ7 H7->∃m,m < n/\∃i σ' H',Inv X pins σ' H' s7/\tn i s7.heap/\(∀b ∈ fp,H' b=none)/\W i m σ' H':=λ{σ7 H7} I7 n7=>by
   obtain⟨m',hm,w7⟩:=hN σ7 H7 n7
   refine⟨m',hm,i + 1,σ7,H7,I7.f9,T.keep _ _ _ gL λb hb o e=>(I7.pin (b,o) (List.mem_append_right _ (List.mem_append_right _ (fJ hb e)))).1,λb hb=>?_,w7⟩
   obtain⟨o,e,d⟩:=T.obj _ _ gL b hb
   exact(I7.pin (b,o) (List.mem_append_right _ (List.mem_append_right _ (fJ hb e)))).2.1
  cases f with
  | next=>obtain⟨σ7,H7,I7,n7⟩:=q7;exact again I7 n7
  | cont=>obtain⟨σ7,H7,I7,n7⟩:=q7;exact again I7 n7
  | brk=>obtain⟨σ7,H7,I7,q7⟩:=q7;exact⟨σ7,H7,I7.f9,q7⟩
  | ret v=>obtain⟨x7,σ7,H7,I7,r7,q7⟩:=q7;exact⟨x7,σ7,H7,I7.f9,r7,q7⟩
end
theorem iA {K:W.Frag}{a:Addr}{xs:List V}{D:Ends}(Pv:Nat->St->Hp->Prop)(h0:Pv 0 σ H)(hl:∀i σ H,i<=xs.length->Pv i σ H->aX K H a xs)
  (hs:∀i x σ H,xs[i]?=some x->Pv i σ H->g x σ H λσ2 H2=>tb {D with nx:=Pv (i + 1),ct:=Pv (i + 1),bk:=D.nx} σ2 H2) (hd:∀σ H,Pv xs.length σ H->D.nx σ H):
  ∃W:Nat->Nat->St->Hp->Prop,(∃m,W 0 m σ H)/\∀i m σ H,W i m σ H->
   ((ud K a).stop i H/\D.nx σ H)\/((ud K a).go i H/\∃N:St->Hp->Prop,(∀σ' H',N σ' H'->∃m',m' < m/\W (i + 1) m' σ' H')/\∀x H',(ud K a).BH i H x H'->g x σ H' λσ2 H2=>tb {D with nx:=N,ct:=N,bk:=D.nx} σ2 H2):=by
 refine⟨λi m σ H=>m=xs.length - i/\i<=xs.length/\Pv i σ H,⟨xs.length,by simp,Nat.zero_le _,h0⟩,?_⟩
 rintro i m σ H ⟨rfl,hi,p⟩
 have q:=hl i σ H hi p
 by_cases rW:i < xs.length
 ·refine .inr ⟨⟨xs,xs[i],q,by simp[rW]⟩,Pv (i + 1),λσ' H' p'=>⟨xs.length - (i + 1),by omega,rfl,rW,p'⟩,λx H' y=>?_⟩
  obtain⟨e,y⟩:=y
  subst e
  exact hs i x σ _ (y xs q) p
 ·have e:i=xs.length:=by omega
  subst e
  exact .inl ⟨⟨xs,q,Nat.le_refl _⟩,hd σ H p⟩
theorem fu {lo:Int}{n:Nat}{D:Ends}(Pv:Nat->St->Hp->Prop)(h0:Pv 0 σ H)
  (hs:∀i σ H,i < n->Pv i σ H->g (.int (lo + i)) σ H λσ2 H2=>tb {D with nx:=Pv (i + 1),ct:=Pv (i + 1),bk:=D.nx} σ2 H2) (hd:∀σ H,Pv n σ H->D.nx σ H):
  ∃W:Nat->Nat->St->Hp->Prop,(∃m,W 0 m σ H)/\∀i m σ H,W i m σ H->
   ((vO lo n).stop i H/\D.nx σ H)\/((vO lo n).go i H/\∃N:St->Hp->Prop,(∀σ' H',N σ' H'->∃m',m' < m/\W (i + 1) m' σ' H')/\∀x H',(vO lo n).BH i H x H'->g x σ H' λσ2 H2=>tb {D with nx:=N,ct:=N,bk:=D.nx} σ2 H2):=by
 refine⟨λi m σ H=>m=n - i/\i<=n/\Pv i σ H,⟨n,by simp,Nat.zero_le _,h0⟩,?_⟩
 rintro i m σ H ⟨rfl,hi,p⟩
 by_cases rW:i < n
 ·refine .inr ⟨rW,Pv (i + 1),λσ' H' p'=>⟨n - (i + 1),by omega,rfl,rW,p'⟩,λx H' y=>?_⟩
  obtain⟨e,y⟩:=y
  subst e y
  exact hs i σ _ rW p
 ·have e:i=n:=by omega
  subst e
  exact .inl ⟨Nat.le_refl _,hd σ H p⟩
end
section
variable {op:CmpOp}{g:Int->Int->Int}
abbrev R2:=V->V->Hp->VK->Prop
def dS (X:Cx)(f:Value->Value->Sem Value)(r:R2):Prop:=
 ∀(pins:List (Addr×Obj)) (s:Shared) (σ:St) (H:Hp) (x y:V) (v u:Value) (Q:VK),Inv X pins σ H s->RelV x v->RelV y u->r x y H Q->
  wpAny (model X.prog X.w) X.A (f v u) (EP X pins σ Q) X.xe s
def Kz (X:Cx)(f:Value->Sem Value)(r:V->Hp->VK->Prop):Prop:=
 ∀(pins:List (Addr×Obj)) (s:Shared) (σ:St) (H:Hp) (x:V) (v:Value) (Q:VK),Inv X pins σ H s->RelV x v->r x H Q->
  wpAny (model X.prog X.w) X.A (f v) (EP X pins σ Q) X.xe s
def cz (X:Cx)(f:Value)(r:List V->Hp->VK->Prop):Prop:=
 ∀(pins:List (Addr×Obj)) (s:Shared) (σ:St) (H:Hp) (xs:List V) (us:List Value) (Q:VK),Inv X pins σ H s->Vals xs us->r xs H Q->
  wpAny (model X.prog X.w) X.A (call f us) (EP X pins σ Q) X.xe s
def KA (X:Cx)(r:V->Hp->(Bool->Hp->Prop)->Prop):Prop:=
 ∀(pins:List (Addr×Obj)) (s:Shared) (σ:St) (H:Hp) (x:V) (v:Value) (Q:Bool->Hp->Prop),Inv X pins σ H s->RelV x v->r x H Q->
  wpAny (model X.prog X.w) X.A (truthy v) (TP X pins σ Q) X.xe s
def uh (r:R2)(ta tb:TE):TE:=λσ H Q=>ta σ H λx H1=>tb σ H1 λy H2=>r x y H2 Q
def Ju (r:V->Hp->VK->Prop)(ta:TE):TE:=λσ H Q=>ta σ H λx H1=>r x H1 Q
def rI (C:Int->Int->Prop)(g:Int->Int->V):R2:=λx y H Q=>∃i j,x=.int i/\y=.int j/\C i j/\Q (g i j) H
def Ah (g:Int->Int->V):R2:=λx y H Q=>∃i j,x=.int i/\y=.int j/\Q (g i j) H
def rU (g:Int->V):V->Hp->VK->Prop:=λx H Q=>∃i,x=.int i/\Q (g i) H
section
variable {X:Cx}{a b c:Expr}{ta tb tc:TE}{pos:Pos}
theorem Dv (ha:PE X a ta)(hb:PE X b tb){pins:List (Addr×Obj)}{s:Shared}{σ:St}{H:Hp}{R:V->V->Hp->Prop}(I:Inv X pins σ H s)
  (h:ta σ H λx H1=>tb σ H1 λy H2=>R x y H2) {Q:Value->Shared->Prop} {f:Value->Value->Sem Value}
  (hf:∀v u s2 x y H2,Inv X pins σ H2 s2->RelV x v->RelV y u->R x y H2->wpAny (model X.prog X.w) X.A (f v u) Q X.xe s2):
  wpAny (model X.prog X.w) X.A (eval a X.env) (λv s₁=>wpAny (model X.prog X.w) X.A (eval b X.env) (λu s₂=>wpAny (model X.prog X.w) X.A (f v u) Q X.xe s₂) X.xe s₁) X.xe s:=by
 refine bU (ha pins s σ H _ I h) λv s1 ⟨x,H1,I1,r1,q1⟩=>?_
 refine bU (hb pins s1 σ H1 _ I1 q1) λu s2 ⟨y,H2,I2,r2,q2⟩=>?_
 exact hf v u s2 x y H2 I2 r1 r2 q2
theorem aG {op:Operator}{r:R2}(ho:dS X (binaryOp op) r)(ha:PE X a ta)(hb:PE X b tb):PE X (.BinOp a op b pos) (uh r ta tb):=by
 walk_at "xc"
 exact wpAny_BinOp (Dv ha hb I h λv u s2 x y H2 I2 rx ry q=>ho pins s2 σ H2 x y v u Q I2 rx ry q)
theorem jU {op:UnaryOp}{r:V->Hp->VK->Prop}(ho:Kz X (unaryOp op) r)(ha:PE X a ta):PE X (.UnaryOp op a pos) (Ju r ta):=by
 walk_at "xc"
 exact UnaryOp_ (bU (ha pins s σ H _ I h) λv s1 ⟨x,H1,I1,r1,q1⟩=>ho pins s1 σ H1 x v Q I1 r1 q1)
theorem Jv {f:Value->Value->Sem Value}{C:Int->Int->Prop}
  (rule:∀(i j:Int) (t u:Tok) (s:Shared) (Q:Value->Shared->Prop) (E:Value->Shared->Prop),C i j->Q (.int (g i j) s.toks) {s with toks:=s.toks + 1}->wpAny (model X.prog X.w) X.A (f (.int i t) (.int j u)) Q E s):
  dS X f (rI C λi j=>.int (g i j)):=by
 intro pins s σ H x y v u Q I rx ry h
 obtain⟨i,j,rfl,rfl,hc,q⟩:=h
 obtain⟨t,rfl⟩:=rx
 obtain⟨t',rfl⟩:=ry
 exact rule i j t t' s _ _ hc ⟨.int (g i j),H,I.tok _,⟨_,rfl⟩,q⟩
theorem GJ {f:Value->Value->Sem Value}
  (rule:∀(i j:Int) (t u:Tok) (s:Shared) (Q:Value->Shared->Prop) (E:Value->Shared->Prop),Q (.int (g i j) s.toks) {s with toks:=s.toks + 1}->wpAny (model X.prog X.w) X.A (f (.int i t) (.int j u)) Q E s):
  dS X f (Ah λi j=>.int (g i j)):=by
 intro pins s σ H x y v u Q I rx ry h
 obtain⟨i,j,rfl,rfl,q⟩:=h
 obtain⟨t,rfl⟩:=rx
 obtain⟨t',rfl⟩:=ry
 exact rule i j t t' s _ _ ⟨.int (g i j),H,I.tok _,⟨_,rfl⟩,q⟩
theorem Ai {f:Value->Value->Sem Value}{g:Int->Int->Bool}
  (rule:∀(i j:Int) (t u:Tok) (s:Shared) (Q:Value->Shared->Prop) (E:Value->Shared->Prop),Q (.bool (g i j)) s->wpAny (model X.prog X.w) X.A (f (.int i t) (.int j u)) Q E s):
  dS X f (Ah λi j=>.bl (g i j)):=by
 intro pins s σ H x y v u Q I rx ry h
 obtain⟨i,j,rfl,rfl,q⟩:=h
 obtain⟨t,rfl⟩:=rx
 obtain⟨t',rfl⟩:=ry
 exact rule i j t t' s _ _ ⟨.bl (g i j),H,I,rfl,q⟩
def qu (i j:Int):Prop:=0<=j/\j<=1000000/\i.natAbs < 2 ^ 64
def wG (i j:Int):Prop:=(-(2 ^ 64) < i/\i < 2 ^ 64)\/(-(2 ^ 64) < j/\j < 2 ^ 64)
theorem wG.ok{i j:Int}(h:wG i j):IntMulOk i j:=by
 rcases h with⟨h1,h2⟩ | ⟨h1,h2⟩
 ·exact .of_left (intBits_le_64 h1 h2)
 ·exact .of_right (intBits_le_64 h1 h2)
theorem Dw:dS X (binaryOp .Add) (Ah λi j=>.int (i + j)):=GJ λ_ _ _ _ _ _ _ q=>add_int q
theorem Dx:dS X (binaryOp .Sub) (Ah λi j=>.int (i - j)):=GJ λ_ _ _ _ _ _ _ q=>sub_int q
theorem Dy:dS X (binaryOp .Mult) (rI wG λi j=>.int (i * j)):=Jv λ_ _ _ _ _ _ _ hc q=>mul_int q hc.ok
theorem Dz:dS X (binaryOp .Mod) (rI (λ_ j=>0 < j) λi j=>.int (i % j)):=Jv λi j _ _ _ _ _ hc q=>by
 have h1:(0:Int) < j:=hc
 exact mod_int' (by omega) (by rw[Int.fmod_eq_emod_of_nonneg i (by omega)];exact q)
theorem DA:dS X (binaryOp .Pow) (rI qu λi j=>.int (i ^ j.toNat)):=Jv λ_ _ _ _ _ _ _ hc q=>pow_int_small hc.1 hc.2.1 hc.2.2 q
theorem PQ {f:Value->Sem Value}{g:Int->Int}
  (rule:∀(i:Int) (t:Tok) (s:Shared) (Q:Value->Shared->Prop) (E:Value->Shared->Prop),Q (.int (g i) s.toks) {s with toks:=s.toks + 1}->wpAny (model X.prog X.w) X.A (f (.int i t)) Q E s):
  Kz X f (rU λi=>.int (g i)):=by
 intro pins s σ H x v Q I rx h
 obtain⟨i,rfl,q⟩:=h
 obtain⟨t,rfl⟩:=rx
 exact rule i t s _ _ ⟨.int (g i),H,I.tok _,⟨_,rfl⟩,q⟩
theorem gb:Kz X (unaryOp .USub) (rU λi=>.int (-i)):=PQ λ_ _ _ _ _ q=>neg_int q
end
def Aj:V->V->Bool
 | .bb,.bb=>true | .bb,.int _=>true | .int _,.bb=>true | .bb,.bl _=>true | .bl _,.bb=>true | .bb,.str _=>true | .str _,.bb=>true
 | .int _,.int _=>true | .bl _,.bl _=>true | .str _,.str _=>true | .qd _,.qd _=>true
 | .int _,.str _=>true | .str _,.int _=>true | .bl _,.str _=>true | .str _,.bl _=>true
 | _,_=>false
def PR:R2:=λx y H Q=>Aj x y=true/\Q (.bl (decide (x=y))) H
def PU:R2:=λx y H Q=>Aj x y=true/\Q (.bl (!decide (x=y))) H
theorem rX {i j:Int}:decide (V.int i=V.int j)=(i == j):=by
 rw[Bool.eq_iff_iff]
 simp
theorem wH {i j:Bool}:decide (V.bl i=V.bl j)=(i == j):=by
 rw[Bool.eq_iff_iff]
 simp
theorem rY {i j:Str}:decide (V.str i=V.str j)=(i == j):=by
 rw[Bool.eq_iff_iff]
 simp
theorem rZ {i j:Array UInt8}:decide (V.qd i=V.qd j)=(i.toList == j.toList):=by
 rw[Bool.eq_iff_iff]
 cases i
 cases j
 simp
section
variable {X:Cx}{a b c:Expr}{ta tb tc:TE}{pos:Pos}
theorem bo {pins:List (Addr×Obj)}{σ:St}{H:Hp}{s:Shared}{Q:VK}{k k':Bool}(I:Inv X pins σ H s)(q:Q (.bl k) H)(e:k=k'):EP X pins σ Q (.bool k') s:=by
 subst e
 exact⟨.bl k,H,I,rfl,q⟩
theorem GK:dS X (compareOp .Eq) PR:=by
 intro pins s σ H x y v u Q I rx ry h
 obtain⟨hs,q⟩:=h
 cases x with
 | bb=>
  cases rx
  cases y with
  | bb=>cases ry;exact PySem.EqNone.eq_none_none (bo I q (by simp))
  | bl j=>cases ry;exact PySem.EqNone.eq_none_bool (bo I q (by simp))
  | int j=>obtain⟨t',rfl⟩:=ry;exact PySem.EqNone.eq_none_int (bo I q (by simp))
  | str j=>obtain⟨t',rfl⟩:=ry;exact PySem.EqNone.eq_none_str (bo I q (by simp))
  | _=>exact absurd (show false=true from hs) Bool.false_ne_true
 | bl i=>
  cases rx
  cases y with
  | bb=>cases ry;exact PySem.EqNone.eq_bool_none (bo I q (by simp))
  | bl j=>cases ry;exact eq_bool (bo I q wH)
  | str j=>obtain⟨t',rfl⟩:=ry;exact PySem.EqMixed.eq_bool_str (bo I q (by simp))
  | _=>exact absurd (show false=true from hs) Bool.false_ne_true
 | int i=>
  obtain⟨t,rfl⟩:=rx
  cases y with
  | bb=>cases ry;exact PySem.EqNone.eq_int_none (bo I q (by simp))
  | int j=>obtain⟨t',rfl⟩:=ry;exact eq_int (bo I q rX)
  | str j=>obtain⟨t',rfl⟩:=ry;exact PySem.EqMixed.eq_int_str (bo I q (by simp))
  | _=>exact absurd (show false=true from hs) Bool.false_ne_true
 | str i=>
  obtain⟨t,rfl⟩:=rx
  cases y with
  | bb=>cases ry;exact PySem.EqNone.eq_str_none (bo I q (by simp))
  | bl j=>cases ry;exact PySem.EqMixed.eq_str_bool (bo I q (by simp))
  | int j=>obtain⟨t',rfl⟩:=ry;exact PySem.EqMixed.eq_str_int (bo I q (by simp))
  | str j=>obtain⟨t',rfl⟩:=ry;exact eq_str (bo I q rY)
  | _=>exact absurd (show false=true from hs) Bool.false_ne_true
 | qd i=>
  obtain⟨t,rfl⟩:=rx
  cases y with
  | qd j=>obtain⟨t',rfl⟩:=ry;exact W.eq_bytes (bo I q rZ)
  | _=>exact absurd (show false=true from hs) Bool.false_ne_true
 | _=>cases y <;> exact absurd (show false=true from hs) Bool.false_ne_true
theorem GL:dS X (compareOp .NotEq) PU:=by
 intro pins s σ H x y v u Q I rx ry h
 obtain⟨hs,q⟩:=h
 cases x with
 | bb=>
  cases rx
  cases y with
  | bb=>cases ry;exact PySem.EqNone.ne_none_none (bo I q (by simp))
  | bl j=>cases ry;exact PySem.EqNone.ne_none_bool (bo I q (by simp))
  | int j=>obtain⟨t',rfl⟩:=ry;exact PySem.EqNone.ne_none_int (bo I q (by simp))
  | str j=>obtain⟨t',rfl⟩:=ry;exact PySem.EqNone.ne_none_str (bo I q (by simp))
  | _=>exact absurd (show false=true from hs) Bool.false_ne_true
 | bl i=>
  cases rx
  cases y with
  | bb=>cases ry;exact PySem.EqNone.ne_bool_none (bo I q (by simp))
  | bl j=>cases ry;exact ne_bool (bo I q (congrArg not wH))
  | str j=>obtain⟨t',rfl⟩:=ry;exact PySem.EqMixed.ne_bool_str (bo I q (by simp))
  | _=>exact absurd (show false=true from hs) Bool.false_ne_true
 | int i=>
  obtain⟨t,rfl⟩:=rx
  cases y with
  | bb=>cases ry;exact PySem.EqNone.ne_int_none (bo I q (by simp))
  | int j=>obtain⟨t',rfl⟩:=ry;exact ne_int (bo I q (congrArg not rX))
  | str j=>obtain⟨t',rfl⟩:=ry;exact PySem.EqMixed.ne_int_str (bo I q (by simp))
  | _=>exact absurd (show false=true from hs) Bool.false_ne_true
 | str i=>
  obtain⟨t,rfl⟩:=rx
  cases y with
  | bb=>cases ry;exact PySem.EqNone.ne_str_none (bo I q (by simp))
  | bl j=>cases ry;exact PySem.EqMixed.ne_str_bool (bo I q (by simp))
  | int j=>obtain⟨t',rfl⟩:=ry;exact PySem.EqMixed.ne_str_int (bo I q (by simp))
  | str j=>obtain⟨t',rfl⟩:=ry;exact ne_str (bo I q (congrArg not rY))
  | _=>exact absurd (show false=true from hs) Bool.false_ne_true
 | qd i=>
  obtain⟨t,rfl⟩:=rx
  cases y with
  | qd j=>obtain⟨t',rfl⟩:=ry;exact W.ne_bytes (bo I q (congrArg not rZ))
  | _=>exact absurd (show false=true from hs) Bool.false_ne_true
 | _=>cases y <;> exact absurd (show false=true from hs) Bool.false_ne_true
theorem GN:dS X (compareOp .Lt) (Ah λi j=>.bl (decide (i < j))):=Ai λ_ _ _ _ _ _ _ q=>lt_int q
theorem GO:dS X (compareOp .LtE) (Ah λi j=>.bl (decide (i<=j))):=Ai λ_ _ _ _ _ _ _ q=>le_int q
theorem GP:dS X (compareOp .Gt) (Ah λi j=>.bl (decide (j < i))):=Ai λ_ _ _ _ _ _ _ q=>gt_int q
theorem GQ:dS X (compareOp .GtE) (Ah λi j=>.bl (decide (j<=i))):=Ai λ_ _ _ _ _ _ _ q=>ge_int q
theorem DB:dS X (compareOp .Is) (λx y H Q=>y=.bb/\Q (.bl (decide (x=.bb))) H):=by
 intro pins s σ H x y v u Q I rx ry h
 obtain⟨rfl,q⟩:=h
 cases ry
 refine is_none_gen (bo I q ?_)
 cases x <;> first
  | (cases rx;rfl)
  | (obtain⟨t,rfl⟩:=rx;rfl)
theorem aT (b:Expr){op:CmpOp}(h:op≠.In:=by decide)(h2:op≠.NotIn:=by decide):behindInMarks op b=false:=by
 have e1:(op == CmpOp.In)=false:=by cases op <;> first | rfl | exact absurd rfl h
 have e2:(op == CmpOp.NotIn)=false:=by cases op <;> first | rfl | exact absurd rfl h2
 cases b <;> simp[behindInMarks,e1,e2]
theorem fK {r:R2}(ho:dS X (compareOp op) r)(ha:PE X a ta)(hb:PE X b tb)(hm:behindInMarks op b=false):PE X (.Compare a [op] [b] pos) (uh r ta tb):=by
 walk_at "xc"
 exact wpAny_Compare1 (Dv ha hb I h λv u s2 x y H2 I2 rx ry q=>ho pins s2 σ H2 x y v u Q I2 rx ry q) hm
def wI (t:TE):TT:=λσ H Q=>t σ H λx H'=>∃k,x=.bl k/\Q k H'
theorem aM {r:R2}(ho:dS X (compareOp op) r)(ha:PE X a ta)(hb:PE X b tb)(hm:behindInMarks op b=false):PT X (.Compare a [op] [b] pos) (wI (uh r ta tb)):=by
 walk_at "xc"
 refine wpAny_isTrue_Compare1 (bU (ha pins s σ H _ I h) λv s1 ⟨x,H1,I1,r1,q1⟩=>bU (hb pins s1 σ H1 _ I1 q1) λu s2 ⟨y,H2,I2,r2,q2⟩=>
  bU (ho pins s2 σ H2 x y v u _ I2 r1 r2 q2) λc s3 ⟨z,H3,I3,r3,k,e,q3⟩=>?_) hm
 subst e
 cases r3
 exact wpAny_truthy_bool ⟨H3,I3,q3⟩
def qv (r r':R2)(ta tb tc:TE):TE:=λσ H Q=>ta σ H λx H1=>tb σ H1 λy H2=>r x y H2 λz H3=>∃k,z=.bl k/\
 (if k=true then tc σ H3 λw' H4=>r' y w' H4 Q else Q (.bl false) H3)
theorem oC {KC:CmpOp}{r r':R2}(ho:dS X (compareOp op) r)(kC:dS X (compareOp KC) r')(ha:PE X a ta)(hb:PE X b tb)(hc:PE X c tc)
  (hm:lastMarks [op,KC] [b,c]=false:=by with_unfolding_all rfl):PE X (.Compare a [op,KC] [b,c] pos) (qv r r' ta tb tc):=by
 walk_at "xc"
 refine Compare_chain (bU (ha pins s σ H _ I h) λv s1 ⟨x,H1,I1,r1,q1⟩=>chain_link (bU (hb pins s1 σ H1 _ I1 q1) λu s2 ⟨y,H2,I2,r2,q2⟩=>
  bU (ho pins s2 σ H2 x y v u _ I2 r1 r2 q2) λd s3 ⟨z,H3,I3,r3,k,e,q3⟩=>?_)) hm
 subst e
 cases r3
 refine wpAny_truthy_bool ?_
 cases k with
 | false=>exact ite_ff ⟨.bl false,H3,I3,rfl,q3⟩
 | true=>exact ite_tt (chain_last (bU (hc pins s3 σ H3 _ I3 q3) λw' s4 ⟨z',H4,I4,r4,q4⟩=>kC pins s4 σ H4 y z' u w' Q I4 r2 r4 q4))
def KD (K:W.Frag)(x:V)(H:Hp)(k:Bool):Prop:=
 match x with
 | .bb=>k=false
 | .bl b=>k=b
 | .int i=>k=(i != 0)
 | .str y=>y.length<=sizeLine/\k=((y.length:Int) != 0)
 | .qd y=>y.size<=sizeLine/\k=((y.size:Int) != 0)
 | .ref p=>(∃xs,aX K H p xs/\k= !xs.isEmpty)\/(∃xs,bM K H p xs/\k= !xs.isEmpty)\/∃bD,H p=some (.dK bD)/\k= !bD.isEmpty
 | _=>False
theorem qw {κ:Type}{bD:List (κ×V)}{vs:List (κ×Value)}(r:KV bD vs):(!vs.isEmpty)= !bD.isEmpty:=by
 cases r <;> rfl
theorem kE {xs:List V}{aE:List Value}(r:Vals xs aE):(!aE.toArray.isEmpty)= !xs.isEmpty:=by
 cases r <;> simp
theorem ja:(sizeLine:Nat) < 2 ^ 63:=by rw[sizeLine_eq];decide
theorem KG:KA X (λx H Q=>∃k,KD X.K x H k/\Q k H):=by
 intro pins s σ H x v Q I rx h
 obtain⟨k,e,q⟩:=h
 have hl:=ja
 have hs:sizeLine=16777216:=sizeLine_eq
 cases x with
 | bb=>
  cases rx
  have e':k=false:=e
  subst e'
  exact truthy_none ⟨H,I,q⟩
 | bl b=>
  cases rx
  have e':k=b:=e
  subst e'
  exact wpAny_truthy_bool ⟨H,I,q⟩
 | int i=>
  obtain⟨t,rfl⟩:=rx
  have e':k=(i != 0):=e
  subst e'
  exact PySem.P.truthy_int ⟨H,I,q⟩
 | str y=>
  obtain⟨t,rfl⟩:=rx
  obtain⟨hy,e'⟩:y.length<=sizeLine/\k=((y.length:Int) != 0):=e
  subst e'
  exact PySem.P.truthy_str (by omega) ⟨H,I.tok _,q⟩
 | qd y=>
  obtain⟨t,rfl⟩:=rx
  obtain⟨hy,e'⟩:y.size<=sizeLine/\k=((y.size:Int) != 0):=e
  subst e'
  exact W.truthy_bytes (by omega) ⟨H,I.tok _,q⟩
 | ref p=>
  cases rx
  have e':(∃xs,aX X.K H p xs/\k= !xs.isEmpty)\/(∃xs,bM X.K H p xs/\k= !xs.isEmpty)\/∃bD,H p=some (.dK bD)/\k= !bD.isEmpty:=e
  rcases e' with⟨xs,hx,e'⟩ | ⟨xs,hx,e'⟩ | ⟨bD,hx,e'⟩
  ·subst e'
   obtain⟨aE,r,pl,hz⟩:=I.list hx
   have hlen:=r.length
   exact wpAny_truthy_list pl.isList (by simp only[List.size_toArray];omega) ⟨H,I.tok _,by rw[kE r];exact q⟩
  ·subst e'
   obtain⟨aE,r,pl,hz⟩:=I.tuple hx
   have hlen:=r.length
   exact truthy_tuple pl (by simp only[List.size_toArray];omega) ⟨H,I.tok _,by rw[kE r];exact q⟩
  ·subst e'
   obtain⟨hz,hS,vs,r,m⟩:bD.length<=sizeLine/\(p == sysModules)=false/\∃vs,KV bD vs/\s.heap.DictOf (cW X.prog X.w) p vs:=I.ba p _ hx
   have hlen:bD.length=vs.length:=Paired.length r
   exact wpAny_truthy_dict hS m (by omega) ⟨H,I.tok _,by rw[qw r];exact q⟩
 | _=>exact(show False from e).elim
theorem qx:dS X (binaryOp .Add) (λx y H Q=>∃i j,x=.str i/\y=.str j/\i.length + j.length<=sizeLine/\Q (.str (i++j)) H):=by
 intro pins s σ H x y v u Q I rx ry h
 obtain⟨i,j,rfl,rfl,hz,q⟩:=h
 obtain⟨t,rfl⟩:=rx
 obtain⟨t',rfl⟩:=ry
 exact add_str (λt' tk=>⟨.str (i++j),H,I.tok _,⟨_,rfl⟩,q⟩) hz
theorem vals1 {x:V}{us:List Value}(r:Vals [x] us):∃u,us=[u]/\RelV x u:=by
 cases r with
 | cons r1 r2=>cases r2;exact⟨_,rfl,r1⟩
theorem vals2 {x y:V}{us:List Value}(r:Vals [x,y] us):∃u w',us=[u,w']/\RelV x u/\RelV y w':=by
 cases r with
 | cons r1 r2=>
  cases r2 with
  | cons r3 r4=>cases r4;exact⟨_,_,rfl,r1,r3⟩
theorem ui (hc:X.calm=true):cz X (.builtin "max") (λxs H Q=>∃i j,xs=[.int i,.int j]/\Q (.int (if j > i then j else i)) H):=by
 intro pins s σ H xs us Q I r h
 obtain⟨i,j,rfl,q⟩:=h
 obtain⟨u,w',rfl,⟨t,rfl⟩,⟨t',rfl⟩⟩:=vals2 r
 refine max_two_ints (I.ok.hd hc) λh' tk k=>⟨_,H,I.kept k,?_,q⟩
 by_cases hj:j > i
 ·rw[if_pos hj,if_pos hj];exact⟨_,rfl⟩
 ·rw[if_neg hj,if_neg hj];exact⟨_,rfl⟩
theorem uj (hc:X.calm=true):cz X (.builtin "min") (λxs H Q=>∃i j,xs=[.int i,.int j]/\Q (.int (if j < i then j else i)) H):=by
 intro pins s σ H xs us Q I r h
 obtain⟨i,j,rfl,q⟩:=h
 obtain⟨u,w',rfl,⟨t,rfl⟩,⟨t',rfl⟩⟩:=vals2 r
 refine min_two_ints (I.ok.hd hc) λh' tk k=>⟨_,H,I.kept k,?_,q⟩
 by_cases hj:j < i
 ·rw[if_pos hj,if_pos hj];exact⟨_,rfl⟩
 ·rw[if_neg hj,if_neg hj];exact⟨_,rfl⟩
def wJ (K:W.Frag)(x:V)(H:Hp)(n:Nat):Prop:=
 match x with
 | .str y=>y.length<=sizeLine/\n=y.length
 | .qd y=>y.size<=sizeLine/\n=y.size
 | .ref p=>(∃xs,aX K H p xs/\n=xs.length)\/∃xs,bM K H p xs/\n=xs.length
 | _=>False
theorem wK:cz X (.builtin "len") (λxs H Q=>∃x n,xs=[x]/\wJ X.K x H n/\Q (.int n) H):=by
 intro pins s σ H xs us Q I r h
 obtain⟨x,n,rfl,e,q⟩:=h
 obtain⟨u,rfl,rx⟩:=vals1 r
 have hl:=ja
 have hs:sizeLine=16777216:=sizeLine_eq
 cases x with
 | str y=>
  obtain⟨t,rfl⟩:=rx
  obtain⟨hy,e'⟩:y.length<=sizeLine/\n=y.length:=e
  subst e'
  exact len_str (by omega) ⟨.int _,H,I.tok _,⟨_,rfl⟩,q⟩
 | qd y=>
  obtain⟨t,rfl⟩:=rx
  obtain⟨hy,e'⟩:y.size<=sizeLine/\n=y.size:=e
  subst e'
  exact W.len_bytes (by omega) ⟨.int _,H,I.tok _,⟨_,rfl⟩,q⟩
 | ref p=>
  cases rx
  have e':(∃xs,aX X.K H p xs/\n=xs.length)\/∃xs,bM X.K H p xs/\n=xs.length:=e
  rcases e' with⟨xs,hx,e'⟩ | ⟨xs,hx,e'⟩
  ·subst e'
   obtain⟨aE,r',pl,hz⟩:=I.list hx
   have hlen:=r'.length
   exact Calls.call_len_list pl.isList (by simp only[List.size_toArray];omega) ⟨.int xs.length,H,I.tok _,⟨_,by simp only[List.size_toArray];rw[hlen]⟩,q⟩
  ·subst e'
   obtain⟨aE,r',pl,hz⟩:=I.tuple hx
   have hlen:=r'.length
   exact len_tuple pl (by simp only[List.size_toArray];omega) ⟨.int xs.length,H,I.tok _,⟨_,by simp only[List.size_toArray];rw[hlen]⟩,q⟩
 | _=>exact(show False from e).elim
end
end
section
variable {C:Addr}{mA:Str->Option Value}{Q:Value->Shared->Prop}
structure qy (h:Heap)(x dx C:Addr)(mA:Str->Option Value):Prop where
 obj:h.get? x=some (W.instObj C dx)
 ns:h.Ns1 dx mA
 ne:dx≠x
theorem uk {h:Heap}{dx:Addr}(n:h.Ns1 dx mA):∃od,h.get? dx=some od/\∀name,W.lookIn name od=some (mA name):=by
 obtain⟨o,es,ep,ho,hd,hk,_,hm⟩:=n
 refine⟨o,ho,λname=>?_⟩
 have e:=hm name
 unfold nsFind findBy at e
 rw[<-Array.find?_toList] at e
 unfold W.lookIn
 rw[hd]
 dsimp only
 split
 ·rename_i y q
  rw[q] at e
  exact congrArg some e
 ·rename_i q
  rw[q] at e
  have a:es.toList.any (·.refKey)=false:=by
   rw[List.any_eq_false]
   intro y hy
   obtain⟨z,t,KH⟩:=hk y (Array.mem_toList_iff.mp hy)
   simp[DictEntry.refKey,KH]
  have a':¬es.toList.any (·.refKey)=true:=by rw[a];exact Bool.false_ne_true
  rw[if_neg a']
  exact congrArg some e
theorem qy.look{h:Heap}{x dx:Addr}(I:qy h x dx C mA):∃od,W.InstAt h x (W.instObj C dx) C (some od)/\∀name,W.lookIn name od=some (mA name):=
 let ⟨od,ho,hl⟩:=uk I.ns
 ⟨od,⟨I.obj,rfl,rfl,ho⟩,hl⟩
section
variable {prog:Program}{w:World}{A:Around}{E:Value->Shared->Prop}{s:Shared}{K:W.Frag}{x dx C f:Addr}{mA:Str->Option Value}{name:Str}{v:Value}
theorem get_map {expr:Bool}(X:K.In s.heap)(I:qy s.heap x dx C mA)(hg:W.plainGet K C name=true)(hh:W.hasDictIn K C=true)
  (ha:W.findIn K (.ref C) name=some none) (hv:mA name=some v) (KI:W.handedIn v=true) (h:Q v {s with toks:=s.toks + 1}):
  wpAny (model prog w) A (getAttr (.ref x) name expr) Q E s:=by
 obtain⟨od,J,hl⟩:=I.look
 exact W.get_value X J (W.plainGet_of hg).1 (W.findObj_own hh ha rfl (by rw[hl,hv])) KI h
theorem wL {pl:Sem Bool}{Q:Value×List Value->Shared->Prop}(X:K.In s.heap)(I:qy s.heap x dx C mA)(hg:W.plainGet K C name=true)
  (hf:W.findIn K (.ref C) name=some (some (.ref f))) (ht:W.isFn K (.ref f)=true) (hv:mA name=none) (h:Q (.ref f,[.ref x]) s):
  wpAny (model prog w) A (getMethod (.ref x) name pl) Q E s:=by
 obtain⟨od,J,hl⟩:=I.look
 exact W.method_fn X J (W.plainGet_of hg).1 (W.plainGet_of hg).2 hf (beq_iff_eq.mp ht) (by show(W.lookIn name od).map (·.isSome)=some false;rw[hl,hv];rfl) h
theorem Ak {ns:List Str}{Q:Unit->Shared->Prop}(X:K.In s.heap)(I:qy s.heap x dx C mA)
  (hs:W.findIn K (.ref C) "__setattr__"=some (some (.builtin "object.__setattr__"))) (hp:W.plainOver K C=true) (ht:W.takerIn K C name=some none) (hh:W.hasDictIn K C=true)
  (hw:PySem.Within mA ns) (qz:ns.length<=sizeLine)
  (h:∀h',qy h' x dx C (λy=>if y=name then some v else mA y)->Heap.SameBut dx s.heap h'->Q () {s with heap:=h',toks:=s.toks + 2}):
  wpAny (model prog w) A (setAttr (.ref x) name v) Q E s:=by
 obtain⟨od,J,hl⟩:=I.look
 refine W.set_plain X J hs (W.osa_open (s:={s with toks:=s.toks + 1}) (r:=none) X J hp ht λb=>?_)
 obtain⟨cd,hc,mh⟩:=W.any_some hh
 have hx:s.heap.get? x=some ⟨.ref C,some dx,.plain,#[]⟩:=I.obj
 refine wpAny_bind (wpAny_pure (wpAny_bind (wpAny_bind (wpAny_loadPart hx (wpAny_bind (W.Looks.here (s:={s with toks:=s.toks + 1}) (W.looks_clsIn X hc) ?_))))))
 rw[mh]
 refine wpAny_pure (a:=some dx) (wpAny_bind (wpAny_pure (wpAny_bind ?_)))
 refine wpAny_nsSet1 (s:={s with toks:=s.toks + 1}) I.ns λh' DC qg=>?_
 obtain⟨oD,TF,TH,PV,PX,PY⟩:=DC.count (PySem.Within.cons name v hw)
 refine wpAny_bind (wpAny_lookBehind PV (by rw[PX];exact pastItsLine_dict (Nat.le_trans PY (by rw[List.length_cons];omega))) ?_)
 exact wpAny_pure (h _ ⟨(qg.2 _ (Ne.symm I.ne)).trans I.obj,DC,I.ne⟩ qg)
theorem oE {R:Result->Shared->Prop}{vs:List Value}{kw:List (Str×Value)}(X:K.In s.heap)(hm:W.makesIn K C=true)
  (hi:W.findIn K (.ref C) "__init__"=some (some (.ref f))) (hf:W.typeIn K (.ref f)=some (.type "function"))
  (h:codeAny (model prog w) (A.under (.builtin "type.__call__" ⟨.ref C::vs,kw⟩)) (.call (.ref f) ⟨.ref (s.heap.objs.size + 1)::vs,kw⟩) (W.InitBack (s.heap.objs.size + 1) R)
   {s with heap:=(s.heap.push W.emptyDict).push (W.instObj C s.heap.objs.size)}):
  codeAny (model prog w) A (.call (.ref C) ⟨vs,kw⟩) R s:=by
 obtain⟨hh,g,d,t,os⟩:=s
 exact W.make_core (W.makes_of X hm) (W.looks_findIn X hi) (λself=>W.bind_fn X self hf) (.inl rfl) h
end
def bC (f:Str)(v:V):List (Str×V)->List (Str×V)
 | []=>[(f,v)]
 | (g,x)::r=>if g=f then(g,v)::r else(g,x)::bC f v r
theorem bx (f g:Str)(v:V):∀fs:List (Str×V),(bC f v fs).lookup g=if g=f then some v else fs.lookup g
 | []=>by
  show List.lookup g [(f,v)]=_
  by_cases h:g=f
  ·have hb:(g == f)=true:=beq_iff_eq.mpr h
   simp only[List.lookup,hb,if_pos h]
  ·have hb:(g == f)=false:=beq_eq_false_iff_ne.mpr h
   simp only[List.lookup,hb,if_neg h]
 | (k,x)::r=>by
  have ih:=bx f g v r
  rw[show bC f v ((k,x)::r)=(if k=f then(k,v)::r else(k,x)::bC f v r) from rfl]
  by_cases hk:k=f
  ·rw[if_pos hk]
   by_cases h:g=k
   ·have hb:(g == k)=true:=beq_iff_eq.mpr h
    simp only[List.lookup,hb,if_pos (h.trans hk)]
   ·have hb:(g == k)=false:=beq_eq_false_iff_ne.mpr h
    simp only[List.lookup,hb,if_neg (λe:g=f=>h (e.trans hk.symm))]
  ·rw[if_neg hk]
   by_cases h:g=k
   ·have hb:(g == k)=true:=beq_iff_eq.mpr h
    simp only[List.lookup,hb,if_neg (λe:g=f=>hk (h.symm.trans e))]
   ·have hb:(g == k)=false:=beq_eq_false_iff_ne.mpr h
    simp only[List.lookup,hb]
    exact ih
theorem jb (f:Str)(v:V):∀fs:List (Str×V),f ∈ (bC f v fs).map (·.1)/\∀g,g ∈ fs.map (·.1)->g ∈ (bC f v fs).map (·.1)
 | []=>⟨by simp[bC],λg h=>by simp at h⟩
 | (k,x)::r=>by
  obtain⟨i1,i2⟩:=jb f v r
  rw[show bC f v ((k,x)::r)=(if k=f then(k,v)::r else(k,x)::bC f v r) from rfl]
  by_cases hk:k=f
  ·rw[if_pos hk]
   subst hk
   exact⟨by simp,λg h=>by simpa using h⟩
  ·rw[if_neg hk]
   refine⟨?_,λg h=>?_⟩
   ·rw[List.map_cons]
    exact List.mem_cons_of_mem _ i1
   ·rw[List.map_cons] at h ⊢
    rcases List.mem_cons.mp h with e | e
    ·exact List.mem_cons.mpr (.inl e)
    ·exact List.mem_cons_of_mem _ (i2 g e)
theorem gc (f:Str)(v:V):∀fs:List (Str×V),(bC f v fs).length<=fs.length + 1
 | []=>by simp[bC]
 | (k,x)::r=>by
  have ih:=gc f v r
  rw[show bC f v ((k,x)::r)=(if k=f then(k,v)::r else(k,x)::bC f v r) from rfl]
  by_cases hk:k=f
  ·rw[if_pos hk,List.length_cons,List.length_cons];omega
  ·rw[if_neg hk,List.length_cons,List.length_cons];omega
theorem gS.some_of{v:V}{o:Option Value}(r:gS (some v) o):∃u,o=some u/\RelV v u:=by
 cases o with
 | none=>exact(show False from r).elim
 | some u=>exact⟨u,rfl,r⟩
theorem gS.none_of{o:Option Value}(r:gS none o):o=none:=by
 cases o with
 | none=>rfl
 | some u=>exact(show False from r).elim
theorem uq {v:V}{u:Value}(r:RelV v u):W.handedIn u=true:=by
 cases v with
 | bb=>cases(show u=Value.none from r);rfl
 | bl b=>cases(show u=Value.bool b from r);rfl
 | int i=>obtain⟨t,e⟩:=(show ∃t,u=Value.int i t from r);cases e;rfl
 | str x=>obtain⟨t,e⟩:=(show ∃t,u=Value.str x t from r);cases e;rfl
 | qd b=>obtain⟨t,e⟩:=(show ∃t,u=Value.bytes b t from r);cases e;rfl
 | By b=>obtain⟨t,e⟩:=(show ∃t,u=Value.float b t from r);cases e;rfl
 | ref a=>cases(show u=Value.ref a from r);rfl
 | ty n=>cases(show u=Value.type n from r);rfl
section
variable {P:Program}{w:World}{H H':Hp}{h h':Heap}{a C dx:Addr}{fs PN:List (Str×V)}
theorem iB (ba:iy P w H h)(e:H a=some (.ins C dx fs)):∃mA,qy h a dx C mA/\(∀f,gS (fs.lookup f) (mA f))/\PySem.Within mA (fs.map (·.1))/\fs.length<=1000/\H dx=some (.own a):=by
 obtain⟨d,z,ne,ob,mA,n,r,q⟩:=(show bH P w H h a (.ins C dx fs) from ba a _ e)
 exact⟨mA,⟨ob,n,ne⟩,r,q,z,d⟩
end
structure oF (K:W.Frag)(C:Addr):Prop where
 pg:W.plainGet K C Str.empty=true
 hd:W.hasDictIn K C=true
 po:W.plainOver K C=true
 sa:W.findIn K (.ref C) "__setattr__"=some (some (.builtin "object.__setattr__"))
theorem oF.get{K:W.Frag}(c:oF K C)(f:Str):W.plainGet K C f=true:=c.pg
def bY (K:W.Frag)(C:Addr)(f:Str):Prop:=W.findIn K (.ref C) f=some none
theorem bY.GR{K:W.Frag}{f:Str}(n:bY K C f):W.takerIn K C f=some none:=by
 unfold W.takerIn
 rw[show W.findIn K (.ref C) f=some none from n]
 rfl
structure Meth (K:W.Frag)(C:Addr)(m:Str)(f:Addr):Prop where
 at_:W.findIn K (.ref C) m=some (some (.ref f))
 fn:W.isFn K (.ref f)=true
 kp:W.keepIn K (.ref f)=true
section
variable {X:Cx}{pins:List (Addr×Obj)}{σ:St}{H:Hp}{s:Shared}{a C dx:Addr}{fs:List (Str×V)}{f:Str}{v:V}{A:Around}{E:Value->Shared->Prop}
theorem qA {b:Bool}(I:Inv X pins σ H s)(e:H a=some (.ins C dx fs))(c:oF X.K C)(n:bY X.K C f)(l:fs.lookup f=some v)
  (h:∀u s',Inv X pins σ H s'->RelV v u->Q u s'):wpAny (model X.prog X.w) A (getAttr (.ref a) f b) Q E s:=by
 obtain⟨mA,O,r,_,_,_⟩:=iB I.ba e
 obtain⟨u,hu,ru⟩:=gS.some_of (v:=v) (o:=mA f) (by rw[<-l];exact r f)
 exact get_map I.dP O (c.get f) c.hd n hu (uq ru) (h u _ (I.tok _) ru)
theorem fL {m:Str}{g:Addr}{pl:Sem Bool}{Q:Value×List Value->Shared->Prop}(I:Inv X pins σ H s)(e:H a=some (.ins C dx fs))(c:oF X.K C)(k:Meth X.K C m g)(l:fs.lookup m=none)
  (h:Q (.ref g,[.ref a]) s):wpAny (model X.prog X.w) A (getMethod (.ref a) m pl) Q E s:=by
 obtain⟨mA,O,r,_,_,_⟩:=iB I.ba e
 have hn:mA m=none:=gS.none_of (by rw[<-l];exact r m)
 exact wL I.dP O (c.get m) k.at_ k.fn hn h
theorem qB {y:V}{u:Value}{Q:Unit->Shared->Prop}(I:Inv X pins σ H s)(e:H a=some (.ins C dx fs))(c:oF X.K C)(n:bY X.K C f)(hl:fs.length < 1000)(ry:RelV y u)
  (h:∀s',Inv X pins σ (upd H a (.ins C dx (bC f y fs))) s'->Q () s'):wpAny (model X.prog X.w) A (setAttr (.ref a) f u) Q E s:=by
 obtain⟨mA,O,r,wi,_,ho⟩:=iB I.ba e
 have hz:(fs.map (·.1)).length<=sizeLine:=by rw[List.length_map,sizeLine_eq];omega
 refine Ak I.dP O c.sa c.po n.GR c.hd wi hz λh' O' sb=>h _ ?_
 have hd:∃o,h'.get? dx=some o:=let ⟨o,_,_,e',_⟩:=O'.ns;⟨o,e'⟩
 refine I.write (x:=a) (e:=dx) (by rw[e];exact True.intro) (.inr ho) (λb q hb z=>(sb.2 b hb).trans z) hd ?_
 refine⟨by rw[ay O.ne];exact ho,?_,O.ne,O'.obj,_,O'.ns,λg=>?_,λg hg=>?_⟩
 ·have:=gc f y fs;omega
 ·show gS ((bC f y fs).lookup g) (if g=f then some u else mA g)
  rw[bx]
  by_cases q:g=f
  ·rw[if_pos q,if_pos q];exact ry
  ·rw[if_neg q,if_neg q];exact r g
 ·by_cases q:g=f
  ·rw[q];exact(jb f y fs).1
  ·refine(jb f y fs).2 g (wi g λz=>hg ?_)
   show(if g=f then some u else mA g)=none
   rw[if_neg q];exact z
theorem Inv.made(I:Inv X pins σ H s):Inv X pins σ (upd (upd H s.heap.objs.size (.own (s.heap.objs.size + 1))) (s.heap.objs.size + 1) (.ins C s.heap.objs.size []))
  {s with heap:=(s.heap.push W.emptyDict).push (W.instObj C s.heap.objs.size)}:=by
 have e1:(s.heap.push W.emptyDict).get? s.heap.objs.size=some W.emptyDict:=Heap.get?_push_size s.heap rfl
 have e2:((s.heap.push W.emptyDict).push (W.instObj C s.heap.objs.size)).get? (s.heap.objs.size + 1)=some (W.instObj C s.heap.objs.size):=by
  have:=Heap.get?_push_size (s.heap.push W.emptyDict) (o:=W.instObj C s.heap.objs.size) rfl
  rwa [Heap.size_push] at this
 have e3:(s.heap.push W.emptyDict).Ns s.heap.objs.size (λ_=>none):=⟨W.emptyDict,#[],_,e1,rfl,(λe he=>absurd he (by simp)),λ_=>rfl⟩
 have I1:=I.laid (a:=s.heap.objs.size) (o:=.own (s.heap.objs.size + 1)) (h':=s.heap.push W.emptyDict) (t':=s.toks) (λb u q=>Heap.get?_push_of_some _ q) (Nat.le_refl _) ⟨_,e1⟩
 refine I1.laid (a:=s.heap.objs.size + 1) (o:=.ins C s.heap.objs.size []) (t':=s.toks) (λb u q=>Heap.get?_push_of_some _ q) (Nat.le_of_eq (Heap.size_push _ _)) ?_
 have ne:s.heap.objs.size≠s.heap.objs.size + 1:=Nat.ne_of_lt (Nat.lt_succ_self _)
 refine⟨by rw[ay ne,ag],Nat.zero_le _,ne,e2,λ_=>none,(Heap.Ns1.of_empty e3).at λo q=>Heap.get?_push_of_some _ q,λ_=>True.intro,λy hy=>absurd rfl hy⟩
theorem Al {prog:Program}{w:World}{env:Env}{e:Expr}{f:Str}{pos:Pos}{s:Shared}(hb:attributeBase e f env (eval e env)=eval e env)
  (h:wpAny (model prog w) A (eval e env) (λo s₁=>wpAny (model prog w) A (getAttr o f true) Q E s₁) E s):wpAny (model prog w) A (eval (.Attribute e f pos) env) Q E s:=
 Attribute_any_ h (by rw[arm_eval_Attribute,hb])
end
def DE (K:W.Frag)(ta:TE)(f:Str):TE:=λσ H Q=>ta σ H λx H1=>∃a C dx fs v,x=.ref a/\H1 a=some (.ins C dx fs)/\oF K C/\bY K C f/\fs.lookup f=some v/\Q v H1
def DG (K:W.Frag)(ta tv:TE)(f:Str):TS:=λD σ H=>tv σ H λy H1=>ta σ H1 λx H2=>∃a C dx fs,x=.ref a/\H2 a=some (.ins C dx fs)/\oF K C/\bY K C f/\fs.length < 1000/\
 D.nx σ (upd H2 a (.ins C dx (bC f y fs)))
section
variable {X:Cx}{o e value:Expr}{f:Str}{pos pos' PZ:Pos}{ta tv:TE}
theorem kF (he:PE X e ta)(hb:attributeBase e f X.env (eval e X.env)=eval e X.env):PE X (.Attribute e f pos) (DE X.K ta f):=by
 walk_at "xc"
 refine Al hb (bU (he pins s σ H _ I h) λu s1 ⟨x,H1,I1,rx,a,C,dx,fs,v,ex,ea,c,n,l,q⟩=>?_)
 subst ex
 obtain rfl:u=Value.ref a:=rx
 exact qA I1 ea c n l λu' s2 I2 ru=>⟨v,H1,I2,ru,q⟩
theorem jc (ha:PE X o ta)(hv:PE X value tv)(hs:swapsWith value (some (.Attribute o f pos')) pos.line X.env=pure false):PS X (.Assign [.Attribute o f pos'] value pos) (DG X.K ta tv f):=by
 walk_at "xd"
 refine plainObj_wpAny_Assign_Attribute (bU (hv pins s σ H _ I h) λu s1 ⟨y,H1,I1,ry,q⟩=>bU (ha pins s1 σ H1 _ I1 q) λov s2 ⟨x,H2,I2,rx,a,C,dx,fs,ex,ea,c,n,l,q2⟩=>?_) hs
 subst ex
 obtain rfl:ov=Value.ref a:=rx
 exact qB I2 ea c n l ry λs3 I3=>⟨σ,_,I3,q2⟩
theorem BJ {pl:Sem Bool}{m:Str}{apos:Pos}{args:List Expr}{pins:List (Addr×Obj)}{s:Shared}{σ:St}{H:Hp}{te:TE}(he:PE X e te)(I:Inv X pins σ H s)
  (h:te σ H λx H1=>∃a C dx fs g,x=.ref a/\H1 a=some (.ins C dx fs)/\oF X.K C/\Meth X.K C m g/\fs.lookup m=none/\
   ∀s1,Inv X pins σ H1 s1->wpAny (model X.prog X.w) X.A (callWith pos (.ref g) [.ref a] (backTo pos (starEach args X.env)) (backToKw pos (keywordEach [] X.env))) Q X.xe s1)
  (ht:eval (.Call (.Attribute e m apos) args [] pos) X.env=(do
   let ov <-eval e X.env
   standAt apos.atName
   let (f,first) <-holding [ov] (getMethod ov m pl)
   callWith pos f first (backTo pos (starEach args X.env)) (backToKw pos (keywordEach [] X.env)))):
  wpAny (model X.prog X.w) X.A (eval (.Call (.Attribute e m apos) args [] pos) X.env) Q X.xe s:=by
 refine W.methodCall_KW (pl:=pl) (bU (he pins s σ H _ I h) λu s1 ⟨x,H1,I1,rx,a,C,dx,fs,g,ex,ea,c,k,l,q⟩=>?_) ht
 subst ex
 obtain rfl:u=Value.ref a:=rx
 exact fL I1 ea c k l (q s1 I1)
end
section
variable {X:Cx}{pins:List (Addr×Obj)}{σ:St}{H:Hp}{s:Shared}{A:Around}{E:Value->Shared->Prop}{Q:Value->Shared->Prop}{c:Value}{b:Bool}
inductive dm (K:W.Frag)(H:Hp):V->Value->Prop where
  | bb:dm K H .bb (.type "NoneType")
  | bl (x:Bool):dm K H (.bl x) (.type "bool")
  | int (i:Int):dm K H (.int i) (.type "int")
  | str (x:Str):dm K H (.str x) (.type "str")
  | By (x:UInt64):dm K H (.By x) (.type "float")
  | lst {a:Addr} {xs:List V} (e:H a=some (.lst xs)):dm K H (.ref a) (.type "list")
  | qf {a:Addr} {o:Obj} {xs:List V} (e:H a=some (.qf o (.lst xs))):dm K H (.ref a) (.type "list")
  | tup {a:Addr} {xs:List V} (e:H a=some (.tup xs)):dm K H (.ref a) (.type "tuple")
  | dK {a:Addr} {bD:List (Key×V)} (e:H a=some (.dK bD)):dm K H (.ref a) (.type "dict")
  | dT {a:Addr} {bD:List (List Key×V)} (e:H a=some (.dT bD)):dm K H (.ref a) (.type "dict")
  | ins {a C dx:Addr} {fs:List (Str×V)} (e:H a=some (.ins C dx fs)) (cl:oF K C) (ha:W.findIn K (.ref C) "__class__"=some (some (.builtin "object.__class__")))
      (hn:W.specialIn K (.builtin "object.__class__") "__get__"=some (some (.builtin "getset_descriptor.__get__"))) (Jw:W.takesIn K (.builtin "object.__class__")=some true)
      (hm:W.mroIn K C (.type "object")=some true):dm K H (.ref a) (.ref C)
theorem mj {x:V}{u t:Value}(I:Inv X pins σ H s)(rx:RelV x u)(ty:dm X.K H x t)(e:W.kitOne X.K t c=some b)(h:∀tk,Q (.bool b) {s with toks:=tk}):
  wpAny (model X.prog X.w) A (call (.builtin "isinstance") [u,c]) Q E s:=by
 cases ty with
 | bb=>cases(show u=Value.none from rx);exact W.kia_one W.kitx_none I.dP True.intro e (λz=>nomatch z) h
 | bl y=>cases(show u=Value.bool y from rx);exact W.kia_one W.kitx_bool I.dP True.intro e (λz=>nomatch z) h
 | int i=>obtain⟨t,q⟩:=(show ∃t,u=Value.int i t from rx);cases q;exact W.kia_one W.kitx_int I.dP True.intro e (λz=>nomatch z) h
 | str y=>obtain⟨t,q⟩:=(show ∃t,u=Value.str y t from rx);cases q;exact W.kia_one W.kitx_str I.dP True.intro e (λz=>nomatch z) h
 | By y=>obtain⟨t,q⟩:=(show ∃t,u=Value.float y t from rx);cases q;exact W.kia_one W.kitx_float I.dP True.intro e (λz=>nomatch z) h
 | @lst a xs ea=>
  cases(show u=Value.ref a from rx)
  obtain⟨_,_,n,_,h1⟩:=(show bH X.prog X.w H s.heap a (.lst xs) from I.ba a _ ea)
  exact W.kia_one W.kitx_list I.dP ⟨_,h1,rfl⟩ e (λz=>nomatch z) h
 | @qf a ob xs ea=>
  cases(show u=Value.ref a from rx)
  obtain⟨_,_,_,n,_,h1⟩:=(show bH X.prog X.w H s.heap a (.qf ob (.lst xs)) from I.ba a _ ea)
  exact W.kia_one W.kitx_list I.dP ⟨_,h1,rfl⟩ e (λz=>nomatch z) h
 | @tup a xs ea=>
  cases(show u=Value.ref a from rx)
  obtain⟨_,_,_,p⟩:=(show bH X.prog X.w H s.heap a (.tup xs) from I.ba a _ ea)
  obtain⟨o,h1,h2,_⟩:=p
  exact W.kia_one W.kitx_tuple I.dP ⟨o,h1,h2⟩ e (λz=>nomatch z) h
 | @dK a bD ea=>
  cases(show u=Value.ref a from rx)
  obtain⟨_,_,vs,_,p⟩:=(show bH X.prog X.w H s.heap a (.dK bD) from I.ba a _ ea)
  obtain⟨o,es,ep,h1,h2,_⟩:=p
  exact W.kia_one W.kitx_dict I.dP ⟨o,h1,h2.1⟩ e (λz=>nomatch z) h
 | @dT a bD ea=>
  cases(show u=Value.ref a from rx)
  obtain⟨_,_,xs,_,o,es,ep,h1,h2,_⟩:=(show bH X.prog X.w H s.heap a (.dT bD) from I.ba a _ ea)
  exact W.kia_one W.kitx_dict I.dP ⟨o,h1,h2.1⟩ e (λz=>nomatch z) h
 | @ins a C dx fs ea cl ha hn Jw hm=>
  cases(show u=Value.ref a from rx)
  obtain⟨mA,O,_⟩:=iB I.ba ea
  obtain⟨od,J,_⟩:=O.look
  exact W.kia_one (W.kitx_own (cl.get _) cl.hd ha hn Jw hm) I.dP J e (λz=>nomatch z) h
end
end
section
variable {A:Around}{H:Hp}{kw:List (Str×Value)}{us:List Value}{s:Shared}{mg:Str->Option Value}{K:W.Frag}
structure bR (k:Nat)(A:Around):Prop where
 hd:A.handled=none
 dp:A.depth + 3 * k + 5 < recursionLimit
 un:A.units + 16 * k + 200 < cLine
theorem bR.mono{j k:Nat}(r:bR k A)(h:j<=k):bR j A:=⟨r.hd,by have:=r.dp;omega,by have:=r.un;omega⟩
theorem bR.deeper{k:Nat}(r:bR (k + 1) A)(env:Env):bR k (A.deeper env):=
 ⟨r.hd,by have:=r.dp;show A.depth + 1 + 3 * k + 5 < _;omega,by have:=r.un;show A.units + 3 + 16 * k + 200 < _;omega⟩
theorem qC {C:Addr}:(A.under (.builtin "type.__call__" ⟨.ref C::us,kw⟩)).depth=A.depth + 1:=by
 first | rfl | simp[Around.under,Code.weight,Code.isCreation,Code.isGuard,Code.isCaller,Code.frames,Code.isFrame,guardIds]
theorem qD {C:Addr}:(A.under (.builtin "type.__call__" ⟨.ref C::us,kw⟩)).units=A.units + 1:=by
 first | rfl | simp[Around.under,Code.cUnits,Code.frames,Code.isFrame]
theorem bR.make{k:Nat}(r:bR (k + 1) A)(C:Addr)(us:List Value)(kw:List (Str×Value)):bR k (A.under (.builtin "type.__call__" ⟨.ref C::us,kw⟩)):=
 ⟨r.hd,by have:=r.dp;rw[qC];omega,by have:=r.un;rw[qD];omega⟩
theorem bR.depth{k:Nat}(r:bR k A):A.depth < recursionLimit:=by have:=r.dp;omega
theorem bR.units{k:Nat}(r:bR k A):A.units + 64 < cLine:=by have:=r.un;omega
def lO:TA:=λ_ H Q=>Q [] H
def iC (ta:TE)(tr:TA):TA:=λσ H Q=>ta σ H λx H1=>tr σ H1 λxs H2=>Q (x::xs) H2
section
variable {X:Cx}{e:Expr}{es:List Expr}{te:TE}{t:TA}{pos:Pos}
theorem aa:PA X [] lO:=.mk λ_ _ _ _ H Q I h=>Calls.spliced_nil ⟨[],H,I,.nil,h⟩
theorem Am (ha:PE X e te)(hr:PA X es t)(hs:starEach (e::es) X.env=(false,eval e X.env)::starEach es X.env:=by rfl):PA X (e::es) (iC te t):=by
 refine⟨?_⟩
 intro pos pins s σ H Q I h
 rw[hs]
 show wpAny _ _ (spliced ((false,eval e X.env)::backTo pos (starEach es X.env))) _ _ s
 refine Calls.spliced_cons (bU (ha pins s σ H _ I h) λu s1 ⟨x,H1,I1,r1,q1⟩=>?_)
 exact bU (hr pos pins s1 σ H1 _ I1 q1) λus s2 ⟨xs,H2,I2,r2,q2⟩=>⟨x::xs,H2,I2,.cons r1 r2,q2⟩
def An (t:TA):TE:=λσ H Q=>t σ H λxs H1=>xs.length<=sizeLine/\∀p,H1 p=none->Q (.ref p) (upd H1 p (.tup xs))
def ur (t:TA):TE:=λσ H Q=>t σ H λxs H1=>xs.length<=sizeLine/\∀p,H1 p=none->Q (.ref p) (upd H1 p (.lst xs))
theorem aO {x1}(h:PA X es t):PE X (.Tuple es x1 pos) (An t):=by
 refine⟨?_⟩
 intro pins s σ H Q I hq
 refine wpAny_Tuple_spliced (bU (h pos pins s σ H _ I hq) λus s1 ⟨xs,H1,I1,r,z,q⟩=>⟨by rw[<-r.length];exact z,?_⟩)
 have hf:H1 s1.heap.objs.size=none:=I1.ba.fresh (Nat.le_refl _)
 refine⟨.ref s1.heap.objs.size,upd H1 s1.heap.objs.size (.tup xs),I1.laid (t':=s1.toks) (λb u e=>Heap.get?_push_of_some _ e) (Nat.le_refl _) ?_,rfl,q _ hf⟩
 exact⟨z,us,r,⟨_,Heap.get?_push_size _ rfl,rfl,_,rfl⟩⟩
theorem aS (h:PA X es t):PE X (.List es pos) (ur t):=by
 refine⟨?_⟩
 intro pins s σ H Q I hq
 refine wpAny_List_spliced (bU (h pos pins s σ H _ I hq) λus s1 ⟨xs,H1,I1,r,z,q⟩=>⟨by rw[<-r.length];exact z,?_⟩)
 have hf:H1 s1.heap.objs.size=none:=I1.ba.fresh (Nat.le_refl _)
 refine⟨.ref s1.heap.objs.size,upd H1 s1.heap.objs.size (.lst xs),I1.laid (t':=s1.toks) (λb u e=>Heap.get?_push_of_some _ e) (Nat.le_refl _) ?_,rfl,q _ hf⟩
 exact⟨z,us,0,r,Heap.get?_push_size _ rfl⟩
end
abbrev Sp:=List V->Hp->VK->XK->Prop
abbrev wM:=List Env->Hp->Shared->XK->Value->Shared->Prop
structure qE (P:Program)(w:World)(K:W.Frag)(mg:Str->Option Value)(base:Heap)(A:Around)(outer:List Env)(s:Shared)(H:Hp):Prop where
 frames:A.frames=some outer
 mod:Mod K mg base
 bs:∀b o,base.get? b=some o->s.heap.get? b=some o/\H b=none
 t5:base.objs.size<=s.heap.objs.size
 iz:s.heap.FunFrames base outer
 Ac:∀b ∈ oh outer,H b=none
 ba:iy P w H s.heap
 bare:AllBare s.gens
def CE (outer:List Env)(P:Program)(w:World)(H:Hp)(s:Shared)(Q:VK)(u:Value)(s':Shared):Prop:=
 ∃v H',s'.os=s.os/\AllBare s'.gens/\Un (oh outer) [] H H' s.heap s'.heap/\iy P w H' s'.heap/\RelV v u/\Q v H'
def CR (CX:wM)(outer:List Env)(P:Program)(w:World)(H:Hp)(s:Shared)(Q:VK)(E:XK)(r:Result)(s':Shared):Prop:=
 match r with
 | .ok (.ret u)=>CE outer P w H s Q u s'
 | .ok _=>False
 | .error e=>CX outer H s E e s'
structure dU (P:Program)(w:World)(K:W.Frag)(mg:Str->Option Value)(base:Heap)(CX:wM)(k:Nat)(f:Addr)(fd:FuncData)(ps:List Str)(sp:Sp):Prop where
 len:∀vs H Q E,sp vs H Q E->vs.length=ps.length
 run:∀(A:Around) (outer:List Env) (s:Shared) (H:Hp) (args:Args) (us:List Value) (vs:List V) (Q:VK) (E:XK),bR k A->qE P w K mg base A outer s H->BindsTo s fd args (ps.zip us)->Vals vs us->sp vs H Q E->
  codeAny (model P w) A (.call (.ref f) args) (CR CX outer P w H s Q E) s
theorem qE.make{P:Program}{w:World}{base:Heap}{outer:List Env}(e:qE P w K mg base A outer s H)(C:Addr)(us:List Value)(kw:List (Str×Value)):
  qE P w K mg base (A.under (.builtin "type.__call__" ⟨.ref C::us,kw⟩)) outer s H:=⟨by first | exact e.frames | (simpa[Around.under,Code.envs,Code.isFrame,pushEnvs] using e.frames),e.mod,e.bs,e.t5,e.iz,e.Ac,e.ba,e.bare⟩
section
variable {X:Cx}{pins:List (Addr×Obj)}{σ:St}{H:Hp}{s s':Shared}
theorem Inv.Ao(I:Inv X pins σ H s):qE X.prog X.w X.K X.mg X.base X.A X.stack s H:=
 ⟨I.ok.frames,I.ok.mod,I.bs,Nat.le_trans I.ok.t5 I.sz,I.stack,I.kq,I.ba,I.bare⟩
theorem Inv.after{Q:VK}{u:Value}(I:Inv X pins σ H s)(h:CE X.stack X.prog X.w H s Q u s'):EP X pins σ Q u s':=by
 obtain⟨v,H',os,bare,un,ba,r,q⟩:=h
 obtain⟨hh,g,d,t,P0⟩:=s'
 obtain rfl:P0=s.os:=os
 exact⟨v,H',I.call (h':=hh) (g':=g) (d':=d) (t':=t) (ch:=[]) un ba bare (λb z=>absurd z (by simp)),r,q⟩
end
def ml (sp:Sp)(lP:List V)(E:XK)(t:TA):TE:=λσ H Q=>t σ H λvs H1=>sp (vs++lP) H1 Q E
def jV (C:Addr)(m:Str)(sp:Sp)(lP:List V)(E:XK)(ta:TE)(t:TA):TE:=λσ H Q=>ta σ H λx H1=>∃a dx fs,x=.ref a/\H1 a=some (.ins C dx fs)/\fs.lookup m=none/\
 t σ H1 λvs H2=>sp (x::(vs++lP)) H2 Q E
def mm (C:Addr)(sp:Sp)(lP:List V)(E:XK)(t:TA):TE:=λσ H Q=>t σ H λvs H1=>∀x dx,H1 x=none->H1 dx=none->dx≠x->
 sp (.ref x::(vs++lP)) (upd (upd H1 dx (.own x)) x (.ins C dx [])) (λv H2=>v=.bb/\Q (.ref x) H2) E
def Binds (K:W.Frag)(fd:FuncData)(ps:List Str)(ds:List Value):Prop:=
 ∀(s:Shared) (us:List Value),K.In s.heap->(us++ds).length=ps.length->BindsTo s fd ⟨us,[]⟩ (ps.zip (us++ds))
theorem Binds.all{fd:FuncData}{ps:List Str}(h:∀us:List Value,us.length=ps.length->bindArgs fd ⟨us,[]⟩=pure (ps.zip us)):Binds K fd ps []:=λs us _ hl=>by
 rw[List.append_nil] at hl ⊢
 exact .of_eq (h us hl)
def Passes (CX:wM)(X:Cx)(E:XK):Prop:=∀(pins:List (Addr×Obj)) (σ:St) (H:Hp) (s:Shared) (e:Value) (s':Shared),Inv X pins σ H s->CX X.stack H s E e s'->X.xe e s'
section
variable {X:Cx}{CX:wM}{k:Nat}{f C:Addr}{fd:FuncData}{ps:List Str}{sp:Sp}{lP:List V}{ds:List Value}{E:XK}{x m:Str}{p pos apos:Pos}{e o:Expr}{es:List Expr}{ta:TE}{t:TA}
theorem qF {pins:List (Addr×Obj)}{σ:St}{H:Hp}{s:Shared}{Q:VK}{us:List Value}{vs:List V}(F:dU X.prog X.w X.K X.mg X.base CX k f fd ps sp)(hr:bR k X.A)(hb:Binds X.K fd ps ds)(hd:Vals lP ds)(hx:Passes CX X E)
  (I:Inv X pins σ H s) (r:Vals vs us) (h:sp (vs++lP) H Q E):wpAny (model X.prog X.w) X.A (call (.ref f) us) (EP X pins σ Q) X.xe s:=by
 have r2:Vals (vs++lP) (us++ds):=r.append hd
 have hl:(us++ds).length=ps.length:=by rw[<-r2.length];exact F.len _ _ _ _ h
 refine wpAny_call (codeAny_mono (F.run X.A X.stack s H ⟨us,[]⟩ (us++ds) (vs++lP) Q E hr I.Ao (hb s us I.dP hl) r2 h) λr s' hq=>?_)
 cases r with
 | error e=>exact hx pins σ H s e s' I hq
 | ok fl=>
  cases fl with
  | ret u=>exact I.after hq
  | next=>exact False.elim hq
  | brk=>exact False.elim hq
  | cont=>exact False.elim hq
theorem r0 (F:dU X.prog X.w X.K X.mg X.base CX k f fd ps sp)(hr:bR k X.A)(hg:Gl X x)(hm:X.mg x=some (.ref f))(hk:W.keepIn X.K (.ref f)=true)(hb:Binds X.K fd ps ds)(hd:Vals lP ds)(hx:Passes CX X E)
  (ha:PA X (e::es) t) (iD:(x == ("__debug__":Str))=false:=by decide) (he:starEach (e::es) X.env=(false,eval e X.env)::starEach es X.env:=by rfl) (qG:(backTo pos (starEach es X.env)).any (·.1)=false:=by rfl):
  PE X (.Call (.Name x p) (e::es) [] pos) (ml sp lP E t):=by
 walk_at "xc"
 refine wpAny_Call_Name_kw (fI I hg hm ?_ iD)
 refine W.callWith_K (h₀:=X.base) I.ok.mod.og hk (bU (ha pos pins s σ H _ I h) λus s1 ⟨vs,H1,I1,r,q⟩=>⟨I1.dP,?_⟩) he qG
 exact qF F hr hb hd hx I1 r q
theorem r6 {pl:Sem Bool}(he:PE X o ta)(c:oF X.K C)(hm:Meth X.K C m f)(F:dU X.prog X.w X.K X.mg X.base CX k f fd ps sp)(hr:bR k X.A)(hb:Binds X.K fd ps ds)(hd:Vals lP ds)(hx:Passes CX X E)(ha:PA X (e::es) t)
  (wz:starEach (e::es) X.env=(false,eval e X.env)::starEach es X.env:=by rfl) (qG:(backTo pos (starEach es X.env)).any (·.1)=false:=by rfl)
  (ht:eval (.Call (.Attribute o m apos) (e::es) [] pos) X.env=(do
   let ov <-eval o X.env
   standAt apos.atName
   let (f,first) <-holding [ov] (getMethod ov m pl)
   callWith pos f first (backTo pos (starEach (e::es) X.env)) (backToKw pos (keywordEach [] X.env))):=by rfl):
  PE X (.Call (.Attribute o m apos) (e::es) [] pos) (jV C m sp lP E ta t):=by
 walk_at "xc"
 refine W.methodCall_KW (pl:=pl) (bU (he pins s σ H _ I h) λu s1 ⟨x,H1,I1,rx,a,dx,fs,ex,ea,l,q⟩=>?_) ht
 subst ex
 obtain rfl:u=Value.ref a:=rx
 refine fL I1 ea c hm l ?_
 refine W.callWith_K (first:=[.ref a]) (h₀:=X.base) I.ok.mod.og hm.kp (bU (ha pos pins s1 σ H1 _ I1 q) λus s2 ⟨vs,H2,I2,r,q2⟩=>⟨I2.dP,?_⟩) wz qG
 exact qF (us:=.ref a::us) (vs:=.ref a::vs) F hr hb hd hx I2 (.cons rfl r) q2
theorem wN {pl:Sem Bool}(he:PE X o ta)(c:oF X.K C)(hm:Meth X.K C m f)(F:dU X.prog X.w X.K X.mg X.base CX k f fd ps sp)(hr:bR k X.A)(hb:Binds X.K fd ps ds)(hd:Vals lP ds)(hx:Passes CX X E)
  (ht:eval (.Call (.Attribute o m apos) [] [] pos) X.env=(do
   let ov <-eval o X.env
   standAt apos.atName
   let (f,first) <-holding [ov] (getMethod ov m pl)
   callWith pos f first (backTo pos (starEach [] X.env)) (backToKw pos (keywordEach [] X.env))):=by rfl):
  PE X (.Call (.Attribute o m apos) [] [] pos) (jV C m sp lP E ta lO):=by
 walk_at "xc"
 refine W.methodCall_KW (pl:=pl) (bU (he pins s σ H _ I h) λu s1 ⟨x,H1,I1,rx,a,dx,fs,ex,ea,l,q⟩=>?_) ht
 subst ex
 obtain rfl:u=Value.ref a:=rx
 refine fL I1 ea c hm l ?_
 exact W.callWith_K0 (first:=[.ref a]) I1.dP hm.kp (qF (us:=[.ref a]) (vs:=[.ref a]) F hr hb hd hx I1 (.cons rfl .nil) q)
structure Mk (K:W.Frag)(C f:Addr):Prop where
 makes:W.makesIn K C=true
 init:W.findIn K (.ref C) "__init__"=some (some (.ref f))
 fn:W.isFn K (.ref f)=true
 kp:W.keepIn K (.ref C)=true
theorem wO {pins:List (Addr×Obj)}{σ:St}{Q:VK}{vs:List V}(M:Mk X.K C f)(F:dU X.prog X.w X.K X.mg X.base CX k f fd ps sp)(hr:bR (k + 1) X.A)(hb:Binds X.K fd ps ds)(hd:Vals lP ds)
  (hx:Passes CX X E) (I:Inv X pins σ H s) (r:Vals vs us)
  (h:∀x dx,H x=none->H dx=none->dx≠x->sp (.ref x::(vs++lP)) (upd (upd H dx (.own x)) x (.ins C dx [])) (λv H2=>v=.bb/\Q (.ref x) H2) E):
  wpAny (model X.prog X.w) X.A (call (.ref C) us) (EP X pins σ Q) X.xe s:=by
 have hq:=h (s.heap.objs.size + 1) s.heap.objs.size (I.ba.fresh (Nat.le_succ _)) (I.ba.fresh (Nat.le_refl _)) (Nat.ne_of_lt (Nat.lt_succ_self _))
 have I2:=Inv.made (C:=C) I
 have r2:Vals (V.ref (s.heap.objs.size + 1)::(vs++lP)) (Value.ref (s.heap.objs.size + 1)::(us++ds)):=.cons rfl (r.append hd)
 have hl:(Value.ref (s.heap.objs.size + 1)::us++ds).length=ps.length:=by
  have e:=r2.length
  rw[F.len _ _ _ _ hq] at e
  exact e.symm
 refine wpAny_call (oE (f:=f) I.dP M.makes M.init (beq_iff_eq.mp M.fn) (codeAny_mono (F.run _ X.stack _ _ ⟨Value.ref (s.heap.objs.size + 1)::us,[]⟩ (Value.ref (s.heap.objs.size + 1)::(us++ds)) _ _ E (hr.make C us [])
  (I2.Ao.make C us []) (hb _ (Value.ref (s.heap.objs.size + 1)::us) I2.dP hl) r2 hq) λr s' wQ=>?_))
 cases r with
 | error e=>exact hx pins σ _ _ e s' I2 wQ
 | ok fl=>
  cases fl with
  | ret u=>
   obtain⟨v,H',I3,rv,ev,q3⟩:=I2.after wQ
   subst ev
   exact⟨rv,⟨V.ref (s.heap.objs.size + 1),H',I3,rfl,q3⟩⟩
  | next=>exact False.elim wQ
  | brk=>exact False.elim wQ
  | cont=>exact False.elim wQ
theorem r8 (M:Mk X.K C f)(F:dU X.prog X.w X.K X.mg X.base CX k f fd ps sp)(hr:bR (k + 1) X.A)(hg:Gl X x)(hm:X.mg x=some (.ref C))(hb:Binds X.K fd ps ds)(hd:Vals lP ds)(hx:Passes CX X E)
  (ha:PA X (e::es) t) (iD:(x == ("__debug__":Str))=false:=by decide) (he:starEach (e::es) X.env=(false,eval e X.env)::starEach es X.env:=by rfl) (qG:(backTo pos (starEach es X.env)).any (·.1)=false:=by rfl):
  PE X (.Call (.Name x p) (e::es) [] pos) (mm C sp lP E t):=by
 walk_at "xc"
 refine wpAny_Call_Name_kw (fI I hg hm ?_ iD)
 refine W.callWith_K (h₀:=X.base) I.ok.mod.og M.kp (bU (ha pos pins s σ H _ I h) λus s1 ⟨vs,H1,I1,r,q⟩=>⟨I1.dP,?_⟩) he qG
 exact wO M F hr hb hd hx I1 r q
end
structure aI (N P:List Str)(sc:Scope):Prop where
 kind:sc.kind=.function
 co:sc.isCoroutine=false
 gen:sc.isGenerator=false
 nd:N.Nodup
 pre:N.take P.length=P
 par:∀x ∈ P,sc.names.lookup x=some .local\/sc.names.lookup x=some .cell
 DH:∀y ∈ sc.names,y.2≠.free
theorem mq {kindOf:Str->Option NameKind}{x:Str}:∀{binds:List (Str×Value)} {m:Str->Option Value},(∀v,(x,v) ∉ binds)->bindL kindOf binds m x=m x
 | [],_,_=>rfl
 | (n,v)::r,m,h=>by
  unfold bindL
  rw[mq λw hw=>h w (List.mem_cons_of_mem _ hw)]
  split
  ·have:x≠n:=by rintro rfl;exact h v List.mem_cons_self
   simp[this]
  ·rfl
theorem mw {kindOf:Str->Option NameKind}{x:Str}:∀{binds:List (Str×Value)} {m:Str->Option Value},(∀v,(x,v) ∉ binds)->bindC kindOf binds m x=m x
 | [],_,_=>rfl
 | (n,v)::r,m,h=>by
  unfold bindC
  rw[mw λw hw=>h w (List.mem_cons_of_mem _ hw)]
  split
  ·rfl
  ·have:x≠n:=by rintro rfl;exact h v List.mem_cons_self
   simp[this]
theorem my {kindOf:Str->Option NameKind}{x:Str}{v:Value}:∀{P:List Str} {vs:List Value} {i:Nat} {m:Str->Option Value},P.Nodup->P[i]?=some x->vs[i]?=some v->kindOf x=some .local->
  bindL kindOf (P.zip vs) m x=some v
 | [],_,_,_,_,h,_,_=>by simp at h
 | _::_,[],_,_,_,_,h,_=>by simp at h
 | p::P,w::vs,0,m,nd,h1,h2,hk=>by
  simp at h1 h2;subst h1;subst h2
  show bindL kindOf ((p,w)::P.zip vs) m p=_
  unfold bindL
  rw[mq λv hv=>(List.nodup_cons.mp nd).1 (List.of_mem_zip hv).1,if_pos hk]
  simp
 | p::P,w::vs,i + 1,m,nd,h1,h2,hk=>by
  show bindL kindOf ((p,w)::P.zip vs) m x=_
  unfold bindL
  exact my (i:=i) (List.nodup_cons.mp nd).2 (by simpa using h1) (by simpa using h2) hk
theorem mz {kindOf:Str->Option NameKind}{x:Str}{v:Value}:∀{P:List Str} {vs:List Value} {i:Nat} {m:Str->Option Value},P.Nodup->P[i]?=some x->vs[i]?=some v->kindOf x≠some .local->
  bindC kindOf (P.zip vs) m x=some v
 | [],_,_,_,_,h,_,_=>by simp at h
 | _::_,[],_,_,_,_,h,_=>by simp at h
 | p::P,w::vs,0,m,nd,h1,h2,hk=>by
  simp at h1 h2;subst h1;subst h2
  show bindC kindOf ((p,w)::P.zip vs) m p=_
  unfold bindC
  rw[mw λv hv=>(List.nodup_cons.mp nd).1 (List.of_mem_zip hv).1,if_neg hk]
  simp
 | p::P,w::vs,i + 1,m,nd,h1,h2,hk=>by
  show bindC kindOf ((p,w)::P.zip vs) m x=_
  unfold bindC
  exact mz (i:=i) (List.nodup_cons.mp nd).2 (by simpa using h1) (by simpa using h2) hk
def start (N:List Str)(vs:List V):St:=vs.map some++List.replicate (N.length - vs.length) none
def fz (CX:wM)(P:Program)(w:World)(K:W.Frag)(mg:Str->Option Value)(base:Heap)(N:List Str)(qual:Str)(scope:Scope)(f:Addr)(cd:Value)(A:Around)(outer:List Env)(s:Shared)(H:Hp)(E:XK):Cx where
 prog:=P
 w:=w
 K:=K
 mg:=mg
 base:=base
 A:=A.deeper (envOfC qual scope s.heap.objs.size f cd)
 N:=N
 s₀:=s
 H₀:=H
 env:=envOfC qual scope s.heap.objs.size f cd
 outer:=outer
 stack:=envOfC qual scope s.heap.objs.size f cd::outer
 ex:=[]
 calm:=true
 fn:=λ_=>true
 pn:=[]
 xe:=λe s'=>wpAny (model P w) (A.deeper (envOfC qual scope s.heap.objs.size f cd)) (leaving (envOfC qual scope s.heap.objs.size f cd) e) (λ_ GS=>CX outer H s E e GS) (λe' GS=>CX outer H s E e' GS) s'
theorem oG {sc:Scope}{n:Nat}{x:Str}(h:sc.names.lookup x=some .cell):∃c,(cellsFrom n sc.names []).lookup x=some c:=by
 have q:=W.cellsFrom_some sc.names n [] (.inl h)
 exact Option.isSome_iff_exists.mp q
theorem uu {CX:wM}{P:Program}{w:World}{base:Heap}{N ps:List Str}{qual:Str}{scope:Scope}{f:Addr}{cd:Value}{outer:List Env}{s1:Shared}{E:XK}{vs:List V}
  (S:aI N ps scope) (hd:A.handled=none) (e0:qE P w K mg base A outer s H) (hl:vs.length=ps.length) (r:Vals vs us)
  (x:InCallC s s.heap.objs.size (bindL (envOfC qual scope s.heap.objs.size f cd).kindOf (ps.zip us) λ_=>none) (cellsFrom (s.heap.objs.size + 1) scope.names []) (bindC (envOfC qual scope s.heap.objs.size f cd).kindOf (ps.zip us) λ_=>none) s1):
  Inv (fz CX P w K mg base N qual scope f cd A outer s H E) [] (start N vs) H s1:=by
 have qG:ps.length<=N.length:=by have:=congrArg List.length S.pre;rw[List.length_take] at this;omega
 obtain⟨h1,tk,rfl,hk⟩:=x.done
 have GU:∀b:Addr,b ∉ (fz CX P w K mg base N qual scope f cd A outer s H E).ex:=λb z=>absurd (show b ∈ ([]:List Addr) from z) (by simp)
 refine⟨⟨e0.mod,S.kind,rfl,rfl,Nat.le_refl _,λy z c h1 h2=>?_,λy hy=>?_,λy c _ h=>?_,λ_=>hd,Around.frames_deeper e0.frames,.inr ⟨rfl,rfl⟩,λb z=>absurd z (GU b),e0.bs,e0.t5,λb _ _=>GU b,λb z=>absurd z (GU b),e0.iz,e0.Ac⟩,
  rfl,e0.bare,Un.kept hk,⟨_,x.toInCall.ns,λi y v h1 h2 h3=>?_⟩,λy c h=>⟨_,x.cell y c h⟩,e0.ba.fresh (Nat.le_refl _),λy c h=>?_,λp hp=>absurd (show p ∈ ([]:List (Addr×Obj)) from hp) (by simp),e0.ba.kept hk,?_⟩
 ·exact name_of_addr x.apart (PySem.mem_of_lookup h1) (PySem.mem_of_lookup h2)
 ·have hy:scope.names.lookup y=some .cell\/scope.names.lookup y=some .free:=hy
  rcases hy with hy | hy
  ·exact oG hy
  ·exact absurd rfl (S.DH _ (PySem.mem_of_lookup hy))
 ·exact Nat.le_of_lt (x.above y c (PySem.mem_of_lookup h))
 ·have hi:i < vs.length:=by
   unfold start at h2
   by_cases hi:i < vs.length
   ·exact hi
   ·rw[List.getElem?_append_right (by simpa using hi)] at h2
    rw[List.getElem?_replicate] at h2
    split at h2 <;> cases h2
  have ha:vs[i]?=some v:=by
   unfold start at h2
   rw[List.getElem?_append_left (by simpa using hi),List.getElem?_map] at h2
   cases e:vs[i]? with
   | none=>rw[e] at h2;cases h2
   | some a=>rw[e] at h2;cases h2;rfl
  obtain⟨u,hu,rv⟩:=r.get ha
  have hp:ps[i]?=some y:=by
   rw[<-S.pre,List.getElem?_take_of_lt (by omega)];exact h1
  have NK:ps.Nodup:=by rw[<-S.pre];exact S.nd.sublist (List.take_sublist _ _)
  refine⟨u,rv,?_⟩
  rcases S.par y (List.mem_of_getElem? hp) with k | k
  ·exact .inl ⟨k,my NK hp hu k⟩
  ·obtain⟨c,e⟩:=oG (n:=s.heap.objs.size + 1) k
   refine .inr ⟨.inl k,c,e,?_⟩
   have q:=x.cell y c e
   rw[mz NK hp hu (by show scope.names.lookup y≠_;rw[k];decide)] at q
   exact q
 ·exact e0.ba.fresh (Nat.le_of_lt (x.above y c (PySem.mem_of_lookup h)))
 ·unfold start
  show _=N.length
  rw[List.length_append,List.length_map,List.length_replicate]
  omega
theorem BK {CX:wM}{P:Program}{w:World}{base:Heap}{k:Nat}{f:Addr}{name qual:Str}{params:Arguments}{body:List Stmt}{scope:Scope}{dV kV doc pm cy ct oc:Value}{an od:Option Addr}
  {Ap:Array (Option Value)} {N ps:List Str} {sp:Sp} (lk:K.lookup f=some ⟨oc,od,.func (W.fnOf name qual params body scope dV kV doc pm an cy ct),Ap⟩) (lN:W.codeIn K cy qual=true) (S:aI N ps scope)
  (len:∀vs H Q E,sp vs H Q E->vs.length=ps.length)
  (cX:∀(A:Around) (outer:List Env) (s:Shared) (H:Hp) (vs:List V) (Q:VK) (E:XK),bR k (A.deeper (envOfC qual scope s.heap.objs.size f cy))->sp vs H Q E->
   ∃t,kr (fz CX P w K mg base N qual scope f cy A outer s H E) body t/\t {nx:=λ_ H'=>Q .bb H',rt:=Q} (start N vs) H):
  dU P w K mg base CX (k + 1) f (W.fnOf name qual params body scope dV kV doc pm an cy ct) ps sp:=by
 refine⟨len,λA outer s H args us vs Q E hr e0 hb r zO=>?_⟩
 have hl:=len _ _ _ _ zO
 have KX:K.In s.heap:=e0.mod.og.keeps λb o e=>(e0.bs b o e).1
 have lim:s.heap.NoLimit:=e0.mod.nolimit.keeps λb o e=>(e0.bs b o e).1
 have r9:∀y ∈ ps.zip us,scope.names.lookup y.1=some .local\/(scope.names.lookup y.1=some .cell/\((cellsFrom (s.heap.objs.size + 1) scope.names []).lookup y.1).isSome=true):=λ⟨n,v⟩ hy=>by
  rcases S.par n (List.of_mem_zip hy).1 with q | q
  ·exact .inl q
  ·exact .inr ⟨q,W.cellsFrom_some _ _ _ (.inl q)⟩
 refine codeAny_call_function hr.depth (KX _ _ lk) rfl S.co S.gen rfl (W.codeRec_of KX lN) (hb _ _ _ _ ?_)
 refine wpAny_newFunctionEnv_cells S.kind r9 λenv he s1 x=>?_
 subst he
 refine⟨lim.keeps x.toInCall.keep,codeAny_func ?_⟩
 obtain⟨t,ht,hq⟩:=cX A outer s H vs Q E (hr.deeper _) zO
 have I:Inv (fz CX P w K mg base N qual scope f cy A outer s H E) [] (start N vs) H s1:=uu S hr.hd e0 hl r x
 refine wpAny_mono (ht [] s1 (start N vs) H _ I hq) (λfl s' hs=>?_) λe s' hs=>hs
 have fin:∀{σ':St} {H':Hp} {v:V} {u:Value},Inv (fz CX P w K mg base N qual scope f cy A outer s H E) [] σ' H' s'->RelV v u->Q v H'->CE outer P w H s Q u s':=
  λ{σ' H' v u} J rv q=>⟨v,H',J.os,J.bare,J.base,J.ba,rv,q⟩
 cases fl with
 | ret u=>
  obtain⟨v,σ',H',J,rv,q⟩:=hs
  exact fin J rv q
 | next=>
  obtain⟨σ',H',J,q⟩:=hs
  exact fin (v:=V.bb) (u:=Value.none) J rfl q
 | brk=>
  obtain⟨_,_,_,q⟩:=hs
  exact False.elim q
 | cont=>
  obtain⟨_,_,_,q⟩:=hs
  exact False.elim q
end
section
section
variable {X:Cx}{x:Str}{p pos:Pos}{e:Expr}{es:List Expr}{t:TA}{id T:String}{r:List V->Hp->VK->Prop}
def DI (r:List V->Hp->VK->Prop)(t:TA):TE:=λσ H Q=>t σ H λvs H1=>r vs H1 Q
theorem wR (hc:cz X (.builtin id) r)(hg:Gl X x)(hm:X.mg x=none)(hv:bootBuiltins x=some (.builtin id))(ha:PA X (e::es) t)(hn:x≠"__name__":=by decide)(iD:(x == ("__debug__":Str))=false:=by decide)
  (he:starEach (e::es) X.env=(false,eval e X.env)::starEach es X.env:=by rfl) (qG:(backTo pos (starEach es X.env)).any (·.1)=false:=by rfl):PE X (.Call (.Name x p) (e::es) [] pos) (DI r t):=by
 walk_at "xc"
 refine wpAny_Call_Name_kw (i4 I hg hm hv ?_ hn iD)
 exact PyProof.Rows.callWith_builtin1 (bU (ha pos pins s σ H _ I h) λus s1 ⟨vs,H1,I1,r1,q1⟩=>hc pins s1 σ H1 vs us Q I1 r1 q1) he qG
theorem uv (hc:cz X (.type T) r)(hg:Gl X x)(hm:X.mg x=none)(hv:bootBuiltins x=some (.type T))(ha:PA X (e::es) t)(hn:x≠"__name__":=by decide)(iD:(x == ("__debug__":Str))=false:=by decide)
  (he:starEach (e::es) X.env=(false,eval e X.env)::starEach es X.env:=by rfl) (qG:(backTo pos (starEach es X.env)).any (·.1)=false:=by rfl):PE X (.Call (.Name x p) (e::es) [] pos) (DI r t):=by
 walk_at "xc"
 refine wpAny_Call_Name_kw (i4 I hg hm hv ?_ hn iD)
 exact PyProof.Rows.callWith_type1 (bU (ha pos pins s σ H _ I h) λus s1 ⟨vs,H1,I1,r1,q1⟩=>hc pins s1 σ H1 vs us Q I1 r1 q1) he qG
end
end
end L2
namespace HT
open PySem PyProof.Rows
variable {Q:Value->Shared->Prop}
section
open PySem.SeqAt
open PySem.AutoSeq1 (wpAny_loadPart')
open PySem.MeetsSeq PySem.MeetsSeq2 PySem.MeetsSeq3
end
section
variable {prog:Program}{w:World}{A:Around}{E:Value->Shared->Prop}{s:Shared}
theorem Aq {t b:Addr}{vs ws:List Value}(ht:IsTup s.heap t vs.toArray)(hb:IsTup s.heap b ws.toArray)(hv:vs≠[])
  (h1:ws=[]->Q (.ref t) s) (h2:ws≠[]->Q (.ref s.heap.objs.size) {s with heap:=s.heap.push {cls:=.type "tuple",data:=.seq (vs++ws).toArray}})
  (qz:vs.length + ws.length<=sizeLine):wpAny (model prog w) A (binaryOp .Add (.ref t) (.ref b)) Q E s:=by
 obtain⟨⟨cls,dd,data,sl⟩,ho,hc,n,hd⟩:=id ht
 obtain⟨⟨KJ,Jx,data2,Jy⟩,DJ,GV,n2,hd2⟩:=id hb
 simp only at hc hd GV hd2
 subst hc hd GV hd2
 have e:vs.toArray++ws.toArray=(vs++ws).toArray:=by simp
 by_cases hw:ws=[]
 ·exact concat_meets ⟨_,ho,rfl⟩ ⟨_,DJ,rfl⟩ noFill_tuple_add seq_tuple_add PySem.F.slot_tuple_add PySem.F.entry_tuple_add (PySem.F.args_tuple_add_2 _ _)
   (tuple_addW1 t b vs.toArray ws.toArray n n2 dd Jx sl Jy (by simpa using hv) (by simp[hw])) ⟨ho,DJ,h1 hw⟩
 ·refine concat_meets ⟨_,ho,rfl⟩ ⟨_,DJ,rfl⟩ noFill_tuple_add seq_tuple_add PySem.F.slot_tuple_add PySem.F.entry_tuple_add (PySem.F.args_tuple_add_2 _ _)
   (tuple_addW2 t b vs.toArray ws.toArray n n2 dd Jx sl Jy (by simpa using hv) (by simpa using hw) (by rw[List.size_toArray,List.size_toArray];exact qz)) ⟨ho,DJ,?_⟩
  rw[e]
  exact h2 hw
def cM (n d:Nat):Option Int->Nat
 | none=>d
 | some v=>if v < 0 then(v + (n:Int)).toNat else min v.toNat n
theorem DK (n d:Nat)(hd:d<=n)(o:Option Int):cM n d o<=n:=by
 cases o with
 | none=>exact hd
 | some v=>
  show(if v < 0 then(v + (n:Int)).toNat else min v.toNat n)<=n
  by_cases hv:v < 0
  ·rw[if_pos hv];omega
  ·rw[if_neg hv];exact Nat.min_le_right _ _
theorem sd (v:Int)(n d:Nat):(if v < 0 then max (v + (n:Int)) 0 else min v (n:Int))=((cM n d (some v):Nat):Int):=by
 show(if v < 0 then max (v + (n:Int)) 0 else min v (n:Int))=(((if v < 0 then(v + (n:Int)).toNat else min v.toNat n):Nat):Int)
 by_cases hv:v < 0
 ·simp only[if_pos hv];omega
 ·simp only[if_neg hv];omega
theorem qH (lo hi:Option Int)(n:Nat):Builtin.Slice.sliceAdjust lo hi 1 (n:Int)=(((cM n 0 lo:Nat):Int),((cM n n hi:Nat):Int)):=by
 have h1:¬((1:Int) < 0):=by omega
 unfold Builtin.Slice.sliceAdjust
 simp only[h1,if_false]
 refine Prod.ext ?_ ?_
 ·cases lo with
  | none=>rfl
  | some v=>exact sd v n 0
 ·cases hi with
  | none=>rfl
  | some v=>exact sd v n n
theorem qI (i j:Nat):Builtin.Slice.slicePlaces (i:Int) (j:Int) 1=j - i:=by
 unfold Builtin.Slice.slicePlaces
 have h1:(1:Int) > 0:=by omega
 simp only[h1,if_true,Int.ediv_one]
 split <;> omega
theorem kG {v:Value}{o:Option Int}{Q:Option Int->Shared->Prop}(p:IsPart v o)(h:Q o s):wpAny (model prog w) A (Builtin.Slice.slicePartIndex v) Q E s:=by
 cases p with
 | none=>exact slicePart_none h
 | int i t=>exact slicePart_int h
theorem fA {sl:Addr}{vl vu:Value}{lo hi:Option Int}{n:Nat}{Q:Int×Int×Nat->Shared->Prop}(hs:s.heap.IsSliceOf sl vl vu .none)(pl:IsPart vl lo)(pu:IsPart vu hi)
  (h:Q (((cM n 0 lo:Nat):Int),1,cM n n hi - cM n 0 lo) s):wpAny (model prog w) A (Builtin.Slice.sliceApplied (.ref sl) (pure (n:Int))) Q E s:=by
 obtain⟨os,DM,se,gM⟩:=id hs
 unfold Builtin.Slice.sliceApplied Builtin.Slice.sliceFields
 refine wpAny_bind (wpAny_bind (wpAny_field DM gM (x:=vl) rfl (wpAny_bind (wpAny_field DM gM (x:=vu) rfl (wpAny_bind (wpAny_field DM gM (x:=.none) rfl (wpAny_pure ?_)))))))
 refine wpAny_bind (slicePart_none ?_)
 show wpAny _ _ (if ((1:Int) == 0)=true then _ else _) _ _ s
 rw[if_neg (by decide)]
 refine wpAny_bind (kG pl (wpAny_bind (kG pu (wpAny_bind (wpAny_pure ?_)))))
 show wpAny _ _ (match Builtin.Slice.sliceAdjust lo hi 1 (n:Int) with | (lo,hi)=>pure (lo,(1:Int),Builtin.Slice.slicePlaces lo hi 1)) _ _ s
 rw[qH lo hi n]
 show wpAny _ _ (pure (((cM n 0 lo:Nat):Int),(1:Int),Builtin.Slice.slicePlaces ((cM n 0 lo:Nat):Int) ((cM n n hi:Nat):Int) 1)) _ _ s
 rw[qI]
 exact wpAny_pure h
theorem wU (xs:Array Value)(i k:Nat):((List.range k).filterMap λ(m:Nat)=>xs[((i:Int) + (m:Int) * 1).toNat]?).toArray=((xs.toList.drop i).take k).toArray:=by
 have e:(λ(m:Nat)=>xs[((i:Int) + (m:Int) * 1).toNat]?)=λm=>xs[i + m]?:=by
  funext m
  have:((i:Int) + (m:Int) * 1).toNat=i + m:=by omega
  rw[this]
 rw[e]
 have:=pick_run xs i k
 rw[List.filterMap_map] at this
 have e2:((λx=>xs[x]?) ∘ λx=>i + x)=λm=>xs[i + m]?:=rfl
 rw[e2] at this
 rw[this]
theorem iE {t sl:Addr}{items:Array Value}{vl vu:Value}{lo hi:Option Int}(ht:IsTup s.heap t items)(hs:s.heap.IsSliceOf sl vl vu .none)(pl:IsPart vl lo)(pu:IsPart vu hi)
  (hw:¬(cM items.size 0 lo=0/\cM items.size items.size hi=items.size))
  (h:Q (.ref s.heap.objs.size) {s with heap:=s.heap.push {cls:=.type "tuple",data:=.seq ((items.toList.drop (cM items.size 0 lo)).take (cM items.size items.size hi - cM items.size 0 lo)).toArray}})
  (qz:items.size<=sizeLine):wpAny (model prog w) A (getItem (.ref t) (.ref sl)) Q E s:=by
 have sf:sizeOk (.seq ((items.toList.drop (cM items.size 0 lo)).take (cM items.size items.size hi - cM items.size 0 lo)).toArray):=by
  show((items.toList.drop (cM items.size 0 lo)).take (cM items.size items.size hi - cM items.size 0 lo)).toArray.size<=sizeLine
  rw[List.size_toArray,List.length_take,List.length_drop,Array.length_toList]
  omega
 have hj:cM items.size items.size hi<=items.size:=DK _ _ (Nat.le_refl _) hi
 obtain⟨os,DM,se,gM⟩:=id hs
 have KL:s.TypeIs (.ref sl) "slice":=⟨os,DM,se⟩
 unfold getItem
 try with_reducible refine wpAny_holding ?_
 first | refine wpAny_bind (wpAny_pure ?_) | skip
 refine wpAny_bind (wpAny_sequenceKey ht.typeIs (by decide) ?_)
 refine wpAny_bind (wpAny_callSpecial?_slot (name:=Str.ofString "__getitem__") ht.typeIs PyProof.Rows.slot_tuple_getitem
  (wpAny_call_entry PyProof.Rows.slot_tuple_getitem ht.typeIs entry_tuple_getitem ?_ (args_tuple_getitem _ _)))
 show wpAny _ _ (Builtin.Tuple.tupleItemsOf (.ref t) >>= _) _ _ s
 refine wpAny_bind (tupleItemsOf_ ht ?_)
 refine wpAny_bind (wpAny_typeOf KL ?_)
 rw[if_pos (by decide)]
 refine wpAny_bind (fA hs pl pu ?_)
 have GW:¬((((cM items.size 0 lo:Nat):Int) == 0 && (1:Int) == 1 && (cM items.size items.size hi - cM items.size 0 lo) == items.size)=true):=by
  intro q
  rw[Bool.and_eq_true,Bool.and_eq_true] at q
  have q1:((cM items.size 0 lo:Nat):Int)=0:=eq_of_beq q.1.1
  have q2:cM items.size items.size hi - cM items.size 0 lo=items.size:=eq_of_beq q.2
  exact hw ⟨by omega,by omega⟩
 show wpAny _ _ (if (((cM items.size 0 lo:Nat):Int) == 0 && (1:Int) == 1 && (cM items.size items.size hi - cM items.size 0 lo) == items.size)=true then _ else _) _ _ s
 rw[if_neg GW,wU]
 first
  | exact wpAny_bind (m:=Builtin.Tuple.tupleExact _) (wpAny_newObj_type (wpAny_pure ⟨_,rfl,wpAny_pure h⟩) sf)
  | exact wpAny_bind (m:=Builtin.Tuple.tupleExact _) (wpAny_newObj_type (wpAny_bind (wpAny_pure (wpAny_pure ⟨_,rfl,wpAny_pure h⟩))) sf)
  | exact wpAny_bind (wpAny_bind (m:=Builtin.Tuple.tupleExact _) (wpAny_newObj_type (wpAny_pure (wpAny_pure ⟨_,rfl,wpAny_pure h⟩)) sf))
  | exact wpAny_bind (wpAny_bind (m:=Builtin.Tuple.tupleExact _) (wpAny_newObj_type (wpAny_pure ⟨_,rfl,wpAny_pure h⟩) sf))
end
end HT
namespace L2
open PySem PySem.Spec PyProof.Rows
section
abbrev TO:=St->Hp->(Option Int->Hp->Prop)->Prop
def PO (X:Cx)(e:Option Expr)(t:TO):Prop:=
 ∀(pins:List (Addr×Obj)) (s:Shared) (σ:St) (H:Hp) (Q:Option Int->Hp->Prop),Inv X pins σ H s->t σ H Q->
  wpAny (model X.prog X.w) X.A (evalPart e X.env) (λu s'=>∃o H',Inv X pins σ H' s'/\IsPart u o/\Q o H') X.xe s
def m9:TO:=λ_ H Q=>Q none H
def wV (t:TE):TO:=λσ H Q=>t σ H λx H1=>∃i,x=.int i/\Q (some i) H1
section
variable {X:Cx}{e:Expr}{te:TE}{lo hi:Option Expr}{tl th:TO}{pos p2:Pos}
theorem gF:PO X none m9:=by
 intro pins s σ H Q I h
 rw[evalPart_none]
 exact wpAny_pure ⟨none,H,I,.none,h⟩
theorem gG (h:PE X e te):PO X (some e) (wV te):=by
 intro pins s σ H Q I hw
 rw[evalPart_some]
 refine bU (h pins s σ H _ I hw) λu s1 ⟨x,H1,I1,r1,q1⟩=>?_
 obtain⟨i,rfl,q⟩:=q1
 obtain⟨t,rfl⟩:=r1
 exact⟨some i,H1,I1,.int i t,q⟩
def Jz (X:Cx)(r:V->Option Int->Option Int->Hp->VK->Prop):Prop:=
 ∀(pins:List (Addr×Obj)) (s:Shared) (σ:St) (H:Hp) (x:V) (v vl vu:Value) (lo hi:Option Int) (sl:Addr) (Q:VK),Inv X pins σ H s->RelV x v->s.heap.IsSliceOf sl vl vu .none->IsPart vl lo->IsPart vu hi->r x lo hi H Q->
  ∃T id,typeLookup (.type T) "__getitem__"=pure (some (.builtin id))/\s.TypeIs v T/\wpAny (model X.prog X.w) X.A (getItem v (.ref sl)) (EP X pins σ Q) X.xe s
def JA (r:V->Option Int->Option Int->Hp->VK->Prop)(te:TE)(tl th:TO):TE:=λσ H Q=>te σ H λx H1=>tl σ H1 λl H2=>th σ H2 λu H3=>r x l u H3 Q
theorem wW {r:V->Option Int->Option Int->Hp->VK->Prop}(hr:Jz X r)(he:PE X e te)(hl:PO X lo tl)(hu:PO X hi th):PE X (.Subscript e (.Slice lo hi none p2) pos) (JA r te tl th):=by
 walk_at "xc"
 refine Subscript_ (bU (he pins s σ H _ I h) λv s1 ⟨x,H1,I1,r1,q1⟩=>?_)
 refine wpAny_Slice (bU (hl pins s1 σ H1 _ I1 q1) λvl s2 ⟨l,H2,I2,pl,q2⟩=>bU (hu pins s2 σ H2 _ I2 q2) λvu s3 ⟨u,H3,I3,pu,q3⟩=>?_)
 rw[evalPart_none]
 refine wpAny_pure ?_
 have I4:Inv X pins σ H3 {s3 with heap:=s3.heap.push {cls:=.type "slice",data:=.fields #[vl,vu,.none]}}:=I3.kept (t':=s3.toks) λb ob q=>Heap.get?_push_of_some _ q
 obtain⟨T,id,hT,ht,hg⟩:=hr pins {s3 with heap:=s3.heap.push {cls:=.type "slice",data:=.fields #[vl,vu,.none]}} σ H3 x v vl vu l u s3.heap.objs.size Q I4 r1 (Heap.IsSliceOf.new ..) pl pu q3
 show wpAny (model X.prog X.w) X.A (subscriptTail e (.Slice lo hi none p2) v (.ref s3.heap.objs.size)) (EP X pins σ Q) X.xe {s3 with heap:=s3.heap.push {cls:=.type "slice",data:=.fields #[vl,vu,.none]}}
 exact tail_any (ops:=[.ref s3.heap.objs.size,v]) ht hT hg (by with_unfolding_all rfl)
def dM (xs:List V)(lo hi:Option Int):List V:=(xs.drop (HT.cM xs.length 0 lo)).take (HT.cM xs.length xs.length hi - HT.cM xs.length 0 lo)
theorem jW (xs:List V)(lo hi:Option Int):(dM xs lo hi).length<=xs.length:=by
 unfold dM
 rw[List.length_take,List.length_drop]
 omega
def KN (K:W.Frag):V->Option Int->Option Int->Hp->VK->Prop:=λx lo hi H Q=>∃a xs,x=.ref a/\bM K H a xs/\
 ¬(HT.cM xs.length 0 lo=0/\HT.cM xs.length xs.length hi=xs.length)/\∀p,H p=none->Q (.ref p) (upd H p (.tup (dM xs lo hi)))
theorem DO:Jz X (KN X.K):=by
 intro pins s σ H x v vl vu lo hi sl Q I rx hs pl pu h
 obtain⟨a,xs,rfl,hx,hw,q⟩:=h
 cases rx
 obtain⟨aE,r,ht,hz⟩:=I.tuple hx
 have hlen:aE.toArray.size=xs.length:=by rw[List.size_toArray];exact r.length.symm
 refine⟨"tuple",_,PyProof.Rows.slot_tuple_getitem.lookup,ht.typeIs,?_⟩
 refine HT.iE ht hs pl pu (by rw[hlen];exact hw) ?_ (by rw[hlen];exact hz)
 rw[hlen]
 refine⟨.ref s.heap.objs.size,_,I.laid (t':=s.toks) (o:=.tup (dM xs lo hi)) (λb ob q=>Heap.get?_push_of_some _ q) (Nat.le_refl _) ?_,rfl,q _ (I.ba.fresh (Nat.le_refl _))⟩
 exact⟨Nat.le_trans (jW xs lo hi) hz,_,(r.drop (HT.cM xs.length 0 lo)).take (HT.cM xs.length xs.length hi - HT.cM xs.length 0 lo),IsTup.new _ _⟩
def GX (K:W.Frag):R2:=λx y H Q=>∃a b xs ys,x=.ref a/\y=.ref b/\bM K H a xs/\bM K H b ys/\xs≠[]/\xs.length + ys.length<=sizeLine/\
 (ys=[]->Q (.ref a) H)/\(ys≠[]->∀p,H p=none->Q (.ref p) (upd H p (.tup (xs++ys))))
theorem Vals.ng{xs:List V}{us:List Value}(r:Vals xs us):us=[]↔xs=[]:=by
 cases r with
 | nil=>simp
 | cons _ _=>simp
theorem Ar:dS X (binaryOp .Add) (GX X.K):=by
 intro pins s σ H x y v u Q I rx ry h
 obtain⟨a,b,xs,ys,rfl,rfl,ha,hb,hx,hz,q1,q2⟩:=h
 cases rx
 cases ry
 obtain⟨aE,r1,p1,_⟩:=I.tuple ha
 obtain⟨bh,r2,p2,_⟩:=I.tuple hb
 refine HT.Aq p1 p2 (λz=>hx (r1.ng.mp z)) (λz=>⟨.ref a,H,I,rfl,q1 (r2.ng.mp z)⟩) (λz=>?_) (by rw[<-r1.length,<-r2.length];exact hz)
 refine⟨.ref s.heap.objs.size,_,I.laid (t':=s.toks) (o:=.tup (xs++ys)) (λb ob q=>Heap.get?_push_of_some _ q) (Nat.le_refl _) ?_,rfl,q2 (λw=>z (r2.ng.mpr w)) _ (I.ba.fresh (Nat.le_refl _))⟩
 exact⟨by rw[List.length_append];exact hz,_,r1.append r2,IsTup.new _ _⟩
end
end
section
def uw (n:Nat)(i:Int):Option Nat:=if 0<=i then(if i < n then some i.toNat else none) else if -(n:Int)<=i then some (i + n).toNat else none
def iF {α:Type}(xs:List α)(i:Int):Option α:=(uw xs.length i).bind λj=>xs[j]?
theorem sg {n:Nat}{i:Int}{j:Nat}(h:uw n i=some j):seqIndex? i n=some j/\j < n/\-(n:Int)<=i/\i < n:=by
 unfold uw at h
 by_cases h0:0<=i
 ·rw[if_pos h0] at h
  by_cases h1:i < n
  ·rw[if_pos h1] at h
   have e:i.toNat=j:=Option.some.inj h
   exact⟨by rw[seqIndex_of h0 h1,e],by omega,by omega,h1⟩
  ·rw[if_neg h1] at h;cases h
 ·rw[if_neg h0] at h
  by_cases h1:-(n:Int)<=i
  ·rw[if_pos h1] at h
   have e:(i + n).toNat=j:=Option.some.inj h
   exact⟨by rw[seqIndex_neg (by omega) h1,e],by omega,h1,by omega⟩
  ·rw[if_neg h1] at h;cases h
theorem nh {α:Type}{xs:List α}{i:Int}{v:α}(h:iF xs i=some v):∃j,seqIndex? i xs.length=some j/\xs[j]?=some v/\j < xs.length/\-(xs.length:Int)<=i/\i < xs.length:=by
 unfold iF at h
 cases e:uw xs.length i with
 | none=>rw[e] at h;cases h
 | some j=>
  rw[e] at h
  obtain⟨h1,h2,h3,h4⟩:=sg e
  exact⟨j,h1,h,h2,h3,h4⟩
theorem aq {α:Type}{xs:List α}{j:Nat}{v:α}(h:xs[j]?=some v):iF xs (j:Int)=some v:=by
 have hj:j < xs.length:=(List.getElem?_eq_some_iff.mp h).1
 have e:uw xs.length (j:Int)=some j:=by
  unfold uw
  rw[if_pos (by omega),if_pos (by omega)];simp
 unfold iF;rw[e];exact h
theorem iG {α:Type}(xs:List α)(v:α):iF (xs++[v]) (-1)=some v:=by
 have hl:(xs++[v]).length=xs.length + 1:=by simp
 have e:uw (xs++[v]).length (-1)=some xs.length:=by
  unfold uw
  rw[hl,if_neg (by decide),if_pos (by omega)]
  congr 1
  omega
 unfold iF
 rw[e]
 show(xs++[v])[xs.length]?=some v
 simp
def sh (b:Expr):Prop:=∀o i,subscripted b false o i=operate [o,i] (getItem o i)
def GY (X:Cx)(r:R2):Prop:=
 ∀(value slice:Expr) (pins:List (Addr×Obj)) (s:Shared) (σ:St) (H:Hp) (x y:V) (v u:Value) (Q:VK),Inv X pins σ H s->RelV x v->RelV y u->r x y H Q->
  subscripted slice false v u=operate [v,u] (getItem v u)->wpAny (model X.prog X.w) X.A (subscriptTail value slice v u) (EP X pins σ Q) X.xe s
def DP (X:Cx)(id:String)(r:V->List V->Hp->VK->Prop):Prop:=
 ∀(pins:List (Addr×Obj)) (s:Shared) (σ:St) (H:Hp) (x:V) (xs:List V) (v:Value) (us:List Value) (Q:VK),Inv X pins σ H s->RelV x v->Vals xs us->r x xs H Q->
  wpAny (model X.prog X.w) X.A (call (.builtin id) (v::us)) (EP X pins σ Q) X.xe s
section
variable {X:Cx}{a b:Expr}{ta tb:TE}{pos:Pos}
theorem GZ {r:R2}(hr:GY X r)(ha:PE X a ta)(hb:PE X b tb)(hs:sh b):PE X (.Subscript a b pos) (uh r ta tb):=by
 walk_at "xc"
 exact Subscript_ (Dv ha hb I h λv u s2 x y H2 I2 rx ry q=>hr a b pins s2 σ H2 x y v u Q I2 rx ry q (hs _ _))
def KO (K:W.Frag):R2:=λx y H Q=>∃p xs i v,x=.ref p/\y=.int i/\aX K H p xs/\iF xs i=some v/\Q v H
def KP (K:W.Frag):R2:=λx y H Q=>∃p xs i v,x=.ref p/\y=.int i/\bM K H p xs/\iF xs i=some v/\Q v H
def KQ:R2:=λx y H Q=>∃z i c,x=.str z/\y=.int i/\z.length<=sizeLine/\iF z.cps.toList i=some c/\Q (.str ⟨#[c]⟩) H
theorem As:GY X (KO X.K):=by
 intro value slice pins s σ H x y v u Q I rx ry h hs
 obtain⟨p,xs,i,z,rfl,rfl,hq,he,q⟩:=h
 cases rx
 obtain⟨t,rfl⟩:=ry
 obtain⟨aE,r,pl,hz⟩:=I.list hq
 obtain⟨j,h1,h2,h3,h4,h5⟩:=nh he
 obtain⟨w,ew,uy⟩:=r.get h2
 have hl:=r.length
 have hn:=ja
 have fin:EP X pins σ Q w s:=⟨z,H,I,uy,q⟩
 by_cases h0:0<=i
 ·have hj:i.toNat=j:=by
   rw[seqIndex_of h0 h5] at h1
   exact Option.some.inj h1
  exact item_listR pl.isList h0 (by omega) (by rw[hj];simpa using ew) fin hs
 ·have hj:(i + (aE.toArray.size:Int)).toNat=j:=by
   rw[seqIndex_neg (by omega) h4] at h1
   rw[List.size_toArray,<-hl]
   exact Option.some.inj h1
  exact subscriptTail_builtinR (x:=w) pl.isList.typeIs slot_list_getitem.lookup
   (wpAny_getItem_list_neg (Q:=λr s'=>r=w/\EP X pins σ Q r s') pl.isList (by omega) (by rw[List.size_toArray] <;> omega) (by omega) (by rw[hj];simpa using ew) ⟨rfl,fin⟩) hs
theorem DQ:GY X (KP X.K):=by
 intro value slice pins s σ H x y v u Q I rx ry h hs
 obtain⟨p,xs,i,z,rfl,rfl,hq,he,q⟩:=h
 cases rx
 obtain⟨t,rfl⟩:=ry
 obtain⟨aE,r,pl,hz⟩:=I.tuple hq
 obtain⟨j,h1,h2,h3,h4,h5⟩:=nh he
 obtain⟨w,ew,uy⟩:=r.get h2
 have hl:=r.length
 have hn:=ja
 have fin:EP X pins σ Q w s:=⟨z,H,I,uy,q⟩
 exact subscriptTail_builtinR (x:=w) pl.typeIs slot_tuple_getitem.lookup
  (getItem_tuple (j:=j) (Q:=λr s'=>r=w/\EP X pins σ Q r s') pl (by omega) (by omega) (by rw[List.size_toArray,<-hl];exact h1) (by simpa using ew) ⟨rfl,fin⟩) hs
theorem DR:GY X KQ:=by
 intro value slice pins s σ H x y v u Q I rx ry h hs
 obtain⟨z,i,c,rfl,rfl,hz,he,q⟩:=h
 obtain⟨t,rfl⟩:=rx
 obtain⟨t',rfl⟩:=ry
 obtain⟨j,h1,h2,h3,h4,h5⟩:=nh he
 have hl:z.cps.toList.length=z.length:=by simp[Str.length]
 rw[hl] at h1 h4 h5
 have hn:=ja
 exact tail_any (typeIs_str s z t) slot_str_getitem.lookup (getItem_str (c:=c) (by
  have e1:decide (i < -(2 ^ 63:Int))=false:=decide_eq_false (by omega)
  have e2:decide (i >= 2 ^ 63)=false:=decide_eq_false (by omega)
  rw[e1,e2,Bool.or_false]) (by rw[h1];simpa using h2) ⟨.str ⟨#[c]⟩,H,I.tok _,⟨_,rfl⟩,q⟩) hs
theorem qJ (aE:List Value)(n j:Nat)(u:Value):Obj.mapSeq (·.setIfInBounds j u) {cls:=.type "list",data:=.seq aE.toArray n}={cls:=.type "list",data:=.seq (aE.set j u).toArray n}:=by
 simp[Obj.mapSeq]
theorem Inv.lst{pins:List (Addr×Obj)}{σ:St}{H:Hp}{s:Shared}{p:Addr}{xs:List V}(I:Inv X pins σ H s)(h:H p=some (.lst xs)):
  ∃(aE:List Value) (n:Nat),Vals xs aE/\s.heap.get? p=some {cls:=.type "list",data:=.seq aE.toArray n}/\xs.length<=sizeLine:=by
 obtain⟨z,aE,n,r,e⟩:=I.ba p _ h
 exact⟨aE,n,r,e,z⟩
theorem Inv.DS{pins:List (Addr×Obj)}{σ:St}{H:Hp}{s:Shared}{p:Addr}{xs ys:List V}{aE f6:List Value}{n n':Nat}{f:Obj->Obj}(I:Inv X pins σ H s)(h:H p=some (.lst xs))
  (ho:s.heap.get? p=some {cls:=.type "list",data:=.seq aE.toArray n}) (hf:f {cls:=.type "list",data:=.seq aE.toArray n}={cls:=.type "list",data:=.seq f6.toArray n'}) (r:Vals ys f6) (hz:ys.length<=sizeLine) (t:Nat):
  Inv X pins σ (upd H p (.lst ys)) {s with heap:=s.heap.update p f,toks:=t}:=by
 have e:(s.heap.update p f).get? p=some {cls:=.type "list",data:=.seq f6.toArray n'}:=by
  rw[Heap.get?_update_self f ho (by rw[hf] <;> rfl),hf]
 refine I.write (x:=p) (e:=p) (by rw[h];trivial) (.inl rfl) (λb u hb q=>(Heap.get?_update_other _ _ (Ne.symm hb)).trans q) ⟨_,e⟩ ?_
 exact⟨hz,f6,n',r,e⟩
def Ha:V->V->V->Hp->(Hp->Prop)->Prop:=λo i v H Q=>∃p xs k j,o=.ref p/\i=.int k/\H p=some (.lst xs)/\uw xs.length k=some j/\Q (upd H p (.lst (xs.set j v)))
theorem set_list:Dn X Ha:=by
 intro pins s σ H o i v ov iv u Q I ro ri rv h
 obtain⟨p,xs,k,j,rfl,rfl,hp,hj,q⟩:=h
 cases ro
 obtain⟨t,rfl⟩:=ri
 obtain⟨aE,n,r,ho,hz⟩:=I.lst hp
 obtain⟨h1,h2,h3,h4⟩:=sg hj
 have hl:=r.length
 have hn:=ja
 have I':Inv X pins σ (upd H p (.lst (xs.set j v))) {s with heap:=s.heap.update p (Obj.mapSeq (·.setIfInBounds j u))}:=
  I.DS hp ho (qJ aE n j u) (r.set rv j) (by rw[List.length_set];exact hz) s.toks
 by_cases h0:0<=k
 ·have hk:k.toNat=j:=by
   rw[seqIndex_of h0 h4] at h1
   exact Option.some.inj h1
  exact W.ki_setAt ho h0 (by omega) (by rw[List.size_toArray,<-hl];exact h4) (by rw[hk];exact⟨_,I',q⟩)
 ·have hk:(k + (aE.toArray.size:Int)).toNat=j:=by
   rw[seqIndex_neg (by omega) h3] at h1
   rw[List.size_toArray,<-hl]
   exact Option.some.inj h1
  exact W.ki_setBack ho (by omega) (by rw[List.size_toArray,<-hl];exact h3) (by omega) (by rw[hk];exact⟨_,I',q⟩)
theorem ni (lo hi:Option Int)(n:Nat):(sliceBounds lo hi none n).1=((HT.cM n 0 lo:Nat):Int)/\(sliceBounds lo hi none n).2.1=((HT.cM n n hi:Nat):Int)/\(sliceBounds lo hi none n).2.2=1:=by
 refine⟨?_,?_,rfl⟩
 ·cases lo with
  | none=>simp[sliceBounds,HT.cM]
  | some i=>
   simp only[sliceBounds,HT.cM,Option.getD_none,show(1:Int) > 0 by decide,if_true]
   by_cases h:i < 0
   ·simp only[h,if_true] <;> omega
   ·simp only[h,if_false] <;> omega
 ·cases hi with
  | none=>simp[sliceBounds,HT.cM]
  | some i=>
   simp only[sliceBounds,HT.cM,Option.getD_none,show(1:Int) > 0 by decide,if_true]
   by_cases h:i < 0
   ·simp only[h,if_true] <;> omega
   ·simp only[h,if_false] <;> omega
theorem lQ (aE:List Value)(lo hi:Option Int):slicePick aE.toArray lo hi none=((aE.drop (HT.cM aE.length 0 lo)).take (HT.cM aE.length aE.length hi - HT.cM aE.length 0 lo)).toArray:=by
 obtain⟨h1,h2,h3⟩:=ni lo hi aE.toArray.size
 unfold slicePick
 rw[h1,h2,h3]
 simp only[sliceRange_one,pick_run,List.size_toArray] <;> rfl
def KR (K:W.Frag):V->Option Int->Option Int->Hp->VK->Prop:=λx lo hi H Q=>∃a xs,x=.ref a/\aX K H a xs/\∀p,H p=none->Q (.ref p) (upd H p (.lst (dM xs lo hi)))
theorem Au:Jz X (KR X.K):=by
 intro pins s σ H x v vl vu lo hi sl Q I rx hs pl pu h
 obtain⟨a,xs,rfl,hx,q⟩:=h
 cases rx
 obtain⟨aE,r,ht,hz⟩:=I.list hx
 have hlen:=r.length
 refine⟨"list",_,slot_list_getitem.lookup,ht.isList.typeIs,?_⟩
 refine wpAny_getItem_list_slice ht.isList hs pl pu .none (by simp) ?_ (by rw[List.size_toArray] <;> omega)
 rw[lQ,<-hlen]
 refine⟨.ref s.heap.objs.size,_,I.laid (t':=s.toks) (o:=.lst (dM xs lo hi)) (λb ob q=>Heap.get?_push_of_some _ q) (Nat.le_refl _) ?_,rfl,q _ (I.ba.fresh (Nat.le_refl _))⟩
 exact⟨Nat.le_trans (jW xs lo hi) hz,_,0,(r.drop (HT.cM xs.length 0 lo)).take (HT.cM xs.length xs.length hi - HT.cM xs.length 0 lo),Heap.get?_push_size _ rfl⟩
def dk:V->Bool
 | .bb=>true
 | .bl _=>true
 | .int _=>true
 | .str _=>true
 | _=>false
def qK:V->V->Bool
 | .bb,.bb=>true
 | .bl a,.bl b=>a == b
 | .bl a,.int b=>(if a then 1 else 0) == b
 | .int a,.bl b=>a == (if b then 1 else 0)
 | .int a,.int b=>a == b
 | .str a,.str b=>a == b
 | _,_=>false
theorem qL {A:Around}{s:Shared}{y x:V}{u v:Value}(ry:RelV y u)(rx:RelV x v)(fy:dk y=true)(fx:dk x=true):SeqAt.EqAt A s u v (qK y x):=by
 cases y with
 | bb=>
  cases ry
  cases x with
  | bb=>cases rx;exact SeqAt.EqAt.same _
  | bl b=>cases rx;exact SeqAt.EqAt.none_bool b
  | int b=>obtain⟨t,rfl⟩:=rx;exact SeqAt.EqAt.none_int b t
  | str b=>obtain⟨t,rfl⟩:=rx;exact SeqAt.EqAt.none_str b t
  | _=>exact absurd (show false=true from fx) Bool.false_ne_true
 | bl a=>
  cases ry
  cases x with
  | bb=>cases rx;exact SeqAt.EqAt.bool_none a
  | bl b=>cases rx;exact SeqAt.EqAt.bool_bool a b
  | int b=>obtain⟨t,rfl⟩:=rx;exact SeqAt.EqAt.bool_int a b t
  | str b=>obtain⟨t,rfl⟩:=rx;exact SeqAt.EqAt.bool_str a b t
  | _=>exact absurd (show false=true from fx) Bool.false_ne_true
 | int a=>
  obtain⟨t',rfl⟩:=ry
  cases x with
  | bb=>cases rx;exact SeqAt.EqAt.int_none a t'
  | bl b=>cases rx;exact SeqAt.EqAt.int_bool a t' b
  | int b=>obtain⟨t,rfl⟩:=rx;exact SeqAt.EqAt.int_int a t' b t
  | str b=>obtain⟨t,rfl⟩:=rx;exact SeqAt.EqAt.int_str a t' b t
  | _=>exact absurd (show false=true from fx) Bool.false_ne_true
 | str a=>
  obtain⟨t',rfl⟩:=ry
  cases x with
  | bb=>cases rx;exact SeqAt.EqAt.str_none a t'
  | bl b=>cases rx;exact SeqAt.EqAt.str_bool a t' b
  | int b=>obtain⟨t,rfl⟩:=rx;exact SeqAt.EqAt.str_int a t' b t
  | str b=>obtain⟨t,rfl⟩:=rx;exact SeqAt.EqAt.str_str a t' b t
  | _=>exact absurd (show false=true from fx) Bool.false_ne_true
 | _=>exact absurd (show false=true from fy) Bool.false_ne_true
def Av (x:V)(u:Value):Bool:=match u with
 | .none=>qK .bb x
 | .bool b=>qK (.bl b) x
 | .int i _=>qK (.int i) x
 | .str z _=>qK (.str z) x
 | _=>false
theorem wX {x y:V}{u:Value}(r:RelV y u)(f:dk y=true):Av x u=qK y x:=by
 cases y with
 | bb=>cases r;rfl
 | bl b=>cases r;rfl
 | int i=>obtain⟨t,rfl⟩:=r;rfl
 | str z=>obtain⟨t,rfl⟩:=r;rfl
 | _=>exact absurd (show false=true from f) Bool.false_ne_true
theorem nj {x:V}:∀{xs:List V} {us:List Value},Vals xs us->xs.all dk=true->us.any (Av x)=xs.any λy=>qK y x
 | _,_,.nil,_=>rfl
 | y::xs,u::us,.cons r t,f=>by
  rw[List.all_cons,Bool.and_eq_true] at f
  rw[List.any_cons,List.any_cons,wX r f.1,nj t f.2]
theorem kI {A:Around}{s:Shared}{x:V}{v:Value}(rx:RelV x v)(fx:dk x=true):∀{xs:List V} {us:List Value},Vals xs us->xs.all dk=true->∀u ∈ us,SeqAt.EqAt A s u v (Av x u)
 | _,_,.nil,_=>λu hu=>by cases hu
 | y::xs,u::us,.cons r t,f=>λu' hu=>by
  rw[List.all_cons,Bool.and_eq_true] at f
  rcases List.mem_cons.mp hu with rfl | hu
  ·rw[wX r f.1];exact qL r rx f.1 fx
  ·exact kI rx fx t f.2 u' hu
def qh (x:V)(xs:List V):Bool:=xs.any λy=>qK y x
def Qa (K:W.Frag)(neg:Bool):R2:=λx y H Q=>∃p xs,y=.ref p/\(aX K H p xs\/bM K H p xs)/\dk x=true/\xs.all dk=true/\Q (.bl (if neg then !qh x xs else qh x xs)) H
theorem uz:dS X (compareOp .In) (Qa X.K false):=by
 intro pins s σ H x y v u Q I rx ry h
 obtain⟨p,xs,rfl,hq,fx,fs,q⟩:=h
 cases ry
 rcases hq with hq | hq
 ·obtain⟨aE,r,pl,hz⟩:=I.list hq
  refine SeqAt.in_listAt (Av x) pl.isList (λw hw=>kI rx fx r fs w (by simpa using hw)) ⟨.bl _,H,I,rfl,?_⟩
  rw[show aE.toArray.any (Av x)=aE.any (Av x) by simp,nj r fs]
  exact q
 ·obtain⟨aE,r,pl,hz⟩:=I.tuple hq
  refine SeqAt.in_tupleAt (Av x) pl (λw hw=>kI rx fx r fs w (by simpa using hw)) ⟨.bl _,H,I,rfl,?_⟩
  rw[show aE.toArray.any (Av x)=aE.any (Av x) by simp,nj r fs]
  exact q
theorem nk:cz X (.type "list") (λxs H Q=>∃p ys,xs=[.ref p]/\(aX X.K H p ys\/bM X.K H p ys)/\∀l,H l=none->Q (.ref l) (upd H l (.lst ys))):=by
 intro pins s σ H xs us Q I r h
 obtain⟨p,ys,rfl,hq,q⟩:=h
 obtain⟨u,rfl,rx⟩:=vals1 r
 cases rx
 have fin:∀(aE:List Value),Vals ys aE->ys.length<=sizeLine->∀(h':Heap) (c':Nat),(∀b o',s.heap.get? b=some o'->h'.get? b=some o')->
   h'.get? s.heap.objs.size=some {cls:=.type "list",dict:=none,data:=.seq aE.toArray c',slots:=#[]}->EP X pins σ Q (.ref s.heap.objs.size) {s with heap:=h'}:=λaE r' hz h' c' kp e=>
  ⟨.ref s.heap.objs.size,_,I.laid (t':=s.toks) kp (Nat.le_refl _) (show bH X.prog X.w _ h' _ (.lst ys) from⟨hz,aE,c',r',e⟩),rfl,q _ (I.ba.fresh (Nat.le_refl _))⟩
 rcases hq with hq | hq
 ·obtain⟨aE,r',pl,hz⟩:=I.list hq
  have hlen:=r'.length
  obtain⟨o,ho,hc,n,hd⟩:=pl.isList
  exact call_list_seq p (.inl rfl) ho hc hd (λh' c' kp e=>fin aE r' hz h' c' kp e) (by simp only[List.size_toArray] <;> omega)
 ·obtain⟨aE,r',pl,hz⟩:=I.tuple hq
  have hlen:=r'.length
  obtain⟨o,ho,hc,n,hd⟩:=pl
  exact call_list_seq p (.inr rfl) ho hc hd (λh' c' kp e=>fin aE r' hz h' c' kp e) (by simp only[List.size_toArray] <;> omega)
theorem gN:cz X (.type "tuple") (λxs H Q=>∃p ys,xs=[.ref p]/\((aX X.K H p ys/\∀l,H l=none->Q (.ref l) (upd H l (.tup ys)))\/(bM X.K H p ys/\Q (.ref p) H))):=by
 intro pins s σ H xs us Q I r h
 obtain⟨p,ys,rfl,h⟩:=h
 obtain⟨u,rfl,rx⟩:=vals1 r
 cases rx
 rcases h with⟨hq,q⟩ | ⟨hq,q⟩
 ·obtain⟨aE,r',pl,hz⟩:=I.list hq
  have hlen:=r'.length
  refine call_tuple_list pl.isList (λh' kp=>?_) (by simp only[List.size_toArray] <;> omega)
  have I1:Inv X pins σ H {s with heap:=h'}:=I.kept (t':=s.toks) kp
  have I2:Inv X pins σ (upd H h'.objs.size (.tup ys)) {s with heap:=h'.push {cls:=.type "tuple",data:=.seq aE.toArray}}:=
   I1.laid (t':=s.toks) (λb o e=>Heap.get?_push_of_some _ e) (Nat.le_refl _) (show bH X.prog X.w _ _ _ (.tup ys) from⟨hz,aE,r',IsTup.new _ _⟩)
  exact⟨.ref h'.objs.size,_,I2,rfl,q _ (I1.ba.fresh (Nat.le_refl _))⟩
 ·obtain⟨aE,r',pl,hz⟩:=I.tuple hq
  exact call_tuple_same pl ⟨.ref p,H,I,rfl,q⟩
def KS (K:W.Frag)(T:String)(x:V)(H:Hp):Prop:=match x with
 | .str _=>T="str"
 | .int _=>T="int"
 | .ref p=>(T="list"/\∃xs,aX K H p xs)\/(T="tuple"/\∃o,K.lookup p=some o/\o.cls=.type "tuple"/\o.dict=none)\/
   (T="dict"/\((∃bD,H p=some (.dK bD))\/∃bD,H p=some (.dT bD)))\/(T="set"/\∃S n,H p=some (.set S n))
 | _=>False
theorem qM {pins:List (Addr×Obj)}{σ:St}{H:Hp}{s:Shared}{T:String}{x:V}{v:Value}(I:Inv X pins σ H s)(r:RelV x v)(ty:KS X.K T x H):
  s.TypeIs v T/\∀a,v=.ref a->∃ob,s.heap.get? a=some ob/\ob.dict=none:=by
 cases x with
 | str z=>
  obtain⟨t,rfl⟩:=r
  cases(show T="str" from ty)
  exact⟨typeIs_str s z t,λ_ e=>nomatch e⟩
 | int i=>
  obtain⟨t,rfl⟩:=r
  cases(show T="int" from ty)
  exact⟨typeIs_int s i t,λ_ e=>nomatch e⟩
 | ref p=>
  cases r
  rcases ty with⟨rfl,xs,hq⟩ | ⟨rfl,o,hk,hc,hd⟩ | ⟨rfl,hk⟩ | ⟨rfl,S,n,hk⟩
  ·obtain⟨aE,_,pl,_⟩:=I.list hq
   refine⟨pl.isList.typeIs,λa e=>?_⟩
   cases e
   obtain⟨o,n,e,c,hd,_⟩:=pl
   exact⟨o,e,hd⟩
  ·refine⟨⟨o,I.dP p o hk,hc⟩,λa e=>?_⟩
   cases e
   exact⟨o,I.dP _ o hk,hd⟩
  ·have z:∃o,s.heap.get? p=some o/\o.ExactDict:=by
    rcases hk with⟨bD,hk⟩ | ⟨bD,hk⟩
    ·obtain⟨_,_,_,_,o,_,_,e,ex,_⟩:=I.ba p _ hk
     exact⟨o,e,ex⟩
    ·obtain⟨_,_,_,_,o,_,_,e,ex,_⟩:=I.ba p _ hk
     exact⟨o,e,ex⟩
   obtain⟨o,e,ex⟩:=z
   refine⟨⟨o,e,ex.1⟩,λa e2=>?_⟩
   cases e2
   exact⟨o,e,ex.2.1⟩
  ·obtain⟨o,_,_,_,e,ex,_⟩:=I.ba p _ hk
   refine⟨⟨o,e,ex.1⟩,λa e2=>?_⟩
   cases e2
   exact⟨o,e,ex.2.1⟩
 | _=>exact False.elim ty
def DT (K:W.Frag)(T:String)(r:V->List V->Hp->VK->Prop)(to:TE):TE:=λσ H Q=>to σ H λx H1=>KS K T x H1/\r x [] H1 Q
def Hb (K:W.Frag)(T:String)(r:V->List V->Hp->VK->Prop)(to:TE)(t:TA):TE:=λσ H Q=>to σ H λx H1=>KS K T x H1/\t σ H1 λxs H2=>r x xs H2 Q
variable {o e:Expr}{es:List Expr}{to:TE}{t:TA}{name:Str}{apos cF:Pos}{T id:String}{r:V->List V->Hp->VK->Prop}
theorem wY (pa:PlainAttrs T)(slot:Slot T name id)(Aw:typeOf (.builtin id)=pure (.type "method_descriptor"))(hm:DP X id r)(ho:PE X o to)
  (iH:attributeBase o name X.env (eval o X.env)=eval o X.env:=by rfl) (iI:(apos.endLine == cF.line)=true:=by rfl):PE X (.Call (.Attribute o name apos) [] [] cF) (DT X.K T r to):=by
 walk_at "xc"
 refine wpAny_Call_method0_late iH iI (bU (ho pins s σ H _ I h) λv s1 ⟨x,H1,I1,r1,ty,q1⟩=>?_)
 obtain⟨h1,h2⟩:=qM I1 r1 ty
 exact⟨T,id,pa,slot,Aw,h1,h2,Calls.callWith_builtin rfl (PySem.evalArgs_none (hm pins s1 σ H1 x [] v [] Q I1 r1 .nil q1))⟩
theorem gO (pa:PlainAttrs T)(slot:Slot T name id)(Aw:typeOf (.builtin id)=pure (.type "method_descriptor"))(hm:DP X id r)(ho:PE X o to)(ha:PA X (e::es) t)
  (iH:attributeBase o name X.env (eval o X.env)=eval o X.env:=by rfl)
  (wZ:((backTo cF (starEach (e::es) X.env)).all (λx=> !x.1) && (backToKw cF (keywordEach [] X.env)).all (λx=>x.1.isSome)
   && decide ((e::es).length + ([]:List Keyword).length + (if ([]:List Keyword).isEmpty then 0 else 1) < 30))=true:=by rfl)
  (iI:(apos.endLine == cF.line)=true:=by rfl) (hs:starEach (e::es) X.env=(false,eval e X.env)::starEach es X.env:=by rfl) (qN:(backTo cF (starEach es X.env)).any (·.1)=false:=by rfl):
  PE X (.Call (.Attribute o name apos) (e::es) [] cF) (Hb X.K T r to t):=by
 walk_at "xc"
 refine wpAny_Call_method_late iH wZ iI rfl (bU (ho pins s σ H _ I h) λv s1 ⟨x,H1,I1,r1,ty,q1⟩=>?_)
 obtain⟨h1,h2⟩:=qM I1 r1 ty
 refine⟨T,id,pa,slot,Aw,h1,h2,?_⟩
 have hA:=ha cF pins s1 σ H1 _ I1 q1
 rw[hs] at hA ⊢
 refine Calls.callWith_builtin (by show(false || (backTo cF (starEach es X.env)).any (·.1))=false;rw[qN] <;> rfl) (Calls.evalArgs_plain ?_)
 exact bU hA λus s2 ⟨vs,H2,I2,r2,q2⟩=>hm pins s2 σ H2 x vs v us Q I2 r1 r2 q2
end
end
section
def JB (X:Cx)(id:String)(r:V->List V->Hp->VK->Prop):Prop:=
 ∀(pins:List (Addr×Obj)) (s:Shared) (σ:St) (H:Hp) (x:V) (xs:List V) (v:Value) (us:List Value) (Q:VK),Inv X pins σ H s->RelV x v->Vals xs us->r x xs H Q->
  wpAny (model X.prog X.w) X.A (call (.builtin id) (v::us)) (EP X pins σ Q) X.xe s
theorem Vals.one:∀{x:V} {us:List Value},Vals [x] us->∃u,us=[u]/\RelV x u
 | _,_,.cons r .nil=>⟨_,rfl,r⟩
theorem Vals.two:∀{x y:V} {us:List Value},Vals [x,y] us->∃u v,us=[u,v]/\RelV x u/\RelV y v
 | _,_,_,.cons r (.cons q .nil)=>⟨_,_,rfl,r,q⟩
theorem Vals.zero:∀{us:List Value},Vals [] us->us=[]
 | _,.nil=>rfl
theorem Vals.dropLast{xs:List V}{us:List Value}(h:Vals xs us):Vals xs.dropLast us.dropLast:=by
 induction h with
 | nil=>exact .nil
 | cons r t ih=>
  cases t with
  | nil=>exact .nil
  | cons q t'=>exact .cons r ih
theorem Vals.eraseIdx:∀{xs:List V} {us:List Value} (i:Nat),Vals xs us->Vals (xs.eraseIdx i) (us.eraseIdx i)
 | _,_,_,.nil=>.nil
 | _,_,0,.cons _ t=>t
 | _,_,i + 1,.cons r t=>.cons r (Vals.eraseIdx i t)
theorem Vals.reverse{xs:List V}{us:List Value}(h:Vals xs us):Vals xs.reverse us.reverse:=by
 induction h with
 | nil=>exact .nil
 | cons r t ih=>rw[List.reverse_cons,List.reverse_cons];exact Vals.append ih (.cons r .nil)
theorem qO {α:Type}(l:List α):l.eraseIdx (l.length - 1)=l.dropLast:=by
 induction l with
 | nil=>rfl
 | cons a r ih=>
  cases r with
  | nil=>rfl
  | cons b r=>
   have e:(a::b::r).length - 1=((b::r).length - 1) + 1:=by
    have h1:(a::b::r).length=r.length + 2:=rfl
    have h2:(b::r).length=r.length + 1:=rfl
    omega
   rw[e,List.eraseIdx_cons_succ,ih]
   all_goals rfl
section
variable {X:Cx}{pins:List (Addr×Obj)}{σ:St}{H:Hp}{s:Shared}{l b:Addr}{xs ys zs:List V}
theorem Inv.w4{aE f6:List Value}{n:Nat}{f:Array Value->Array Value}{t':Nat}(I:Inv X pins σ H s)(hH:H l=some (.lst xs))
  (e:s.heap.get? l=some {cls:=.type "list",data:=.seq aE.toArray n}) (hf:f aE.toArray=f6.toArray) (hv:Vals ys f6) (hz:ys.length<=sizeLine):
  Inv X pins σ (upd H l (.lst ys)) {s with heap:=s.heap.update l (Obj.mapSeq f),toks:=t'}:=by
 have q:=PySem.IsL.update e f
 rw[hf] at q
 refine I.write (x:=l) (e:=l) (by rw[hH];exact trivial) (.inl rfl) (λb' u hb hu=>(Heap.get?_update_other s.heap (Obj.mapSeq f) (Ne.symm hb)).trans hu) ⟨_,q⟩ ?_
 exact⟨hz,f6,_,hv,q⟩
theorem Inv.KU{aE:List Value}{t':Nat}(I:Inv X pins σ H s)(hv:Vals ys aE)(hz:ys.length<=sizeLine):
  Inv X pins σ (upd H s.heap.objs.size (.lst ys)) {s with heap:=s.heap.push {cls:=.type "list",data:=.seq aE.toArray},toks:=t'}:=
 I.laid (λ_ _ q=>Heap.get?_push_of_some _ q) (Nat.le_refl _) ⟨hz,aE,0,hv,Heap.get?_push_size _ rfl⟩
theorem Inv.fresh(I:Inv X pins σ H s):H s.heap.objs.size=none:=I.ba.fresh (Nat.le_refl _)
theorem Inv.oH(I:Inv X pins σ H s)(hH:H l=some (.lst xs)):xs.length<=sizeLine/\∃(aE:List Value) (n:Nat),Vals xs aE/\xs.length=aE.length/\s.heap.get? l=some {cls:=.type "list",data:=.seq aE.toArray n}:=by
 obtain⟨z,aE,n,r,e⟩:=I.ba l _ hH
 exact⟨z,aE,n,r,r.length,e⟩
theorem w5 {n:Nat}(h:n<=sizeLine):Builtin.List.listTooLong n=false:=by
 unfold Builtin.List.listTooLong
 exact decide_eq_false (by omega)
end
section
variable {X:Cx}
def Ax:V->List V->Hp->VK->Prop:=λx vs H Q=>∃l xs y,x=.ref l/\vs=[y]/\H l=some (.lst xs)/\xs.length < sizeLine/\Q .bb (upd H l (.lst (xs++[y])))
theorem mB:JB X "list.append" Ax:=by
 intro pins s σ H x vs v us Q I rx rv h
 obtain⟨l,xs,y,rfl,rfl,hH,hz,q⟩:=h
 cases rx
 obtain⟨u,rfl,ru⟩:=rv.one
 obtain⟨z,aE,n,r,hl,e⟩:=I.oH hH
 refine call_meets F.slot_list_append ⟨_,e,rfl⟩ F.entry_list_append (F.args_list_append_2 _ _) (PySem.list_append l aE.toArray n u (by rw[List.size_toArray];omega)) ⟨e,?_⟩
 refine⟨.bb,_,I.w4 (f6:=aE++[u]) hH e (by simp) (r.append (.cons ru .nil)) ?_,rfl,q⟩
 rw[List.length_append,List.length_singleton]
 omega
def Ay:V->List V->Hp->VK->Prop:=λx vs H Q=>∃l b xs zs,x=.ref l/\vs=[.ref b]/\H l=some (.lst xs)/\H b=some (.lst zs)/\xs.length + zs.length<=sizeLine/\Q .bb (upd H l (.lst (xs++zs)))
theorem FK:JB X "list.extend" Ay:=by
 intro pins s σ H x vs v us Q I rx rv h
 obtain⟨l,b,xs,zs,rfl,rfl,hH,hB,hz,q⟩:=h
 cases rx
 obtain⟨u,rfl,ru⟩:=rv.one
 cases ru
 obtain⟨z,aE,n,r,hl,e⟩:=I.oH hH
 obtain⟨z2,bh,n2,r2,JC,e2⟩:=I.oH hB
 have qz:aE.toArray.size + bh.toArray.size<=sizeLine:=by rw[List.size_toArray,List.size_toArray];omega
 have Hd:¬(!aE.toArray.isEmpty && Builtin.List.listTooLong (aE.toArray.size + bh.toArray.size))=true:=by
  rw[w5 qz,Bool.and_false]
  exact Bool.false_ne_true
 refine call_meets F.slot_list_extend ⟨_,e,rfl⟩ F.entry_list_extend (F.args_list_extend_2 _ _)
  (AutoSeq1.list_extend_list_list_0 l aE.toArray n b bh.toArray n2 Hd (by rw[List.size_toArray];omega) (by omega)) ⟨e,e2,?_⟩
 refine⟨.bb,_,I.w4 (f6:=aE++bh) hH e (by simp) (r.append r2) ?_,rfl,q⟩
 rw[List.length_append]
 omega
def KW:V->List V->Hp->VK->Prop:=λx vs H Q=>∃l xs y,x=.ref l/\vs=[]/\H l=some (.lst xs)/\xs[xs.length - 1]?=some y/\Q y (upd H l (.lst xs.dropLast))
theorem DU:JB X "list.pop" KW:=by
 intro pins s σ H x vs v us Q I rx rv h
 obtain⟨l,xs,y,rfl,rfl,hH,hy,q⟩:=h
 cases rx
 have BL:=rv.zero
 subst BL
 obtain⟨z,aE,n,r,hl,e⟩:=I.oH hH
 obtain⟨u,hu,ru⟩:=r.get hy
 have KY:aE.toArray[aE.toArray.size - 1]?=some u:=by
  show aE.toArray[aE.length - 1]?=some u
  rw[<-Array.getElem?_toList,<-hl]
  exact hu
 refine call_meets F.slot_list_pop ⟨_,e,rfl⟩ F.entry_list_pop (F.args_list_pop_1 _) (MeetsSeq.list_pop_last l aE.toArray n u KY (by rw[List.size_toArray];omega)) ⟨e,?_⟩
 refine⟨y,_,I.w4 (f6:=aE.dropLast) hH e ?_ r.dropLast ?_,ru,q⟩
 ·show aE.toArray.eraseIdxIfInBounds (aE.toArray.size - 1)=aE.dropLast.toArray
  rw[List.size_toArray,List.eraseIdxIfInBounds_toArray,qO]
 ·rw[List.length_dropLast]
  omega
def w6:V->List V->Hp->VK->Prop:=λx vs H Q=>∃l xs,x=.ref l/\vs=[]/\H l=some (.lst xs)/\Q .bb (upd H l (.lst xs.reverse))
theorem qP:JB X "list.reverse" w6:=by
 intro pins s σ H x vs v us Q I rx rv h
 obtain⟨l,xs,rfl,rfl,hH,q⟩:=h
 cases rx
 have BL:=rv.zero
 subst BL
 obtain⟨z,aE,n,r,hl,e⟩:=I.oH hH
 refine call_meets F.slot_list_reverse ⟨_,e,rfl⟩ F.entry_list_reverse (F.args_list_reverse_1 _) (AutoSeq1.list_reverse_list_0 l aE.toArray n (by rw[List.size_toArray];omega)) ⟨e,?_⟩
 refine⟨.bb,_,I.w4 (f6:=aE.reverse) hH e (by simp) r.reverse ?_,rfl,q⟩
 rw[List.length_reverse]
 omega
def KZ:R2:=λx y H Q=>∃l b xs zs,x=.ref l/\y=.ref b/\H l=some (.lst xs)/\H b=some (.lst zs)/\xs.length + zs.length<=sizeLine/\∀p,H p=none->Q (.ref p) (upd H p (.lst (xs++zs)))
theorem DW:dS X (binaryOp .Add) KZ:=by
 intro pins s σ H x y v u Q I rx ry h
 obtain⟨l,b,xs,zs,rfl,rfl,hH,hB,hz,q⟩:=h
 cases rx
 cases ry
 obtain⟨z,aE,n,r,hl,e⟩:=I.oH hH
 obtain⟨z2,bh,n2,r2,JC,e2⟩:=I.oH hB
 refine PySem.P.add_list e e2 ?_ (by rw[List.size_toArray,List.size_toArray];omega)
 have ea:aE.toArray++bh.toArray=(aE++bh).toArray:=by simp
 rw[ea]
 exact⟨.ref _,_,I.KU (t':=s.toks) (r.append r2) (by rw[List.length_append];omega),rfl,q _ I.fresh⟩
end
section
variable {prog:Program}{w:World}{A:Around}{E:Value->Shared->Prop}{s:Shared}
set_option maxRecDepth 100000 in
end
section
variable {X:Cx}
end
end
section
section
variable {κ:Type} [DecidableEq κ]
def nq (bD:List (κ×V))(k:κ):Option V:=(bD.find? λkv=>decide (kv.1=k)).map (·.2)
def putK (bD:List (κ×V))(k:κ)(v:V):List (κ×V):=
 if (bD.any λkv=>decide (kv.1=k))=true then bD.map (λkv=>if kv.1=k then(kv.1,v) else kv) else bD++[(k,v)]
def BM (bD:List (κ×V))(k:κ):List (κ×V):=bD.filter λkv=>decide (kv.1≠k)
theorem oI {p:κ×V}{r:List (κ×V)}{k:κ}(e:p.1=k):nq (p::r) k=some p.2:=by simp[nq,List.find?_cons,e]
theorem oJ {p:κ×V}{r:List (κ×V)}{k:κ}(e:¬p.1=k):nq (p::r) k=nq r k:=by simp[nq,List.find?_cons,e]
theorem KV.val{bD:List (κ×V)}{vs:List (κ×Value)}(r:KV bD vs)(k:κ):gS (nq bD k) (valueAt vs k):=by
 unfold KV at r
 induction r with
 | nil=>exact True.intro
 | @cons p q ps qs h t ih=>
  obtain⟨h1,h2⟩:=h
  by_cases e:p.1=k
  ·have e':q.1=k:=h1.symm.trans e
   have b:valueAt (q::qs) k=some q.2:=by simp[valueAt,List.find?_cons,e']
   rw[oI e,b];exact h2
  ·have e':¬q.1=k:=λz=>e (h1.trans z)
   have b:valueAt (q::qs) k=valueAt qs k:=by simp[valueAt,List.find?_cons,e']
   rw[oJ e,b];exact ih
theorem KV.any{bD:List (κ×V)}{vs:List (κ×Value)}(r:KV bD vs)(k:κ):(bD.any λkv=>decide (kv.1=k))=vs.any λkv=>decide (kv.1=k):=by
 unfold KV at r
 induction r with
 | nil=>rfl
 | cons h t ih=>rw[List.any_cons,List.any_cons,ih,h.1]
theorem KV.drop{bD:List (κ×V)}{vs:List (κ×Value)}(r:KV bD vs)(k:κ):KV (BM bD k) (without vs k):=by
 unfold KV at r ⊢
 unfold BM without
 induction r with
 | nil=>exact .nil
 | @cons p q ps qs h t ih=>
  obtain⟨h1,h2⟩:=h
  rw[List.filter_cons,List.filter_cons]
  by_cases e:p.1=k
  ·have a:¬decide (p.1≠k)=true:=by simp[e]
   have b:¬decide (q.1≠k)=true:=by simp[h1.symm.trans e]
   rw[if_neg a,if_neg b];exact ih
  ·have e':¬q.1=k:=λz=>e (h1.trans z)
   have a:decide (p.1≠k)=true:=by simp[e]
   have b:decide (q.1≠k)=true:=by simp[e']
   rw[if_pos a,if_pos b];exact .cons ⟨h1,h2⟩ ih
theorem KV.length{bD:List (κ×V)}{vs:List (κ×Value)}(r:KV bD vs):bD.length=vs.length:=Paired.length r
end
theorem BN {P:Program}{w:World}{k:Key}{u:Value}(r:RelV (kV k) u):(cW P w).is k u=true:=by
 cases k with
 | inl i=>obtain⟨t,e⟩:=(show ∃t,u=Value.int i t from r);subst e;exact om P w i t
 | inr x=>obtain⟨t,e⟩:=(show ∃t,u=Value.str x t from r);subst e;exact oo P w x t
theorem mC {P:Program}{w:World}:∀{ks:List Key} {us:List Value},Vals (ks.map kV) us->ItemsAre (cW P w) ks us
 | [],_,r=>by rw[List.map_nil] at r;cases r;exact .nil
 | k::ks,_,r=>by
  rw[List.map_cons] at r
  cases r with
  | cons h t=>exact .cons (BN h) (mC t)
abbrev KT (H:Hp):List (List Key×V)->List (List Key×Addr×Value)->Prop:=Paired λp q=>p.1=q.1/\H q.2.1=some (.tup (p.1.map kV))/\RelV p.2 q.2.2
theorem KT.val{H:Hp}{bD:List (List Key×V)}{xs:List (List Key×Addr×Value)}(r:KT H bD xs)(k:List Key):gS (nq bD k) ((atKey xs k).map (·.2)):=by
 induction r with
 | nil=>exact True.intro
 | @cons p q ps qs h t ih=>
  obtain⟨h1,_,h2⟩:=h
  by_cases e:p.1=k
  ·have e':q.1=k:=h1.symm.trans e
   have b:atKey (q::qs) k=some q.2:=by simp[atKey,List.find?_cons,e']
   rw[oI e,b];exact h2
  ·have e':¬q.1=k:=λz=>e (h1.trans z)
   have b:atKey (q::qs) k=atKey qs k:=by simp[atKey,List.find?_cons,e']
   rw[oJ e,b];exact ih
section
variable {P:Program}{w:World}{H:Hp}{h:Heap}{a:Addr}
theorem BO {u:HO}(ok:iy P w H h)(e:Rd H a u):bH P w H h a u:=e.ok ok
theorem BP {bD:List (Key×V)}(ok:iy P w H h)(e:Rd H a (.dK bD)):bD.length<=sizeLine/\(a == sysModules)=false/\∃vs,KV bD vs/\h.DictOf (cW P w) a vs:=
 show bH P w H h a (.dK bD) from BO ok e
theorem xa {ks:List Key}(ok:iy P w H h)(e:H a=some (.tup (ks.map kV))):(tupleKind (cW P w)).is h ks a:=by
 obtain⟨_,aE,r,o,h1,h2,n,h3⟩:=(show bH P w H h a (.tup (ks.map kV)) from ok a _ e)
 exact⟨o,aE.toArray,n,h1,h2,h3,by simpa using mC r⟩
theorem BQ {bD:List (List Key×V)}(ok:iy P w H h)(e:Rd H a (.dT bD)):bD.length<=sizeLine/\(a == sysModules)=false/\
  ∃xs,KT H bD xs/\h.DictOfH (tupleKind (cW P w)) a xs:=by
 obtain⟨z,y,xs,r,o,es,ep,h1,h2,h3,h4,h5⟩:=(show bH P w H h a (.dT bD) from BO ok e)
 refine⟨z,y,xs,r,o,es,ep,h1,h2,h3,h4,λx hx=>?_,h5⟩
 have all:∀{l:List (List Key×V)} {m:List (List Key×Addr×Value)},KT H l m->∀x ∈ m,(tupleKind (cW P w)).is h x.1 x.2.1:=by
  intro l m q
  induction q with
  | nil=>intro x hx;exact nomatch hx
  | @cons p q ps qs hq t ih=>
   intro x hx
   rcases List.mem_cons.mp hx with e | hx
   ·subst e
    exact xa ok (by rw[<-hq.1];exact hq.2.1)
   ·exact ih x hx
 exact all r x hx
end
def qQ (H:Hp)(a:Addr)(y:V)(r:Option V):Prop:=
 (∃bD k,Rd H a (.dK bD)/\y=kV k/\r=nq bD k)\/∃bD k b,Rd H a (.dT bD)/\y=.ref b/\H b=some (.tup (k.map kV))/\r=nq bD k
def K0 (H:Hp)(a:Addr)(y v:V)(H':Hp):Prop:=
 (∃bD k,H a=some (.dK bD)/\y=kV k/\bD.length < sizeLine/\H'=upd H a (.dK (putK bD k v)))\/
 ∃bD k b,H a=some (.dT bD)/\y=.ref b/\H b=some (.tup (k.map kV))/\bD.length < sizeLine/\H'=upd H a (.dT (putK bD k v))
section
variable {X:Cx}{pins:List (Addr×Obj)}{σ:St}{H:Hp}{s:Shared}{a:Addr}{y v:V}{u r:Value}{o:Option V}{A:Around}{E:Value->Shared->Prop}
theorem Inv.big(I:Inv X pins σ H s):sysModules < s.heap.objs.size:=by
 have h:mainGlobals < s.heap.objs.size:=(I.mod.glob.keeps I.bk).lt
 exact Nat.lt_trans (by decide) h
theorem uA {Q:Value->Shared->Prop}(hu:A.units + 1 < cLine)(I:Inv X pins σ H s)(g:qQ H a y (some v))(ry:RelV y u)(h:∀w' s',Inv X pins σ H s'->RelV v w'->Q w' s'):
  wpAny (model X.prog X.w) A (getItem (.ref a) u) Q E s:=by
 rcases g with⟨bD,k,e,ey,l⟩ | ⟨bD,k,b,e,ey,eb,l⟩
 ·subst ey
  obtain⟨z,hd,vs,rel,dd⟩:=BP I.ba e
  obtain⟨w',hw,uy⟩:=gS.some_of (v:=v) (o:=valueAt vs k) (by rw[l];exact rel.val k)
  exact wpAny_getItem_of (BN ry) dd.mapOf hw (h w' _ (I.tok _) uy)
 ·subst ey
  cases(show u=Value.ref b from ry)
  obtain⟨z,hd,xs,rel,dd⟩:=BQ I.ba e
  obtain⟨w',hw,uy⟩:=gS.some_of (v:=v) (o:=(atKey xs k).map (·.2)) (by rw[l];exact rel.val k)
  obtain⟨p,hp,j6⟩:=Option.map_eq_some_iff.mp hw
  refine wpAny_getItem_heap (tupleKind_room_in1 hu) (xa I.ba eb) dd hp ?_
  rw[j6]
  exact h w' _ (I.tok _) uy
end
section
variable {X:Cx}{pins:List (Addr×Obj)}{σ:St}{H:Hp}{s:Shared}{a:Addr}{bD:List (Key×V)}{k:Key}{u:Value}{A:Around}{E:Value->Shared->Prop}
end
theorem oK {X:Cx}{pins:List (Addr×Obj)}{σ:St}{H:Hp}{s:Shared}{a:Addr}{y:V}{o:Option V}(I:Inv X pins σ H s)(g:qQ H a y o):s.TypeIs (.ref a) "dict":=by
 rcases g with⟨bD,k,e,_,_⟩ | ⟨bD,k,b,e,_,_,_⟩
 ·obtain⟨_,_,vs,_,dd⟩:=BP I.ba e
  exact dd.typeIs
 ·obtain⟨_,_,xs,_,dd⟩:=BQ I.ba e
  exact dd.typeIs
def BR (td ty:TE):TE:=λσ H Q=>td σ H λx H1=>ty σ H1 λy H2=>∃a v,x=.ref a/\qQ H2 a y (some v)/\Q v H2
def He (ty td:TE):TE:=λσ H Q=>ty σ H λy H1=>td σ H1 λx H2=>∃a o,x=.ref a/\qQ H2 a y o/\Q (.bl o.isSome) H2
def si (ty td:TE):TE:=λσ H Q=>ty σ H λy H1=>td σ H1 λx H2=>∃a o,x=.ref a/\qQ H2 a y o/\Q (.bl (!o.isSome)) H2
def BS (td ty tv:TE):TS:=λD σ H=>tv σ H λv H1=>td σ H1 λx H2=>ty σ H2 λy H3=>∃a H4,x=.ref a/\K0 H3 a y v H4/\D.nx σ H4
theorem xc {P:Program}{w:World}{H:Hp}(h:Heap)(hb:sysModules < h.objs.size):bH P w H (h.push {cls:=.type "dict",data:=.dict #[]}) h.objs.size (.dK []):=
 ⟨Nat.zero_le _,beq_eq_false_iff_ne.mpr (Ne.symm (Nat.ne_of_lt hb)),[],.nil,Heap.DictOf.new h⟩
def nr:TE:=λ_ H Q=>∀p,H p=none->Q (.ref p) (upd H p (.dK []))
section
variable {X:Cx}{pos:Pos}
theorem xf:PE X (.Dict [] [] pos) nr:=.mk λpins s σ H Q I h=>
 wpAny_Dict_empty ⟨.ref s.heap.objs.size,_,I.laid (a:=s.heap.objs.size) (o:=.dK []) (t':=s.toks) (λ_ _ q=>Heap.get?_push_of_some _ q) (Nat.le_refl _) (xc s.heap I.big),rfl,h _ (I.ba.fresh (Nat.le_refl _))⟩
end
def nu:List (TE×TE)->St->Hp->(List (V×V)->Hp->Prop)->Prop
 | [],_,H,Q=>Q [] H
 | (tk,tv)::r,σ,H,Q=>tk σ H λx H1=>tv σ H1 λy H2=>nu r σ H2 λps H3=>Q ((x,y)::ps) H3
def DX (bD more:List (Key×V)):List (Key×V):=more.foldl (λacc kv=>putK acc kv.1 kv.2) bD
def BU (DY:List (TE×TE)):TE:=λσ H Q=>∀p,H p=none->nu DY σ (upd H p (.dK [])) λps H2=>H2 p=some (.dK [])/\∃bD:List (Key×V),ps=bD.map (λkv=>(kV kv.1,kv.2))/\bD.length<=15/\Q (.ref p) (upd H2 p (.dK (DX [] bD)))
structure M1 (X:Cx)(o:Expr)(m:Str)(apos:Pos)(e:Expr)(cF:Pos):Prop where
 base:attributeBase o m X.env (eval o X.env)=eval o X.env
 Qb:((backTo cF (starEach [e] X.env)).all (λx=> !x.1) && (backToKw cF (keywordEach [] X.env)).all (λx=>x.1.isSome)
  && decide (([e]:List Expr).length + ([]:List Keyword).length + (if ([]:List Keyword).isEmpty then 0 else 1) < 30))=true
 line:(apos.endLine == cF.line)=true
 trees:backTo cF (starEach [e] X.env)=[(false,eval e X.env)]
structure M2 (X:Cx)(o:Expr)(m:Str)(apos:Pos)(e f:Expr)(cF:Pos):Prop where
 base:attributeBase o m X.env (eval o X.env)=eval o X.env
 Qb:((backTo cF (starEach [e,f] X.env)).all (λx=> !x.1) && (backToKw cF (keywordEach [] X.env)).all (λx=>x.1.isSome)
  && decide (([e,f]:List Expr).length + ([]:List Keyword).length + (if ([]:List Keyword).isEmpty then 0 else 1) < 30))=true
 line:(apos.endLine == cF.line)=true
 trees:backTo cF (starEach [e,f] X.env)=[(false,eval e X.env),(false,eval f X.env)]
section
variable {X:Cx}{pins:List (Addr×Obj)}{σ:St}{H:Hp}{s:Shared}{a:Addr}{y d:V}{u r:Value}{o:Option V}{A:Around}{E:Value->Shared->Prop}
end
section
variable {X:Cx}{pins:List (Addr×Obj)}{σ:St}{H:Hp}{s:Shared}{a:Addr}{y:V}{u:Value}{A:Around}{E:Value->Shared->Prop}
end
end
end L2
namespace NL
open PySem PySem.W PySem.Calls PyProof.Rows
theorem j7 {P:Params}{h:Heap}:∀(ns:List Int) (vs:List Value),WellAll P h vs (ns.map WData.int)->IntsAre vs ns:=by
 intro ns
 induction ns with
 | nil=>
  intro vs w
  rw[List.map_nil] at w
  cases w
  exact .nil
 | cons n ns ih=>
  intro vs w
  rw[List.map_cons] at w
  cases w with
  | cons a b=>
   cases a
   exact .cons _ _ (ih _ b)
theorem uB {l:OpenLaw}{n:Nat}(hn:l.most=some n){P:Params}{h:Heap}{args:List WData}{vals:List Value}
  (Az:l.row.toRowW.claim.pre args=true) (uC:WellAll P h vals args):
  ∃a vs ns,vals=[Value.ref a]/\args=[WData.list (ns.map WData.int)]/\h.get? a=some {cls:=.type "list",data:=.seq vs.toArray}/\IntsAre vs ns/\ns.length<=n:=by
 have Qc:WShape.hasAll [] args [.list .int]=true:=(pre_splitW Az).1
 have hc:l.pre.holds [] {args:=args}=true:=(pre_splitW Az).2
 obtain⟨d,r,rfl,h1,h2⟩:=hasAllW_cons Qc
 obtain rfl:=hasAllW_nil h2
 obtain⟨xs,rfl,h3⟩:=hasW_list h1
 obtain⟨ns,rfl⟩:=items_int h3
 have hlen:ns.length<=n:=by
  unfold OpenLaw.pre at hc
  have h4:(WTm.not (.lt (.lit (.int (n:Int))) (.len (.arg 0)))).holds [] {args:=[.list (ns.map .int)]}=true:=by
   have h4:=(holds_andW hc).1
   rw[hn] at h4
   exact h4
  have h5:=condW_of h4 (w_not (w_lt w_lit (w_len_list (w_arg rfl))))
  rw[List.length_map] at h5
  refine Nat.le_of_not_lt λq=>?_
  have q':(n:Int) < ((ns.length:Nat):Int):=by omega
  first
   | (rw[decide_eq_true q'] at h5;exact absurd h5 (by decide))
   | (simp at h5;omega)
 cases uC with
 | cons w1 w2=>
  cases w2
  cases w1 with
  | list ho K1=>exact⟨_,_,ns,rfl,rfl,ho,j7 ns _ K1,hlen⟩
theorem uD (l:OpenLaw)(args:List WData):l.row.toRowW.claim.post args (.bool true) args=true:=
 postW_of (r:=l.row.toRowW) (X:=(true == true))
  (show WShape.has [] (.bool true) .bool=true by first | rfl | decide | simp[WShape.has,WShape.arms,WShape.armsAll])
  (show(WTm.eq .res (.lit (.bool true))).value [] {args:=args,res:=some (.bool true),after:=args}=some (.bool (true == true)) from w_eq_bool (w_res rfl) w_lit) rfl
theorem oM {l:OpenLaw}{n:Nat}{q:Program}{loose:List Str}{XP:(Str->Option Value)->Heap->Prop}{YP:World->Heap->Prop}{d:DefRec}
  (hn:l.most=some n) (Hf:d.params.defaults=[])
  (call:∀(w:World) (s₀ s₁:Shared) (mg mb:Str->Option Value) (fa:Addr) (o:Obj) (pm cd doc:Value) (a:Addr) (vs:List Value) (ns:List Int),
   Ground q loose [] XP w s₀ mg mb s₁.heap->YP w s₁.heap->
   s₁.heap.get? fa=some o->o.data=.func (docDef d.name d.params d.body d.scope pm cd doc)->s₁.heap.CodeRec cd d.name->mg d.name=some (.ref fa)->
   s₁.heap.get? a=some {cls:=.type "list",data:=.seq vs.toArray}->IntsAre vs ns->ns.length<=n->s₁.gens=#[]->
   codeAny (model l.prog w) callerA (.call (.ref fa) ⟨[.ref a],[]⟩) (λr s'=>r=.ok (.ret (.bool true))/\OldK s₁.heap s'.heap/\s'.os=s₁.os/\AllBare s'.gens) s₁):
  WalkO q loose XP YP l.row.toRowW d [] (λf vs=>PySem.call f vs):=by
 intro w s₀ s₁ mg mb G Y fa o pm cd doc dV kV ho hd lN hD Hg hg args vals as Az Qd TJ uC BV
 obtain rfl:dV=.none:=Dflts.none hD Hf
 obtain rfl:kV=.none:=Dflts.noKw hD
 obtain⟨a,vs,ns,rfl,rfl,DZ,hints,hlen⟩:=uB hn Az uC
 refine enter_call (codeAny_mono (call w s₀ s₁ mg mb fa o pm cd doc a vs ns G Y ho (fd_plain hd) lN Hg DZ hints hlen hg) λr s' hq=>?_)
 obtain⟨rfl,h2,h3,h4⟩:=hq
 exact⟨.inl ⟨.bool true,.bool true,[],rfl,λ_=>rfl,.bool true,uD l _,λ_=>⟨List.Pairwise.nil,λ_ hm=>(nomatch hm)⟩⟩,h2,h3,h4⟩
section
variable {prog:Program}{w:World}{A:Around}{E:Value->Shared->Prop}{s:Shared}{K:Frag}
end
end NL
namespace L2
open PySem PySem.Spec PyProof.Rows
section
theorem mD:∀{vs:List Value} {ns:List Int},IntsAre vs ns->Vals (ns.map V.int) vs
 | _,_,.nil=>.nil
 | _,_,.cons n t h=>.cons ⟨t,rfl⟩ (mD h)
def D0 (H:Hp):Prop:=∀b,H b=none\/∃o xs,H b=some (.qf o (.lst xs))
theorem xg {P:Program}{w:World}{K:W.Frag}{mg mb:Str->Option Value}{CX:wM}{k:Nat}{fa a:Addr}{fd:FuncData}{x:Str}{sp:Sp}{s₁:Shared}{vs:List Value}{ns:List Int}
  (KX:K.In s₁.heap) (NM:s₁.heap.Ns mainGlobals mg) (hb:s₁.heap.Ns builtinsNs mb) (Qe:∀x:Str,x≠"__name__"->mb x=bootBuiltins x) (K2:s₁.heap.NoLimit) (hg:s₁.gens=#[])
  (ha:s₁.heap.get? a=some {cls:=.type "list",data:=.seq vs.toArray}) (hi:IntsAre vs ns) (hl:ns.length<=sizeLine) (hr:bR k callerA)
  (F:∀base:Heap,K.In base->base.Ns mainGlobals mg->dU P w K mg base CX k fa fd [x] sp) (Hh:∀(s:Shared) (u:Value),BindsTo s fd ⟨[u],[]⟩ [(x,u)])
  (zO:∀H:Hp,D0 H->aX K H a (ns.map V.int)->sp [.ref a] H (λv _=>v=.bl true) λ_ _ _=>False)
  (K3:∀H e s',CX [] H s₁ (λ_ _ _=>False) e s'->False):
  codeAny (model P w) callerA (.call (.ref fa) ⟨[.ref a],[]⟩) (λr s'=>r=.ok (.ret (.bool true))/\OldK s₁.heap s'.heap/\s'.os=s₁.os/\AllBare s'.gens) s₁:=by
 have rv:=mD hi
 have K4:=hi.length
 have core:∀H:Hp,D0 H->aX K H a (ns.map V.int)->iy P w H s₁.heap->(∀b,H b≠none->b=a)->(H a≠none->K.lookup a=none)->
   codeAny (model P w) callerA (.call (.ref fa) ⟨[.ref a],[]⟩) (λr s'=>r=.ok (.ret (.bool true))/\OldK s₁.heap s'.heap/\s'.os=s₁.os/\AllBare s'.gens) s₁:=by
  intro H hO hS ba hA hK
  have sj:∀{b:Addr} {o:Obj},s₁.heap.get? b=some o->H b=none->(mZ s₁.heap H).get? b=some o:=λe n=>wj e n
  have GU:∀{b:Addr} {o:Obj} {es:Array DictEntry} {ep:Nat},s₁.heap.get? b=some o->o.data=.dict es ep->H b=none:=λ{b o es ep} e d=>by
   cases q:H b with
   | none=>rfl
   | some u=>
    have e':b=a:=hA b (by rw[q];simp)
    subst e'
    rw[ha] at e;cases e
    have d':Data.seq vs.toArray _=Data.dict es ep:=d
    cases d'
  have JD:∀{b:Addr} {m:Str->Option Value},s₁.heap.Ns b m->(mZ s₁.heap H).Ns b m:=λ{b m} ⟨o,es,ep,e,d,r⟩=>⟨o,es,ep,sj e (GU e d),d,r⟩
  have NN:K.In (mZ s₁.heap H):=λb o e=>sj (KX b o e) (by
   cases q:H b with
   | none=>rfl
   | some u=>
    have e':b=a:=hA b (by rw[q];simp)
    subst e'
    rw[hK (by rw[q];simp)] at e;cases e)
  have hM:Mod K mg (mZ s₁.heap H):=⟨NN,JD NM,⟨mb,JD hb,Qe⟩,let ⟨mc,h1,h2⟩:=K2;⟨mc,JD h1,h2⟩⟩
  have e0:qE P w K mg (mZ s₁.heap H) callerA [] s₁ H:=⟨rfl,hM,λb o e=>Aa e,Nat.le_of_eq (tZ _ _),trivial,λb hb=>absurd (show b ∈ ([]:List Addr) from hb) (by simp),ba,.of_eq hg⟩
  refine codeAny_mono ((F _ NN (JD NM)).run callerA [] s₁ H ⟨[.ref a],[]⟩ [.ref a] [.ref a] _ _ hr e0 (Hh s₁ (.ref a)) (.cons rfl .nil) (zO H hO hS)) λr s' h=>?_
  cases r with
  | error e=>exact(K3 H e s' h).elim
  | ok fl=>
   cases fl with
   | next=>exact False.elim h
   | brk=>exact False.elim h
   | cont=>exact False.elim h
   | ret u=>
    obtain⟨v,H',os,bare,un,K5,r',q⟩:=h
    have q':v=.bl true:=q
    subst q'
    obtain rfl:u=Value.bool true:=r'
    refine⟨rfl,OldK.of_keep λb o e=>?_,os,bare⟩
    cases q:H b with
    | none=>exact un.keep b o e q (by intro z;exact absurd (show b ∈ ([]:List Addr) from z) (by simp)) (by simp)
    | some u=>
     rcases hO b with z | ⟨ob,xs,z⟩
     ·rw[q] at z;cases z
     ·have z2:=un.i3 b ob _ z
      obtain⟨e1,_⟩:=ba b _ z
      obtain⟨e2,_⟩:=K5 b _ z2
      rw[e] at e1;cases e1
      exact e2
 cases hk:K.lookup a with
 | some o=>
  have e:=KX a o hk
  rw[ha] at e
  cases e
  refine core (λ_=>none) (λ_=>.inl rfl) (.inr ⟨_,vs.toArray,_,hk,rfl,rfl,rfl,by rw[List.size_toArray,K4];exact hl,by simpa using rv⟩) (λb u z=>by have z':(none:Option HO)=some u:=z;cases z') (λb z=>absurd rfl z) λz=>absurd rfl z
 | none=>
  refine core (λb=>if b=a then some (.qf {cls:=.type "list",data:=.seq vs.toArray} (.lst (ns.map V.int))) else none) (λb=>?_) (.inl (.inr ⟨{cls:=.type "list",data:=.seq vs.toArray},if_pos rfl⟩)) (λb u z=>?_) (λb z=>?_) λ_=>hk
  ·by_cases hb:b=a
   ·exact .inr ⟨_,_,if_pos hb⟩
   ·exact .inl (if_neg hb)
  ·by_cases hb:b=a
   ·have z':=(if_pos hb).symm.trans z
    cases z'
    subst hb
    exact⟨ha,by rw[List.length_map];exact hl,vs,_,rv,ha⟩
   ·have z':=(if_neg hb).symm.trans z
    cases z'
  ·by_cases hb:b=a
   ·exact hb
   ·exact absurd (if_neg hb) z
end
section
theorem AA {l:W.OpenLaw}{n k:Nat}{q:Program}{loose:List Str}{XP:(Str->Option Value)->Heap->Prop}{YP:World->Heap->Prop}{d:DefRec}{K:Params->W.Frag}{CX:World->wM}{sp:World->Sp}{x:Str}
  (hn:l.most=some n) (DC:n<=sizeLine) (Hf:d.params.defaults=[]) (hr:bR k callerA)
  (hY:∀(w:World) (h:Heap),YP w h->(K w.params).In h)
  (F:∀(w:World) (mg:Str->Option Value) (fa:Addr) (h:Heap),(K w.params).In h->h.Ns mainGlobals mg->mg d.name=some (.ref fa)->
   ∃fd:FuncData,(∀(s:Shared) (u:Value),BindsTo s fd ⟨[u],[]⟩ [(x,u)])/\
    ∀base:Heap,(K w.params).In base->base.Ns mainGlobals mg->dU l.prog w (K w.params) mg base (CX w) k fa fd [x] (sp w))
  (zO:∀(w:World) (H:Hp) (a:Addr) (ns:List Int),ns.length<=n->D0 H->aX (K w.params) H a (ns.map V.int)->sp w [.ref a] H (λv _=>v=.bl true) λ_ _ _=>False)
  (K3:∀(w:World) (H:Hp) (s:Shared) (e:Value) (s':Shared),CX w [] H s (λ_ _ _=>False) e s'->False):
  W.WalkO q loose XP YP l.row.toRowW d [] (λf vs=>PySem.call f vs):=by
 refine NL.oM hn Hf λw s₀ s₁ mg mb fa o pm cd doc a vs ns G Y ho hd lN Hg DZ hints hlen hg=>?_
 have KX:=hY w _ Y
 obtain⟨fd,hb,hF⟩:=F w mg fa _ KX G.T.g Hg
 exact xg KX G.T.g G.T.b G.T.builtins G.T.nolimit hg DZ hints (Nat.le_trans hlen DC) hr hF hb (λH hO hS=>zO w H a ns hlen hO hS) λH e s'=>K3 w H s₁ e s'
end
section
variable {f:Addr}{st:Stmt}{qual:Str}
def cA (s:Stmt):Arguments:=match s with
 | .FunctionDef _ a _ _ _ _ _ _ _ _=>a
 | _=>{posonlyargs:=[],args:=[],vararg:=none,kwonlyargs:=[],kw_defaults:=[],kwarg:=none,defaults:=[]}
def bq (s:Stmt):List Stmt:=match s with
 | .FunctionDef _ _ b _ _ _ _ _ _ _=>b
 | _=>[]
def av (s:Stmt):Scope:=match s with
 | .FunctionDef _ _ _ _ _ _ sc _ _ _=>sc
 | _=>{kind:=.function,names:=[],isGenerator:=false,isCoroutine:=false}
abbrev qR:wM:=λ_ _ _ _ _ _=>False
abbrev E0:XK:=λ_ _ _=>False
theorem sk {X:Cx}:Passes qR X E0:=λ_ _ _ _ _ _ _ h=>h.elim
structure vP (K:W.Frag)(x qual:Str)(st:Stmt)(f:Addr)(fd:FuncData):Prop where
 ex:∃(oc:Value) (od:Option Addr) (kV doc pm:Value) (an:Option Addr) (cy ct:Value) (Ap:Array (Option Value)),
  fd=W.fnOf x qual (cA st) (bq st) (av st) .none kV doc pm an cy ct/\K.lookup f=some ⟨oc,od,.func fd,Ap⟩/\W.codeIn K cy qual=true
 kp:W.keepIn K (.ref f)=true
section
variable {P:Program}{w:World}{K:W.Frag}{mg:Str->Option Value}{base:Heap}
theorem vP.ok{x:Str}{fd:FuncData}{N ps:List Str}{k:Nat}{sp:Sp}(F:vP K x qual st f fd)(S:aI N ps (av st))(len:∀vs H Q E,sp vs H Q E->vs.length=ps.length)
  (cX:∀(cy:Value) (A:Around) (outer:List Env) (s:Shared) (H:Hp) (vs:List V) (Q:VK) (E:XK),bR k (A.deeper (envOfC qual (av st) s.heap.objs.size f cy))->sp vs H Q E->
   ∃t,kr (fz qR P w K mg base N qual (av st) f cy A outer s H E).lK (bq st) t/\t {nx:=λ_ H'=>Q .bb H',rt:=Q} (start N vs) H):dU P w K mg base qR (k + 1) f fd ps sp:=by
 obtain⟨oc,od,kV,doc,pm,an,cy,ct,Ap,rfl,lk,lN⟩:=F.ex
 refine BK lk lN S len λA outer s H vs Q E hr zO=>?_
 obtain⟨t,h,q⟩:=cX cy A outer s H vs Q E hr zO
 exact⟨t,h.lK,q⟩
theorem vP.binds{x:Str}{fd:FuncData}{ps:List Str}(F:vP K x qual st f fd)
  (h:∀(kV doc pm:Value) (an:Option Addr) (cy ct:Value) (us:List Value),us.length=ps.length->bindArgs (W.fnOf x qual (cA st) (bq st) (av st) .none kV doc pm an cy ct) ⟨us,[]⟩=pure (ps.zip us)):Binds K fd ps []:=by
 obtain⟨oc,od,kV,doc,pm,an,cy,ct,Ap,rfl,lk,lN⟩:=F.ex
 exact .all (h kV doc pm an cy ct)
theorem gT {x:Str}{oc:Value}{od an:Option Addr}{Ap:Array (Option Value)}{kV doc pm cy ct:Value}(l:K.lookup f=some ⟨oc,od,.func (W.fnOf x qual (cA st) (bq st) (av st) .none kV doc pm an cy ct),Ap⟩)
  (c:W.codeIn K cy qual=true) (k:W.keepIn K (.ref f)=true):vP K x qual st f (W.fnOf x qual (cA st) (bq st) (av st) .none kV doc pm an cy ct):=⟨⟨oc,od,kV,doc,pm,an,cy,ct,Ap,rfl,l,c⟩,k⟩
end
theorem aA {n:Nat}(h:n<=1000):n < sizeLine:=Nat.lt_of_le_of_lt h (by decide)
section
variable {X:Cx}
theorem pv (i:Nat){x:Str}{pos:Pos}(hN:X.N[i]?=some x:=by rfl)(hv:Km X.env.scope x:=by first | exact Or.inl rfl | exact Or.inr (Or.inl rfl) | exact Or.inr (Or.inr rfl))(hd:(x == ("__debug__":Str))=false:=by decide)
  (lN:(x == ("__classdict__":Str))=false:=by decide):PE X (.Name x pos) (ou i):=Di hN hv hd lN
end
def ak (H H':Hp):Prop:=∀b o,H b=some o->H' b=some o
theorem ak.refl(H:Hp):ak H H:=λ_ _ h=>h
theorem ak.trans{H H1 H2:Hp}(a:ak H H1)(b:ak H1 H2):ak H H2:=λc o h=>b c o (a c o h)
theorem ak.free{H H':Hp}(e:ak H H'){l:Addr}(h:H' l=Option.none):H l=Option.none:=by
 cases q:H l with
 | none=>rfl
 | some o=>
  rw[e l o q] at h
  cases h
theorem ak.seq{K:W.Frag}{H H':Hp}{a:Addr}{xs:List V}(e:ak H H')(h:aX K H a xs):aX K H' a xs:=by
 rcases h with(h | ⟨o,h⟩) | h
 ·exact .inl (.inl (e _ _ h))
 ·exact .inl (.inr ⟨o,e _ _ h⟩)
 ·exact .inr h
end
end L2
set_option maxHeartbeats 4000000
namespace L2
open PySem PySem.Spec PyProof.Rows
section
variable {X:Cx}{H H₂:Hp}{pins:List (Addr×Obj)}{σ:St}
def gU (env:Env):List (Str×NameKind)->List (Str×Addr)->List (Str×Addr)
 | [],cs=>cs
 | (n,k)::r,cs=>gU env r (if k == .free then(n,(env.cells.lookup n).getD 0)::cs else cs)
theorem oN {env:Env}{x:Str}{c:Addr}:∀{l:List (Str×NameKind)} {cs:List (Str×Addr)},(x,c) ∈ gU env l cs->(x,c) ∈ cs\/((x,NameKind.free) ∈ l/\c=(env.cells.lookup x).getD 0)
 | [],cs,h=>.inl h
 | (n,k)::r,cs,h=>by
  unfold gU at h
  rcases oN h with h1 | ⟨h1,h2⟩
  ·by_cases hk:(k == NameKind.free)=true
   ·rw[if_pos hk] at h1
    have ek:k=.free:=by simpa using hk
    rcases List.mem_cons.mp h1 with e | e
    ·have e1:=congrArg Prod.fst e
     have e2:=congrArg Prod.snd e
     simp only at e1 e2
     subst e1 ek
     exact .inr ⟨List.mem_cons_self,e2⟩
    ·exact .inl e
   ·rw[if_neg hk] at h1
    exact .inl h1
  ·exact .inr ⟨List.mem_cons_of_mem _ h1,h2⟩
theorem mE {env:Env}{p:Str×Addr}:∀{l:List (Str×NameKind)} {cs:List (Str×Addr)},p ∈ cs->p ∈ gU env l cs
 | [],_,h=>h
 | (n,k)::r,cs,h=>by
  unfold gU
  refine mE ?_
  split
  ·exact List.mem_cons_of_mem _ h
  ·exact h
theorem kJ {env:Env}{x:Str}:∀{l:List (Str×NameKind)} {cs:List (Str×Addr)},(x,NameKind.free) ∈ l->(x,(env.cells.lookup x).getD 0) ∈ gU env l cs
 | [],_,h=>by simp at h
 | (n,k)::r,cs,h=>by
  unfold gU
  rcases List.mem_cons.mp h with e | e
  ·have e1:=congrArg Prod.fst e
   have e2:=congrArg Prod.snd e
   simp only at e1 e2
   subst e1 e2
   refine mE ?_
   rw[if_pos (by simp)]
   exact List.mem_cons_self
  ·exact kJ e
theorem cP {β:Type}:∀{l:List (Str×β)} {x:Str} {c:β},(x,c) ∈ l->∃d,l.lookup x=some d
 | [],_,_,h=>by simp at h
 | (n,b)::r,x,c,h=>by
  by_cases e:x=n
  ·subst e;exact⟨b,by simp⟩
  ·have hb:(x == n)=false:=beq_eq_false_iff_ne.mpr e
   rcases List.mem_cons.mp h with q | q
   ·exact absurd (congrArg Prod.fst q) e
   ·obtain⟨d,hd⟩:=cP q
    exact⟨d,by simp only[List.lookup_cons,hb];exact hd⟩
theorem gP {scope:Scope}{env:Env}(h:∀x ∈ scope.names,x.2=.free->∃c,env.cells.lookup x.1=some c):closureFor scope env=pure (gU env scope.names []):=by
 unfold closureFor
 have key:∀(l:List (Str×NameKind)) (cs:List (Str×Addr)),(∀x ∈ l,x.2=.free->∃c,env.cells.lookup x.1=some c)->
   ((forIn l cs λ(x:Str×NameKind) (r:List (Str×Addr))=>if (x.2 == NameKind.free)=true then do let y <-cellOf env x.1;pure (ForInStep.yield ((x.1,y)::r)) else pure (ForInStep.yield r)):Sem (List (Str×Addr)))=pure (gU env l cs):=by
  intro l
  induction l with
  | nil=>intro cs _;rfl
  | cons p r ih=>
   intro cs hh
   obtain⟨n,k⟩:=p
   rw[List.forIn_cons]
   dsimp only
   by_cases hk:(k == NameKind.free)=true
   ·obtain⟨c,hc⟩:=hh (n,k) List.mem_cons_self (by simpa using hk)
    have e:cellOf env n=pure c:=by unfold cellOf;rw[hc]
    rw[if_pos hk,e,pure_bind,pure_bind]
    dsimp only
    rw[ih _ λx hx=>hh x (List.mem_cons_of_mem _ hx)]
    show _=pure (gU env r _)
    rw[if_pos hk,hc]
    rfl
   ·rw[if_neg hk,pure_bind]
    dsimp only
    rw[ih _ λx hx=>hh x (List.mem_cons_of_mem _ hx)]
    show _=pure (gU env r _)
    rw[if_neg hk]
 have:=key scope.names [] h
 simp only at this ⊢
 rw[this,pure_bind]
def sm (ifs:List Expr)(env:Env):Sem Bool:=forIn ifs true λc r=>if r=true then do let ok <-isTrue c env (eval c env);pure (ForInStep.yield ok) else pure (ForInStep.yield r)
def FL (X:Cx)(ifs:List Expr)(t:TT):Prop:=
 ∀(pins:List (Addr×Obj)) (s:Shared) (σ:St) (H:Hp) (Q:Bool->Hp->Prop),Inv X pins σ H s->t σ H Q->wpAny (model X.prog X.w) X.A (sm ifs X.env) (TP X pins σ Q) X.xe s
def iJ:TT:=λ_ H Q=>Q true H
theorem AB:FL X [] iJ:=λ_ _ _ H _ I h=>wpAny_pure ⟨H,I,h⟩
theorem so {c:Expr}{t:TT}(h:PT X c t):FL X [c] t:=λpins s σ H Q I hw=>wpAny_tests_one (h pins s σ H Q I hw)
section
variable {prog:Program}{w:World}{A:Around}{R:Result->Shared->Prop}{s:Shared}
theorem nv {elt target iter:Expr}{ifs:List Expr}{scope:Scope}{pos:Pos}{it acc:Value}{env:Env}(I:Nat->Shared->Prop)
  (turn:∀n s,I n s->wpAny (model prog w) A (pyNext it) (λr s₁=>match r with
   | none=>R (.ok .next) s₁
   | some v=>wpAny (model prog w) A (letOwnedTupleGo target it v) (λ_ s₂=>wpAny (model prog w) A (assign target env v) (λ_ s₃=>
     wpAny (model prog w) A (sm ifs env) (λok s₄=>
      if ok=true then wpAny (model prog w) A (eval elt env) (λx s₅=>
       wpAny (model prog w) A (call (.builtin "list.append") [acc,x]) (λ_ s₆=>∃m,m < n/\I m s₆) (λ_ _=>False) s₅) (λ_ _=>False) s₄
      else ∃m,m < n/\I m s₄) (λ_ _=>False) s₃) (λ_ _=>False) s₂) (λ_ _=>False) s₁) (λ_ _=>False) s)
  (n:Nat) (h:I n s):
  codeAny (model prog w) A (.compLoop (.ListComp elt [⟨target,iter,ifs,0⟩] scope pos) 0 it acc env) R s:=by
 refine codeAny_loop rfl I (λn s hI=>?_) n h
 show wpAny _ A ((compTurn (.ListComp elt [⟨target,iter,ifs,0⟩] scope pos) 0 it acc env).onRaise (λx=>do noteFrame x env;theTreesLotGoes x)) _ _ s
 refine wpAny_noted ?_
 rw[compTurn_list]
 refine wpAny_bind (wpAny_standAt (wpAny_bind (wpAny_mono (turn n s hI) (λr s₁ h₁=>?_) λ_ _ h'=>h'.elim)))
 cases r with
 | none=>exact wpAny_pure h₁
 | some v=>
  refine wpAny_bind (wpAny_mono h₁ (λ_ s₂ h₂=>?_) λ_ _ h'=>h'.elim)
  refine wpAny_bind (wpAny_mono h₂ (λ_ s₃ h₃=>wpAny_bind (wpAny_mono h₃ (λok s₄ h₄=>?_) λ_ _ h'=>h'.elim)) λ_ _ h'=>h'.elim)
  cases ok with
  | false=>exact wpAny_pure ⟨rfl,h₄⟩
  | true=>
   exact wpAny_bind (wpAny_bind (wpAny_mono h₄ (λx s₅ h₅=>wpAny_bind (wpAny_mono h₅ (λ_ s₆ h₆=>wpAny_pure (wpAny_pure ⟨rfl,h₆⟩)) λ_ _ h'=>h'.elim)) λ_ _ h'=>h'.elim))
end
def uE (N N':List Str)(ix:List (Option Nat))(scope:Scope):Bool:=
 N'.length == ix.length && (N'.zip ix).all λp=>match p.2 with | none=>true | some j=>N[j]? == some p.1 && scope.names.lookup p.1 == some .free
def qS (ix:List (Option Nat))(σ:St):St:=ix.map λo=>match o with | none=>none | some j=>(σ[j]?).join
def freeOk (scope:Scope)(outer:Scope):Bool:=
 scope.names.all λx=>(x.2 != .cell) && (x.2 != .free || (outer.names.lookup x.1 == some .cell || outer.names.lookup x.1 == some .free)) && (x.2 != .local || scope.names.lookup x.1 == some .local) && (x.2 != .free || scope.names.lookup x.1 == some .free)
def Hi (X:Cx)(scope:Scope)(C:Addr)(N':List Str)(s₂:Shared)(H₂:Hp)(fp:List Addr):Cx:=
 {X with N:=N',s₀:=s₂,H₀:=H₂,env:=compEnvC scope (gU X.env scope.names []) C X.env,outer:=X.stack,stack:=X.stack,ex:=fp,fn:=λ_=>false,pn:=[],xe:=λ_ _=>False}
theorem freeOk.at {scope outer:Scope}(h:freeOk scope outer=true){x:Str×NameKind}(hx:x ∈ scope.names):x.2≠.cell/\(x.2=.free->outer.names.lookup x.1=some .cell\/outer.names.lookup x.1=some .free)/\(x.2=.local->scope.names.lookup x.1=some .local)/\(x.2=.free->scope.names.lookup x.1=some .free):=by
 have h1:=List.all_eq_true.mp h x hx
 simp only[Bool.and_eq_true,Bool.or_eq_true,bne_iff_ne,ne_eq,beq_iff_eq] at h1
 obtain⟨⟨⟨a,b⟩,c⟩,d⟩:=h1
 exact⟨a,λe=>b.resolve_left λz=>z e,λe=>c.resolve_left λz=>z e,λe=>d.resolve_left λz=>z e⟩
theorem cD {scope:Scope}{env:Env}:∀{names:List (Str×NameKind)} {x:Str} {k:NameKind},
  (names.map λ(n,k)=>if (k == NameKind.free && env.scope.kind == .function && env.kindOf n == some .cell) then(n,NameKind.cell) else(n,k)).lookup x=some k->∃k',(x,k') ∈ names/\(k=k'\/(k=.cell/\k'=.free))
 | [],_,_,h=>by simp at h
 | (n,k0)::r,x,k,h=>by
  rw[List.map_cons] at h
  by_cases hc:(k0 == NameKind.free && env.scope.kind == .function && env.kindOf n == some .cell)=true
  ·simp only[hc,if_true] at h
   cases hx:x == n with
   | true=>
    simp only[List.lookup_cons,hx] at h
    have e:x=n:=by simpa using hx
    subst e
    have hk:k0=.free:=by
     simp only[Bool.and_eq_true,beq_iff_eq] at hc
     exact hc.1.1
    exact⟨k0,List.mem_cons_self,.inr ⟨(Option.some.inj h).symm,hk⟩⟩
   | false=>
    simp only[List.lookup_cons,hx] at h
    obtain⟨k',m,q⟩:=cD (scope:=scope) (env:=env) h
    exact⟨k',List.mem_cons_of_mem _ m,q⟩
  ·dsimp only at h
   rw[if_neg hc] at h
   cases hx:x == n with
   | true=>
    simp only[List.lookup_cons,hx] at h
    have e:x=n:=by simpa using hx
    subst e
    exact⟨k0,List.mem_cons_self,.inl (Option.some.inj h).symm⟩
   | false=>
    simp only[List.lookup_cons,hx] at h
    obtain⟨k',m,q⟩:=cD (scope:=scope) (env:=env) h
    exact⟨k',List.mem_cons_of_mem _ m,q⟩
section
variable {X:Cx}{scope:Scope}{C:Addr}{N':List Str}{s₂:Shared}{H₂:Hp}{fp:List Addr}{pins:List (Addr×Obj)}{σ:St}
theorem gH (I:Inv X pins σ H₂ s₂)(hf:freeOk scope X.env.scope=true){x:Str}{c:Addr}(h:(gU X.env scope.names []).lookup x=some c):X.env.cells.lookup x=some c/\(x,NameKind.free) ∈ scope.names:=by
 rcases oN (PySem.mem_of_lookup h) with z | ⟨z1,z2⟩
 ·simp at z
 ·have q:=(hf |> λh=>freeOk.at h z1).2.1 rfl
  obtain⟨c',e⟩:=I.ok.has x q
  rw[e] at z2
  exact⟨by rw[e,z2];rfl,z1⟩
theorem D4 (I:Inv X pins σ H₂ s₂)(hf:freeOk scope X.env.scope=true)(hk:scope.kind=.function)(hC:s₂.heap.objs.size<=C)(zP:∀b ∈ fp,i8 X pins H₂ b)(D5:∀b ∈ fp,∃o,s₂.heap.get? b=some o):(Hi X scope C N' s₂ H₂ fp).Ok where
 mod:=I.ok.mod
 kind:=hk
 glob:=I.ok.glob
 blt:=I.ok.blt
 above:=hC
 inj:=λx y c h1 h2=>I.ok.inj x y c (gH I hf h1).1 (gH I hf h2).1
 has:=λx h=>by
  have h:(relabel scope X.env).names.lookup x=some .cell\/(relabel scope X.env).names.lookup x=some .free:=h
  have key:(x,NameKind.free) ∈ scope.names:=by
   rcases h with h | h
   ·obtain⟨k',m,q⟩:=cD (scope:=scope) h
    rcases q with q | ⟨_,q⟩
    ·subst q
     exact absurd rfl (freeOk.at hf m).1
    ·subst q;exact m
   ·obtain⟨k',m,q⟩:=cD (scope:=scope) h
    rcases q with q | ⟨q,_⟩
    ·subst q;exact m
    ·cases q
  exact cP (kJ key)
 De:=λ_ _ h _=>absurd (show false=true from h) Bool.false_ne_true
 hd:=I.ok.hd
 frames:=I.ok.frames
 FI:=.inl rfl
 GC:=λb hb=>by
  obtain⟨o,ho⟩:=D5 b hb
  obtain⟨f0,f1,f2,f3,f4,f5⟩:=zP b hb
  refine⟨Nat.ne_of_lt (Nat.lt_of_lt_of_le (Heap.lt_size ho) hC),λx c h=>?_⟩
  exact f4 x c (gH I hf h).1
 bs:=I.bs
 t5:=Nat.le_trans I.ok.t5 I.sz
 oq:=λb o e hb=>by
  obtain⟨f0,f1,f2,f3,f4,f5⟩:=zP b hb
  rcases f3 with z | z
  ·exact I.ok.oq b o e z
  ·exact absurd (Nat.lt_of_lt_of_le (Nat.lt_of_lt_of_le (Heap.lt_size e) I.ok.t5) z) (Nat.lt_irrefl _)
 qk:=λb hb z=>by
  obtain⟨f0,f1,f2,f3,f4,f5⟩:=zP b hb
  rcases List.mem_cons.mp (I.m3 b z) with e | e
  ·exact f1 e
  ·exact f2 e
 iz:=I.stack
 Ac:=I.kq
end
theorem Inv.less{σ':St}{s:Shared}(I:Inv X pins σ H s)(hl:σ'.length=σ.length)(h:∀(i:Nat) (v:V),σ'[i]?=some (some v)->σ[i]?=some (some v)):Inv X pins σ' H s:=
 ⟨I.ok,I.os,I.bare,I.base,(let ⟨m,hn,hv⟩:=I.loc;⟨m,hn,λi x v e1 e2 e3=>hv i x v e1 (h i v e2) e3⟩),I.cell,I.free,I.eG,I.pin,I.ba,hl.trans I.len⟩
def Ext (σ σ':St):Prop:=σ'.length=σ.length/\∀(i:Nat) (v:V),σ[i]?=some (some v)->σ'[i]?=some (some v)
theorem Ext.refl(σ:St):Ext σ σ:=⟨rfl,λ_ _ h=>h⟩
theorem Ext.set{σ':St}(h:Ext σ σ'){j:Nat}{w:Option V}(hj:σ[j]?=some none):Ext σ (σ'.set j w):=by
 refine⟨by rw[List.length_set];exact h.1,λi v e=>?_⟩
 have ne:j≠i:=by rintro rfl;rw[hj] at e;cases e
 rw[List.getElem?_set_ne ne]
 exact h.2 i v e
theorem AD (ix:List (Option Nat))(σ:St):(qS ix σ).length=ix.length:=by unfold qS;rw[List.length_map]
section
variable {X:Cx}{scope:Scope}{N':List Str}{ix:List (Option Nat)}{s₂ s₄:Shared}{H₂:Hp}{fp:List Addr}{pins:List (Addr×Obj)}{σ:St}{C D:Addr}{h₄:Heap}
theorem K6 (I:Inv X pins σ H₂ s₂)(hf:freeOk scope X.env.scope=true)(hk:scope.kind=.function)(hx:uE X.N N' ix scope=true)(zP:∀b ∈ fp,i8 X pins H₂ b)(D5:∀b ∈ fp,∃o,s₂.heap.get? b=some o)
  (hD:s₂.heap.objs.size<=D) (hC:s₂.heap.objs.size<=C) (JE:D≠C) (hn:h₄.Ns C (λ_=>none)) (kp:∀b o,s₂.heap.get? b=some o->h₄.get? b=some o)
  (hl:h₄.get? D=some {cls:=.type "list",data:=.seq ([]:List Value).toArray 0}) (t':Nat):
  Inv (Hi X scope C N' s₂ H₂ fp) [] (qS ix σ) (upd H₂ D (.lst [])) {s₂ with heap:=h₄,toks:=t'}:=by
 have K7:H₂ D=none:=I.ba.fresh hD
 have Hj:H₂ C=none:=I.ba.fresh hC
 have ba:iy X.prog X.w (upd H₂ D (.lst [])) h₄:=I.ba.laid kp hD ⟨Nat.zero_le _,[],0,.nil,hl⟩
 refine⟨D4 I hf hk hC zP D5,rfl,I.bare,Un.laid kp hD K7,⟨_,hn,λi x v e1 e2 e3=>?_⟩,λx c e=>?_,?_,λx c e=>?_,λp hp=>absurd (show p ∈ ([]:List (Addr×Obj)) from hp) (by simp),ba,?_⟩
 ·have lL:=hx
  unfold uE at lL
  rw[Bool.and_eq_true] at lL
  have hlen:N'.length=ix.length:=by simpa using lL.1
  have hi:i < N'.length:=(List.getElem?_eq_some_iff.mp e1).1
  unfold qS at e2
  rw[List.getElem?_map] at e2
  cases q:ix[i]? with
  | none=>rw[q] at e2;cases e2
  | some o=>
   rw[q] at e2
   cases o with
   | none=>cases e2
   | some j=>
    have hz:(x,some j) ∈ N'.zip ix:=by
     refine List.mem_of_getElem? (i:=i) ?_
     rw[List.getElem?_zip_eq_some]
     exact⟨e1,q⟩
    have NO:=List.all_eq_true.mp lL.2 _ hz
    simp only[Bool.and_eq_true,beq_iff_eq] at NO
    obtain⟨Qf,AE⟩:=NO
    have JF:(σ[j]?).join=some v:=by simpa using e2
    have e4:σ[j]?=some (some v):=by
     cases z:σ[j]? with
     | none=>rw[z] at JF;cases JF
     | some y=>rw[z] at JF;exact congrArg some JF
    have AF:(x,NameKind.free) ∈ scope.names:=PySem.mem_of_lookup AE
    have r9:=(freeOk.at hf AF).2.1 rfl
    obtain⟨m,TK,hv⟩:=I.loc
    obtain⟨u,ru,lk⟩:=hv j x v Qf e4 (by rcases r9 with z | z;exact .inr (.inl z);exact .inr (.inr z))
    refine⟨u,ru,.inr ⟨?_,?_⟩⟩
    ·rcases e3 with z | z | z
     ·obtain⟨k',m',q'⟩:=cD (scope:=scope) (env:=X.env) (show(relabel scope X.env).names.lookup x=some .local from z)
      rcases q' with q' | ⟨q',_⟩
      ·subst q'
       have:=(freeOk.at hf m').2.2.1 rfl
       rw[AE] at this;cases this
      ·cases q'
     ·exact .inl z
     ·exact .inr z
    ·rcases lk with⟨l1,_⟩ | ⟨_,c,l2,l3⟩
     ·have l1:X.env.scope.names.lookup x=some .local:=l1
      rcases r9 with z | z
      ·rw[l1] at z;cases z
      ·rw[l1] at z;cases z
     ·obtain⟨c',e5⟩:=cP (kJ (env:=X.env) (cs:=[]) AF)
      have e6:=(gH I hf e5).1
      rw[l2] at e6
      have e7:c=c':=Option.some.inj e6
      subst e7
      exact⟨c,e5,l3.keeps kp⟩
 ·obtain⟨v,z⟩:=I.cell x c (gH I hf e).1
  exact⟨v,z.keeps kp⟩
 ·show upd H₂ D (.lst []) C=none
  rw[ay (Ne.symm JE)]
  exact Hj
 ·show upd H₂ D (.lst []) c=none
  have e':=(gH I hf e).1
  obtain⟨v,z⟩:=I.cell x c e'
  have:c≠D:=Nat.ne_of_lt (Nat.lt_of_lt_of_le z.lt hD)
  rw[ay this]
  exact I.eG x c e'
 ·rw[AD]
  have lL:=hx
  unfold uE at lL
  rw[Bool.and_eq_true] at lL
  have:N'.length=ix.length:=by simpa using lL.1
  exact this.symm
end
def kK (ix:List (Option Nat))(J:It)(g:TG)(tt:TT)(te:TE)(σ:St)(H1:Hp)(Q:VK)(D:Addr):Prop:=
 ∃W:Nat->Nat->Hp->Prop,(∃m,W 0 m (upd H1 D (.lst [])))/\∀i m H,W i m H->
  (J.stop i H/\Q (.ref D) H)\/(J.go i H/\∃N:Hp->Prop,(∀H',N H'->∃m',m' < m/\W (i + 1) m' H')/\∀x H',J.BH i H x H'->g x (qS ix σ) H' λσ2 H2=>Ext (qS ix σ) σ2/\tt σ2 H2 λb H3=>
   if b=true then te σ2 H3 λy H4=>∃ys,H4 D=some (.lst ys)/\ys.length < sizeLine/\N (upd H4 D (.lst (ys++[y]))) else N H3)
def FN (ix:List (Option Nat))(wi:TI)(g:TG)(tt:TT)(te:TE):TE:=λσ H Q=>wi σ H λJ H1=>∀D,H1 D=none->kK ix J g tt te σ H1 Q D
abbrev lR (X:Cx)(scope:Scope)(N':List Str)(F:Cx->Prop):Prop:=∀(C:Addr) (s₂:Shared) (H₂:Hp) (fp:List Addr),F (Hi X scope C N' s₂ H₂ fp)
section
variable {X:Cx}{elt target iter:Expr}{ifs:List Expr}{scope:Scope}{pos:Pos}{N':List Str}{ix:List (Option Nat)}{wi:TI}{g:TG}{tt:TT}{te:TE}
theorem oO {s₂:Shared}{it:Addr}{fp:List Addr}{tn:Nat->Heap->Prop}{J:It}{QD:Addr->Hp->Prop}{RR:Value->Addr->Result->Shared->Prop}{E:Value->Shared->Prop}
  (xh:X.calm=true) (hf:freeOk scope X.env.scope=true) (hk:scope.kind=.function) (hx:uE X.N N' ix scope=true)
  (hg:lR X scope N' λY=>PG Y target g) (ht:lR X scope N' λY=>FL Y ifs tt) (he:lR X scope N' λY=>PE Y elt te)
  (I:Inv X pins σ H₂ s₂) (T:Turn X.prog X.w X.K target J fp it tn) (st:tn 0 s₂.heap) (zP:∀b ∈ fp,i8 X pins H₂ b)
  (hw:∀D,H₂ D=none->∃W:Nat->Nat->Hp->Prop,(∃m,W 0 m (upd H₂ D (.lst [])))/\∀i m H,W i m H->
   (J.stop i H/\QD D H)\/(J.go i H/\∃N:Hp->Prop,(∀H',N H'->∃m',m' < m/\W (i + 1) m' H')/\∀x H',J.BH i H x H'->g x (qS ix σ) H' λσ2 H2=>Ext (qS ix σ) σ2/\tt σ2 H2 λb H3=>
    if b=true then te σ2 H3 λy H4=>∃ys,H4 D=some (.lst ys)/\ys.length < sizeLine/\N (upd H4 D (.lst (ys++[y]))) else N H3))
  (Qg:∀(D C:Addr) (s':Shared) (H':Hp) (m:Str->Option Value),s₂.heap.objs.size<=C->H' C=none->C ∉ oh X.stack->s'.heap.Ns C m->(∃o,s'.heap.get? C=some o/\∀v,o.data≠.cell v)->Inv X pins σ H' s'->QD D H'->RR (.ref D) C (.ok .next) s'):
  wpAny (model X.prog X.w) X.A (newList []) (λacc s₃=>wpAny (model X.prog X.w) X.A (newFunctionEnv scope X.env.globals (gU X.env scope.names []) [] X.env.qual none .none (some X.env)) (λHk s₄=>
   codeAny (model X.prog X.w) X.A (.compStart (.ListComp elt [⟨target,iter,ifs,0⟩] scope pos) 0 (.ref it) acc {Hk with scope:=relabel scope X.env}) (RR acc Hk.locals) s₄) E s₃) E s₂:=by
 refine wpAny_newObj_type (wpAny_newFunctionEnv (λx hx=>(freeOk.at hf hx).1) (by intro y hy;simp at hy) (λh₁ D6 AG=>?_) hk)
 dsimp only at D6 AG ⊢
 generalize K8:s₂.heap.push {cls:=.type "list",dict:=none,data:=.seq ([]:List Value).toArray}=P2 at D6 AG ⊢
 have NP:P2.objs.size=s₂.heap.objs.size + 1:=by rw[<-K8,Heap.size_push]
 have JE:s₂.heap.objs.size≠P2.objs.size:=by rw[NP];exact Nat.ne_of_lt (Nat.lt_succ_self _)
 have qT:s₂.heap.objs.size<=P2.objs.size:=by rw[NP];exact Nat.le_succ _
 have old:∀b o,s₂.heap.get? b=some o->h₁.get? b=some o:=λb o e=>AG.extBut b o (Nat.ne_of_lt (Nat.lt_of_lt_of_le (Heap.lt_size e) qT)) (Heap.get?_push_of_some _ (K8 ▸ Heap.get?_push_of_some _ e))
 have K9:h₁.get? s₂.heap.objs.size=some {cls:=.type "list",data:=.seq ([]:List Value).toArray 0}:=AG.extBut _ _ JE (Heap.get?_push_of_some _ (K8 ▸ Heap.get?_push_size _ rfl))
 have D5:∀b ∈ fp,∃o,s₂.heap.get? b=some o:=λb hb=>let ⟨o,e,_⟩:=T.obj _ _ st b hb;⟨o,e⟩
 have La:s₂.heap.get? P2.objs.size=none:=Heap.get?_none_of_le qT
 have K7:H₂ s₂.heap.objs.size=none:=I.ba.fresh (Nat.le_refl _)
 obtain⟨W,⟨m0,w0⟩,turn⟩:=hw s₂.heap.objs.size K7
 have Qh:∀b ∈ fp,b≠s₂.heap.objs.size:=λb hb=>let ⟨o,e⟩:=D5 b hb;Nat.ne_of_lt (Heap.lt_size e)
 have Qi:∀b ∈ fp,b≠P2.objs.size:=λb hb=>let ⟨o,e⟩:=D5 b hb;Nat.ne_of_lt (Nat.lt_of_lt_of_le (Heap.lt_size e) qT)
 let Y:=Hi X scope P2.objs.size N' s₂ H₂ fp
 have NQ:Y.calm=true:=xh
 have I0:Inv Y [] (qS ix σ) (upd H₂ s₂.heap.objs.size (.lst [])) {s₂ with heap:=h₁,toks:=s₂.toks + ([]:List (Str×Value)).length}:=
  K6 I hf hk hx zP D5 (Nat.le_refl _) qT JE (by simpa using D6) old K9 _
 have Df:P2.objs.size ∉ oh X.stack:=λz=>by
  rcases List.mem_cons.mp (I.m3 _ z) with e | e
  ·exact absurd I.lt (by rw[<-e];exact Nat.not_lt.mpr qT)
  ·exact I.Dg qT e
 have qt:∀{H':Hp},(∀b ∈ fp,H' b=none)->∀b ∈ fp,i8 Y [] H' b:=λhn b hb=>by
  obtain⟨f0,f1,f2,f3,f4,f5⟩:=zP b hb
  refine⟨hn b hb,Qi b hb,I0.ok.qk b hb,.inl hb,(I0.ok.GC b hb).2,λp hp=>absurd (show p ∈ ([]:List (Addr×Obj)) from hp) (by simp)⟩
 have Hl:tn 0 h₁:=T.keep _ _ _ st λb _ o e=>old b o e
 have loop:∀s₃:Shared,s₃={s₂ with heap:=h₁,toks:=s₂.toks + ([]:List (Str×Value)).length}->
   codeAny (model X.prog X.w) X.A (.compLoop (.ListComp elt [⟨target,iter,ifs,0⟩] scope pos) 0 (.ref it) (.ref s₂.heap.objs.size) (compEnvC scope (gU X.env scope.names []) P2.objs.size X.env))
    (RR (.ref s₂.heap.objs.size) P2.objs.size) s₃:=by
  rintro s₃ rfl
  refine nv (λn s'=>∃i H',Inv Y [] (qS ix σ) H' s'/\tn i s'.heap/\(∀b ∈ fp,H' b=none)/\W i n H') ?_ m0 ⟨0,_,I0,Hl,λb hb=>by rw[ay (Qh b hb)];exact(zP b hb).1,w0⟩
  rintro n s3 ⟨i,H3,I3,iZ,GI,w3⟩
  rcases turn i n H3 w3 with⟨stop,qn⟩ | ⟨go,Nn,NR,step⟩
  ·refine bU (T.done Y rfl rfl rfl NQ i [] s3 _ H3 _ I3 (qt GI) iZ stop) λr s4 ⟨hr,I4⟩=>?_
   subst hr
   obtain⟨m,hn,_⟩:=I4.loc
   refine Qg _ _ s4 H3 m qT I4.free Df hn ?_ ?_ qn
   ·obtain⟨o,es,ep,ho,hd,_⟩:=hn
    exact⟨o,ho,λv z=>by rw[hd] at z;cases z⟩
   ·refine I.BC (s':=s4) (ch:=fp) I4.os ?_ I4.ba I4.bare λb hb=>?_
    ·exact I4.base
    ·obtain⟨f0,f1,f2,f3,f4,f5⟩:=zP b hb
     exact⟨f3,f1,f4,f5⟩
  ·refine bU (T.item Y rfl rfl rfl NQ i [] s3 _ H3 _ I3 (qt GI) iZ go) λr s4 ⟨u,hr,h4⟩=>?_
   subst hr
   refine bU h4 λ_ s5 ⟨x,H5,I5,r5,y5,gL,Kx⟩=>?_
   have Ky:=I5.pinned (qt Kx) (T.obj _ _ gL)
   refine bU (hg _ _ _ _ _ s5 _ H5 x u _ Ky r5 (step x H5 y5)) λ_ s6 ⟨σ6,H6,I6,ext,q6⟩=>?_
   refine bU (ht _ _ _ _ _ s6 σ6 H6 _ I6 q6) λok s7 ⟨H7,I7,q7⟩=>?_
   have again:∀{s8:Shared} {H8:Hp} {m':Nat},Inv Y ([]++i9 fp s5.heap) σ6 H8 s8->m' < n->W (i + 1) m' H8->∃m,m < n/\∃i H',Inv Y [] (qS ix σ) H' s8/\tn i s8.heap/\(∀b ∈ fp,H' b=none)/\W i m H':=λ{s8 H8 m'} I8 hm w8=>by
    refine⟨m',hm,i + 1,H8,(I8.f9).less ext.1.symm ext.2,T.keep _ _ _ gL λb hb o e=>(I8.pin (b,o) (List.mem_append_right _ (List.mem_append_right _ (fJ hb e)))).1,λb hb=>?_,w8⟩
    obtain⟨o,e,d⟩:=T.obj _ _ gL b hb
    exact(I8.pin (b,o) (List.mem_append_right _ (List.mem_append_right _ (fJ hb e)))).2.1
   cases ok with
   | false=>
    rw[if_neg Bool.false_ne_true] at q7 ⊢
    obtain⟨m',hm,w8⟩:=NR _ q7
    exact again I7 hm w8
   | true=>
    rw[if_pos rfl] at q7 ⊢
    refine bU (he _ _ _ _ _ s7 σ6 H7 _ I7 q7) λy s8 ⟨yv,H8,I8,ry,ys,hD,hz,w9⟩=>?_
    have ap:=(mB (X:=Y)) (pins:=[]++i9 fp s5.heap) s8 σ6 H8 (.ref s₂.heap.objs.size) [yv] (.ref s₂.heap.objs.size) [y] (λ_ H9=>Nn H9) I8 rfl (.cons ry .nil)
     ⟨_,ys,yv,rfl,rfl,hD,hz,w9⟩
    exact bU ap λ_ s9 ⟨_,H9,I9,_,zQ⟩=>let ⟨m',hm,Qj⟩:=NR _ zQ;again I9 hm Qj
 exact codeAny_compStart_list (loop _ rfl) (T.self _ 0 _ _ _ Hl (loop _ rfl))
theorem Inv.Lb{s s₂:Shared}{C:Addr}{h':Heap}(I₂:Inv X pins σ H₂ s₂)(I:Inv X pins σ H s)(JG:s₂.heap.objs.size<=C)(hC:H C=none)(hs:Heap.SameBut C s.heap h'):Inv X pins σ H {s with heap:=h'}:=by
 refine I.turned (t':=s.toks) (λb o hb e=>(hs.2 b hb).trans e) hC (Nat.ne_of_gt (Nat.lt_of_lt_of_le I₂.lt JG)) (.inr (Nat.le_trans I₂.sz JG)) (λx c e z=>?_) λp hp z=>?_
 ·obtain⟨v,q⟩:=I₂.cell x c e
  exact absurd (Nat.lt_of_lt_of_le q.lt (by rw[z];exact JG)) (Nat.lt_irrefl _)
 ·exact absurd (Nat.lt_of_lt_of_le (Heap.lt_size (I₂.pin p hp).1) (by rw[z];exact JG)) (Nat.lt_irrefl _)
theorem jX
  (hi:PI X target iter wi) (hg:lR X scope N' λY=>PG Y target g) (ht:lR X scope N' λY=>FL Y ifs tt) (he:lR X scope N' λY=>PE Y elt te)
  (xh:X.calm=true:=by rfl) (hf:freeOk scope X.env.scope=true:=by kernel_rfl) (hk:scope.kind=.function:=by rfl) (hx:uE X.N N' ix scope=true:=by kernel_rfl) (hs:∀x,foldedSetIterable iter X.env x=pure x:=by intro _;rfl):PE X (.ListComp elt [⟨target,iter,ifs,0⟩] scope pos) (FN ix wi g tt te):=by
 walk_at "xc"
 rw[eval_ListComp]
 have Lc:∀x ∈ scope.names,x.2=.free->∃c,X.env.cells.lookup x.1=some c:=λx hx he=>I.ok.has x.1 ((freeOk.at hf hx).2.1 he)
 refine wpAny_comprehension_free (use:=none) rfl hs (gP Lc) hk (λx hx he=>(freeOk.at hf hx).2.2.1 he) (wpAny_mono (hi pins s σ H _ I h) (λxv s₁ h₁=>wpAny_mono h₁ (λJt s₂ h₂=>?_) λ_ _ e=>e) λ_ _ e=>e)
 obtain⟨it,fp,tn,J,H2,e,I2,T,rV,f2,hw⟩:=h₂
 subst e
 refine oO (RR:=λacc C=>compPost (model X.prog X.w) X.A X.xe none (EP X pins σ Q) acc C) (QD:=λD H'=>Q (.ref D) H') xh hf hk hx hg ht he I2 T rV f2 hw ?_
 intro D C s' H' m hC Hj AE hn ho I' q
 exact⟨m,hn,λh' Ld=>⟨.ref D,H',I2.Lb I' hC Hj Ld,rfl,q⟩⟩
theorem cY {i:Nat}{y:Str}{py Hm:Pos}(hN:X.N.Nodup)(Qk:X.N[i]?=some y)(hy:Loc X.env.scope y)
  (hi:PI X target iter wi) (hg:lR X scope N' λY=>PG Y target g) (ht:lR X scope N' λY=>FL Y ifs tt) (he:lR X scope N' λY=>PE Y elt te)
  (Ql:swapsWith (.ListComp elt [⟨target,iter,ifs,0⟩] scope pos) (some (.Name y py)) Hm.line X.env=pure true:=by rfl)
  (xh:X.calm=true:=by rfl) (hf:freeOk scope X.env.scope=true:=by kernel_rfl) (hk:scope.kind=.function:=by rfl) (hx:uE X.N N' ix scope=true:=by kernel_rfl) (hs:∀x,foldedSetIterable iter X.env x=pure x:=by intro _;rfl) (GG:X.fn y=true\/X.env.scope.names.lookup y=some .local:=by first | exact .inl rfl | exact .inr rfl | assumption):
  PS X (.Assign [.Name y py] (.ListComp elt [⟨target,iter,ifs,0⟩] scope pos) Hm) (qm (FN ix wi g tt te) (eH i)):=by
 walk_at "xd"
 rw[exec_Assign_Name_used _ _ _ _ Ql]
 refine wpAny_bind (wpAny_standAt (wpAny_bind ?_))
 show wpAny _ X.A (do let _ <-comprehension (.ListComp elt [⟨target,iter,ifs,0⟩] scope pos) scope X.env _ (newList []) false (eval iter X.env) (some (assign (.Name y py) X.env))) _ _ s
 have Lc:∀x ∈ scope.names,x.2=.free->∃c,X.env.cells.lookup x.1=some c:=λx hx he=>I.ok.has x.1 ((freeOk.at hf hx).2.1 he)
 refine wpAny_bind (wpAny_mono (wpAny_comprehension_free (use:=some (assign (.Name y py) X.env)) (Q:=λ_ s'=>SP X pins D .next s') rfl hs (gP Lc) hk (λx hx he=>(freeOk.at hf hx).2.2.1 he)
  (wpAny_mono (hi pins s σ H _ I h) (λxv s₁ h₁=>wpAny_mono h₁ (λJt s₂ h₂=>?_) λ_ _ e=>e) λ_ _ e=>e)) (λ_ s' hq=>wpAny_pure (wpAny_pure hq)) λ_ _ e=>e)
 obtain⟨it,fp,tn,J,H2,e,I2,T,rV,f2,hw⟩:=h₂
 subst e
 refine oO (RR:=λacc C=>compPost (model X.prog X.w) X.A X.xe (some (assign (.Name y py) X.env)) (λ_ s'=>SP X pins D .next s') acc C) (QD:=λD' H'=>D.nx (σ.set i (some (.ref D'))) H') xh hf hk hx hg ht he I2 T rV f2 hw ?_
 intro D' C s' H' m hC Hj AE hn ho I' q
 obtain⟨o,ho,Jr⟩:=ho
 show wpAny _ X.A (assign (.Name y py) X.env (.ref D')) _ _ s'
 have NS:C≠X.env.locals:=Nat.ne_of_gt (Nat.lt_of_lt_of_le I2.lt hC)
 have Qm:C ∉ X.fs:=I2.Dg hC
 have Qn:Inv X (pins++[(C,o)]) σ H' s':=I'.m7 λp hp=>(List.mem_append.mp hp).elim (λz=>I'.pin p (List.mem_append_right _ z)) λz=>by
  have z':p=(C,o):=by simpa using z
  subst z'
  exact⟨ho,Hj,NS,Qm,Jr⟩
 refine wpAny_assign_Name (fY Qn hN Qk hy (v:=.ref D') rfl (λs3 I3=>?_) GG)
 obtain⟨e3,n3,_⟩:=I3.pin (C,o) (List.mem_append_right _ (List.mem_append_right _ (by simp)))
 obtain⟨o',es,ep,kC,r'⟩:=hn
 rw[ho] at kC;cases kC
 have Qo:Inv X pins (σ.set i (some (.ref D'))) H' s3:=I3.f9
 refine⟨m,⟨o,es,ep,e3,r'⟩,λh' Ld=>⟨_,H',?_,q⟩⟩
 refine Qo.turned (t':=s3.toks) (λb o hb e=>(Ld.2 b hb).trans e) n3 NS (.inr (Nat.le_trans I2.sz hC)) (λx c e z=>?_) λp hp z=>?_
 ·obtain⟨v,q⟩:=I2.cell x c e
  exact absurd (Nat.lt_of_lt_of_le q.lt (by rw[z];exact hC)) (Nat.lt_irrefl _)
 ·exact absurd (Nat.lt_of_lt_of_le (Heap.lt_size (I2.pin p hp).1) (by rw[z];exact hC)) (Nat.lt_irrefl _)
end
def JH (Pv:Nat->List V->Hp->Prop)(D:Addr)(i:Nat)(H:Hp):Prop:=∃zs,H D=some (.lst zs)/\zs.length<=i + 1/\Pv (i + 1) zs H
theorem cH {Pv:Nat->List V->Hp->Prop}{D:Addr}{i n:Nat}{ys:List V}{y:V}(hD:H D=some (.lst ys))(hl:ys.length<=i)(hi:i < n)(hn:n<=sizeLine)(h:Pv (i + 1) (ys++[y]) (upd H D (.lst (ys++[y])))):
  ∃zs,H D=some (.lst zs)/\zs.length < sizeLine/\JH Pv D i (upd H D (.lst (zs++[y]))):=
 ⟨ys,hD,by omega,ys++[y],ag,by rw[List.length_append,List.length_singleton];omega,h⟩
theorem bI {ix:List (Option Nat)}{J:It}{n:Nat}{g:TG}{tt:TT}{te:TE}{H1:Hp}{Q:VK}{D:Addr}(Pv:Nat->List V->Hp->Prop)(hn:n<=sizeLine)(h0:Pv 0 [] (upd H1 D (.lst [])))
  (Qp:∀i ys H,i < n->Pv i ys H->J.go i H) (Ho:∀ys H,Pv n ys H->J.stop n H)
  (hs:∀i ys H,i < n->H D=some (.lst ys)->ys.length<=i->Pv i ys H->∀x H',J.BH i H x H'->g x (qS ix σ) H' λσ2 H2=>Ext (qS ix σ) σ2/\tt σ2 H2 λb H3=>
   if b=true then te σ2 H3 λy H4=>∃zs,H4 D=some (.lst zs)/\zs.length < sizeLine/\JH Pv D i (upd H4 D (.lst (zs++[y]))) else JH Pv D i H3)
  (hd:∀ys H,H D=some (.lst ys)->ys.length<=n->Pv n ys H->Q (.ref D) H):
  kK ix J g tt te σ H1 Q D:=by
 refine⟨λi m H=>m=n - i/\i<=n/\∃ys,H D=some (.lst ys)/\ys.length<=i/\Pv i ys H,⟨n,by simp,Nat.zero_le _,[],ag,Nat.le_refl _,h0⟩,?_⟩
 rintro i m H ⟨rfl,hi,ys,hD,hl,p⟩
 by_cases rW:i < n
 ·exact .inr ⟨Qp i ys H rW p,JH Pv D i,λH' ⟨zs,a,b,c⟩=>⟨n - (i + 1),by omega,rfl,rW,zs,a,b,c⟩,λx H' y=>hs i ys H rW hD hl p x H' y⟩
 ·have e:i=n:=by omega
  subst e
  exact .inl ⟨Ho ys H p,hd ys H hD hl p⟩
end
section
section
variable {X:Cx}
def oP (i j:Int):Prop:=0 < j/\j.natAbs.log2 < 9000
theorem xi:dS X (binaryOp .FloorDiv) (rI oP λi j=>.int (i / j)):=Jv λi j _ _ _ _ _ hc q=>by
 have h1:(0:Int) < j:=hc.1
 exact floordiv_int (by omega) (by rw[Int.fdiv_eq_ediv_of_nonneg i (by omega)];exact q) (.inl (PyProof.noPylong_of_log2 hc.2))
def D7:R2:=λx y H Q=>match x,y with
 | .int i,.int j=>Q (.int (i + j)) H
 | .str i,.str j=>i.length + j.length<=sizeLine/\Q (.str (i++j)) H
 | .ref a,.ref b=>∃xs zs,H a=some (.lst xs)/\H b=some (.lst zs)/\xs.length + zs.length<=sizeLine/\∀p,H p=none->Q (.ref p) (upd H p (.lst (xs++zs)))
 | _,_=>False
def uI (C:Int->Int->Prop)(g:Int->Int->V):R2:=λx y H Q=>match x,y with
 | .int i,.int j=>C i j/\Q (g i j) H
 | _,_=>False
def BW (g:Int->Int->V):R2:=λx y H Q=>match x,y with
 | .int i,.int j=>Q (g i j) H
 | _,_=>False
theorem JI {f:Value->Value->Sem Value}{C:Int->Int->Prop}{g:Int->Int->V}(h:dS X f (rI C g)):dS X f (uI C g):=by
 intro pins s σ H x y v u Q I rx ry q
 cases x <;> cases y <;> first
  | exact(show False from q).elim
  | exact h pins s σ H _ _ v u Q I rx ry ⟨_,_,rfl,rfl,q.1,q.2⟩
theorem xj {f:Value->Value->Sem Value}{g:Int->Int->V}(h:dS X f (Ah g)):dS X f (BW g):=by
 intro pins s σ H x y v u Q I rx ry q
 cases x <;> cases y <;> first
  | exact(show False from q).elim
  | exact h pins s σ H _ _ v u Q I rx ry ⟨_,_,rfl,rfl,q⟩
theorem cB:dS X (binaryOp .Sub) (BW λi j=>.int (i - j)):=xj Dx
theorem ku:dS X (binaryOp .Mult) (uI wG λi j=>.int (i * j)):=JI Dy
theorem bt:dS X (binaryOp .Mod) (uI (λ_ j=>0 < j) λi j=>.int (i % j)):=JI Dz
theorem bZ:dS X (binaryOp .FloorDiv) (uI oP λi j=>.int (i / j)):=JI xi
theorem dD:dS X (binaryOp .Pow) (uI qu λi j=>.int (i ^ j.toNat)):=JI DA
theorem gd:dS X (compareOp .Lt) (BW λi j=>.bl (decide (i < j))):=xj GN
theorem qU:dS X (compareOp .LtE) (BW λi j=>.bl (decide (i<=j))):=xj GO
theorem D8:dS X (compareOp .Gt) (BW λi j=>.bl (decide (j < i))):=xj GP
theorem D9:dS X (compareOp .GtE) (BW λi j=>.bl (decide (j<=i))):=xj GQ
def kL (K:W.Frag)(H:Hp):Nat->V->V->Prop
 | 0,_,_=>False
 | n + 1,x,y=>(x=y/\dk x=true)\/∃a b xs ys,x=.ref a/\y=.ref b/\((bM K H a xs/\bM K H b ys)\/(aX K H a xs/\aX K H b ys))/\xs.length=ys.length/\∀(i:Nat) u v,xs[i]?=some u->ys[i]?=some v->kL K H n u v
theorem in1_units (A:Around):A.in1.units=A.units + 1:=rfl
theorem iK {pins:List (Addr×Obj)}{σ:St}{H:Hp}{s:Shared}(I:Inv X pins σ H s):∀(n:Nat) (A:Around) {x y:V} {u v:Value},kL X.K H n x y->A.units + n < cLine->RelV x u->RelV y v->SeqAt.EqAt A s u v true
 | 0,_,_,_,_,_,h,_,_,_=>h.elim
 | n + 1,A,x,y,u,v,h,hu,rx,ry=>by
  rcases h with⟨e,f⟩ | ⟨a,b,xs,ys,ex,ey,hq,hl,hi⟩
  ·subst e
   have q:=qL (A:=A) (s:=s) rx ry f f
   have e2:qK x x=true:=by cases x <;> first | rfl | exact absurd (show false=true from f) Bool.false_ne_true | simp[qK]
   rw[e2] at q
   exact q
  ·subst ex ey
   cases rx
   cases ry
   by_cases Le:a=b
   ·subst Le;exact SeqAt.EqAt.same _
   rcases hq with⟨h1,h2⟩ | ⟨h1,h2⟩
   ·obtain⟨aE,r1,p1,z1⟩:=I.tuple h1
    obtain⟨bh,r2,p2,z2⟩:=I.tuple h2
    have l1:=r1.length
    have l2:=r2.length
    have sz:aE.toArray.size=bh.toArray.size:=by simp;omega
    have key:=SeqAt.RcAt.tuples (A:=A) (e:=λ_=>true) (show s.heap.IsTuple a aE.toArray from p1) (show s.heap.IsTuple b bh.toArray from p2) (by omega) λj uF uG=>by
     have j8:j < aE.length:=by simpa using uF
     have j9:j < bh.length:=by simpa using uG
     obtain⟨u',e1,ru⟩:=r1.get (i:=j) (x:=xs[j]'(by omega)) (by simp)
     obtain⟨v',e2,rv⟩:=r2.get (i:=j) (x:=ys[j]'(by omega)) (by simp)
     have f1:aE.toArray[j]=u':=by
      have:=dI j8
      rw[this] at e1
      simpa using Option.some.inj e1
     have f2:bh.toArray[j]=v':=by
      have:=dI j9
      rw[this] at e2
      simpa using Option.some.inj e2
     rw[f1,f2]
     exact iK I n A.in1 (hi j _ _ (by simp) (by simp)) (by rw[in1_units];omega) ru rv
    have Ea:SeqAt.RcAt A s (.ref a) (.ref b) true:=by
     have:((List.range (min aE.toArray.size bh.toArray.size)).all (λ_=>true) && aE.toArray.size == bh.toArray.size)=true:=by
      rw[sz];simp
     rw[this] at key
     exact key
    exact SeqAt.EqAt.of_refs Le Ea
   ·obtain⟨aE,r1,p1,z1⟩:=I.list h1
    obtain⟨bh,r2,p2,z2⟩:=I.list h2
    have l1:=r1.length
    have l2:=r2.length
    have sz:aE.toArray.size=bh.toArray.size:=by simp;omega
    have key:=SeqAt.RcAt.lists (A:=A) (e:=λ_=>true) p1.isList p2.isList sz (by omega) λj uF uG=>by
     have j8:j < aE.length:=by simpa using uF
     have j9:j < bh.length:=by simpa using uG
     obtain⟨u',e1,ru⟩:=r1.get (i:=j) (x:=xs[j]'(by omega)) (by simp)
     obtain⟨v',e2,rv⟩:=r2.get (i:=j) (x:=ys[j]'(by omega)) (by simp)
     have f1:aE.toArray[j]=u':=by
      have:=dI j8
      rw[this] at e1
      simpa using Option.some.inj e1
     have f2:bh.toArray[j]=v':=by
      have:=dI j9
      rw[this] at e2
      simpa using Option.some.inj e2
     rw[f1,f2]
     exact iK I n A.in1 (hi j _ _ (by simp) (by simp)) (by rw[in1_units];omega) ru rv
    have Ea:SeqAt.RcAt A s (.ref a) (.ref b) true:=by
     have:((List.range aE.toArray.size).all (λ_=>true))=true:=by simp
     rw[this] at key
     exact key
    exact SeqAt.EqAt.of_refs Le Ea
end
end
section
variable {pins:List (Addr×Obj)}{σ:St}
section
variable {X:Cx}
theorem xk {H:Hp}{s:Shared}(I:Inv X pins σ H s){A:Around}{n:Nat}{a b:Addr}(h:kL X.K H (n + 1) (.ref a) (.ref b))(hu:A.units + n + 1 < cLine):
  SeqAt.RcAt A s (.ref a) (.ref b) true/\SeqAt.RcNeAt A s (.ref a) (.ref b) false:=by
 rcases h with⟨e,f⟩ | ⟨a',b',xs,ys,ex,ey,hq,hl,hi⟩
 ·exact absurd (show false=true from f) Bool.false_ne_true
 ·cases ex
  cases ey
  rcases hq with⟨h1,h2⟩ | ⟨h1,h2⟩
  ·obtain⟨aE,r1,p1,z1⟩:=I.tuple h1
   obtain⟨bh,r2,p2,z2⟩:=I.tuple h2
   have l1:=r1.length
   have l2:=r2.length
   have sz:aE.toArray.size=bh.toArray.size:=by simp;omega
   have items:∀j (h1:j < aE.toArray.size) (h2:j < bh.toArray.size),SeqAt.EqAt A.in1 s aE.toArray[j] bh.toArray[j] ((λ_=>true) j):=λj uF uG=>by
    have j8:j < aE.length:=by simpa using uF
    have j9:j < bh.length:=by simpa using uG
    obtain⟨u',e1,ru⟩:=r1.get (i:=j) (x:=xs[j]'(by omega)) (by simp)
    obtain⟨v',e2,rv⟩:=r2.get (i:=j) (x:=ys[j]'(by omega)) (by simp)
    have f1:aE.toArray[j]=u':=by
     have:=dI j8
     rw[this] at e1
     simpa using Option.some.inj e1
    have f2:bh.toArray[j]=v':=by
     have:=dI j9
     rw[this] at e2
     simpa using Option.some.inj e2
    rw[f1,f2]
    exact iK I n A.in1 (hi j _ _ (by simp) (by simp)) (by rw[in1_units];omega) ru rv
   have e:((List.range (min aE.toArray.size bh.toArray.size)).all (λ_=>true) && aE.toArray.size == bh.toArray.size)=true:=by
    rw[sz];simp
   have k1:=SeqAt.RcAt.tuples (A:=A) (show s.heap.IsTuple a aE.toArray from p1) (show s.heap.IsTuple b bh.toArray from p2) (by omega) items
   have k2:=SeqAt.RcNeAt.tuples (A:=A) (show s.heap.IsTuple a aE.toArray from p1) (show s.heap.IsTuple b bh.toArray from p2) (by omega) items
   rw[e] at k1 k2
   exact⟨k1,k2⟩
  ·obtain⟨aE,r1,p1,z1⟩:=I.list h1
   obtain⟨bh,r2,p2,z2⟩:=I.list h2
   have l1:=r1.length
   have l2:=r2.length
   have sz:aE.toArray.size=bh.toArray.size:=by simp;omega
   have items:∀j (h1:j < aE.toArray.size) (h2:j < bh.toArray.size),SeqAt.EqAt A.in1 s aE.toArray[j] bh.toArray[j] ((λ_=>true) j):=λj uF uG=>by
    have j8:j < aE.length:=by simpa using uF
    have j9:j < bh.length:=by simpa using uG
    obtain⟨u',e1,ru⟩:=r1.get (i:=j) (x:=xs[j]'(by omega)) (by simp)
    obtain⟨v',e2,rv⟩:=r2.get (i:=j) (x:=ys[j]'(by omega)) (by simp)
    have f1:aE.toArray[j]=u':=by
     have:=dI j8
     rw[this] at e1
     simpa using Option.some.inj e1
    have f2:bh.toArray[j]=v':=by
     have:=dI j9
     rw[this] at e2
     simpa using Option.some.inj e2
    rw[f1,f2]
    exact iK I n A.in1 (hi j _ _ (by simp) (by simp)) (by rw[in1_units];omega) ru rv
   have e:(List.range aE.toArray.size).all (λ_=>true)=true:=by simp
   have k1:=SeqAt.RcAt.lists (A:=A) p1.isList p2.isList sz (by omega) items
   have k2:=SeqAt.RcNeAt.lists (A:=A) p1.isList p2.isList sz (by omega) items
   rw[e] at k1 k2
   exact⟨k1,k2⟩
def oQ (K:W.Frag)(H:Hp)(a b:Addr):Prop:=∃xs ys,xs.length≠ys.length/\((aX K H a xs/\aX K H b ys)\/(bM K H a xs/\bM K H b ys/\(xs=[]\/ys=[])))
theorem sr {H:Hp}{s:Shared}(I:Inv X pins σ H s){A:Around}{a b:Addr}(h:oQ X.K H a b)(hu:A.units < cLine):
  SeqAt.RcAt A s (.ref a) (.ref b) false/\SeqAt.RcNeAt A s (.ref a) (.ref b) true:=by
 obtain⟨xs,ys,kM,⟨h1,h2⟩ | ⟨h1,h2,h3⟩⟩:=h
 ·obtain⟨aE,r1,p1,z1⟩:=I.list h1
  obtain⟨bh,r2,p2,z2⟩:=I.list h2
  have l1:=r1.length
  have l2:=r2.length
  have hb:(aE.toArray.size != bh.toArray.size)=true:=by simp;omega
  exact⟨SeqAt.RcAt.lists_lengths p1.isList p2.isList hb hu,SeqAt.RcNeAt.lists_lengths p1.isList p2.isList hb hu⟩
 ·obtain⟨aE,r1,p1,z1⟩:=I.tuple h1
  obtain⟨bh,r2,p2,z2⟩:=I.tuple h2
  have l1:=r1.length
  have l2:=r2.length
  have items:∀j (h1:j < aE.toArray.size) (h2:j < bh.toArray.size),SeqAt.EqAt A.in1 s aE.toArray[j] bh.toArray[j] ((λ_=>true) j):=λj uF uG=>by
   exfalso
   have j8:j < aE.length:=by simpa using uF
   have j9:j < bh.length:=by simpa using uG
   rcases h3 with e | e
   ·subst e;simp at l1;omega
   ·subst e;simp at l2;omega
  have e:((List.range (min aE.toArray.size bh.toArray.size)).all (λ_=>true) && aE.toArray.size == bh.toArray.size)=false:=by
   have:aE.toArray.size≠bh.toArray.size:=by simp;omega
   rw[Bool.and_eq_false_iff]
   exact .inr (beq_eq_false_iff_ne.mpr this)
  have k1:=SeqAt.RcAt.tuples (A:=A) (show s.heap.IsTuple a aE.toArray from p1) (show s.heap.IsTuple b bh.toArray from p2) hu items
  have k2:=SeqAt.RcNeAt.tuples (A:=A) (show s.heap.IsTuple a aE.toArray from p1) (show s.heap.IsTuple b bh.toArray from p2) hu items
  rw[e] at k1 k2
  exact⟨k1,k2⟩
def Hq (K:W.Frag):R2:=λx y H Q=>match x,y with
 | .ref a,.ref b=>(kL K H 20 (.ref a) (.ref b)/\Q (.bl true) H)\/(oQ K H a b/\Q (.bl false) H)
 | x,y=>Aj x y=true/\Q (.bl (decide (x=y))) H
def JJ (K:W.Frag):R2:=λx y H Q=>match x,y with
 | .ref a,.ref b=>(kL K H 20 (.ref a) (.ref b)/\Q (.bl false) H)\/(oQ K H a b/\Q (.bl true) H)
 | x,y=>Aj x y=true/\Q (.bl (!decide (x=y))) H
theorem bG (hu:X.A.units + 64 < cLine):dS X (compareOp .Eq) (Hq X.K):=by
  intro pins s σ H x y v u Q I rx ry h
  cases x <;> cases y <;> first
    | exact GK pins s σ H _ _ v u Q I rx ry h
    | (cases rx;cases ry
       rcases h with⟨h1,q⟩ | ⟨h1,q⟩
       · exact(xk I (A:=X.A) h1 (by omega)).1 X.prog X.w X.xe _ ⟨.bl true,H,I,rfl,q⟩
       · exact(sr I (A:=X.A) h1 (by omega)).1 X.prog X.w X.xe _ ⟨.bl false,H,I,rfl,q⟩)
theorem jd (hu:X.A.units + 64 < cLine):dS X (compareOp .NotEq) (JJ X.K):=by
  intro pins s σ H x y v u Q I rx ry h
  cases x <;> cases y <;> first
    | exact GL pins s σ H _ _ v u Q I rx ry h
    | (cases rx;cases ry
       rcases h with⟨h1,q⟩ | ⟨h1,q⟩
       · exact(xk I (A:=X.A) h1 (by omega)).2 X.prog X.w X.xe _ ⟨.bl false,H,I,rfl,q⟩
       · exact(sr I (A:=X.A) h1 (by omega)).2 X.prog X.w X.xe _ ⟨.bl true,H,I,rfl,q⟩)
def JK (g:Bool->Bool):R2:=λx y H Q=>match x,y with
 | .bl c,.bl d=>Q (.bl (g (c == d))) H
 | x,.bb=>Q (.bl (g (decide (x=.bb)))) H
 | _,_=>False
theorem Eb:dS X (compareOp .Is) (JK id):=by
 intro pins s σ H x y v u Q I rx ry h
 cases x <;> cases y <;> first
  | exact(show False from h).elim
  | exact DB pins s σ H _ _ v u Q I rx ry ⟨rfl,h⟩
  | (cases rx;cases ry;exact is_bool ⟨.bl _,H,I,rfl,h⟩)
def NT (K:W.Frag)(neg:Bool):R2:=λx y H Q=>match y with
 | .ref p=>∃xs,(aX K H p xs\/bM K H p xs)/\dk x=true/\xs.all dk=true/\Q (.bl (if neg then !qh x xs else qh x xs)) H
 | _=>False
theorem xl:dS X (compareOp .In) (NT X.K false):=by
 intro pins s σ H x y v u Q I rx ry h
 cases y <;> first
  | exact(show False from h).elim
  | (obtain⟨xs,h1,h2,h3,h4⟩:=h;exact uz pins s σ H _ _ v u Q I rx ry ⟨_,xs,rfl,h1,h2,h3,h4⟩)
def Lf (K:W.Frag):List V->Hp->VK->Prop:=λxs H Q=>match xs with
 | [x,.ty n]=>∃t b,dm K H x t/\W.kitOne K t (.type n)=some b/\Q (.bl b) H
 | _=>False
def AH (K:W.Frag)(tl:TE):TI:=λσ H R=>tl σ H λx H1=>match x with
 | .ref a=>((∃xs,aX K H1 a xs)/\R (ud K a) H1)\/((∃xs,bM K H1 a xs)/\R (Kw K a) H1)
 | _=>False
theorem cZ {tg l:Expr}{tl:TE}(hl:PE X l tl):PI X tg l (AH X.K tl):=by
  refine⟨?_⟩
  intro pins s σ H R I h
  refine bU (hl pins s σ H _ I h) λv s1 ⟨x,H1,I1,r1,q1⟩=>?_
  cases x <;> first
    | exact(show False from q1).elim
    | (rename_i a;cases r1
       rcases q1 with⟨⟨xs,hq⟩,q⟩ | ⟨⟨xs,hq⟩,q⟩
       · obtain⟨aE,rv,p,hz⟩:=I1.list hq
         refine wpAny_pyIter_list p.isList ?_
         refine⟨s1.heap.objs.size,[s1.heap.objs.size],_,_,H1,rfl,I1.kept (t':=s1.toks) λb o e=>Heap.get?_push_of_some _ e,uf a _,⟨_,Heap.get?_push_size _ rfl,rfl,rfl⟩,λb hb=>?_,q⟩
         have e:b=s1.heap.objs.size:=by simpa using hb
         subst e
         exact I1.wA (Nat.le_refl _) (I1.ba.fresh (Nat.le_refl _))
       · obtain⟨aE,rv,p,hz⟩:=I1.tuple hq
         refine wpAny_pyIter_tuple (show s1.heap.IsTuple a aE.toArray from p) ?_
         refine⟨s1.heap.objs.size,[s1.heap.objs.size],_,_,H1,rfl,I1.kept (t':=s1.toks) λb o e=>Heap.get?_push_of_some _ e,qp a _,⟨_,Heap.get?_push_size _ rfl,rfl,rfl⟩,λb hb=>?_,q⟩
         have e:b=s1.heap.objs.size:=by simpa using hb
         subst e
         exact I1.wA (Nat.le_refl _) (I1.ba.fresh (Nat.le_refl _)))
def Qq (lo st:Int)(n:Nat):It:=⟨λi _=>i < n,λi H x H'=>H'=H/\x=.int (lo + i * st),λi _=>n<=i⟩
def BX (ta:TA):TI:=λσ H R=>ta σ H λvs H1=>match vs with
 | [.int i,.int j,.int k]=>Builtin.Range.small i j k=true/\0 < k/\k < 1000/\R (Qq i k (Builtin.Range.rangeSize i j k).toNat) H1
 | _=>False
end
structure Def (P:Program)(w:World)(K:W.Frag)(mg:Str->Option Value)(base:Heap)(x:Str)(k:Nat)(ps:List Str)(sp:Sp):Prop where
 ex:∃f fd,dU P w K mg base qR k f fd ps sp/\mg x=some (.ref f)/\W.keepIn K (.ref f)=true/\Binds K fd ps []
structure cJ (K:W.Frag)(mg:Str->Option Value)(x qual:Str)(st:Stmt)(ps:List Str):Prop where
 ex:∃f fd,vP K x qual st f fd/\mg x=some (.ref f)/\Binds K fd ps []
section
variable {P:Program}{w:World}{K:W.Frag}{mg:Str->Option Value}{base:Heap}
theorem cJ.ok{x qual:Str}{st:Stmt}{N ps:List Str}{k:Nat}{sp:Sp}(T:cJ K mg x qual st ps)(S:aI N ps (av st))(len:∀vs H Q E,sp vs H Q E->vs.length=ps.length)
  (cX:∀(f:Addr) (cy:Value) (A:Around) (outer:List Env) (s:Shared) (H:Hp) (vs:List V) (Q:VK) (E:XK),bR k (A.deeper (envOfC qual (av st) s.heap.objs.size f cy))->sp vs H Q E->
   ∃t,kr (fz qR P w K mg base N qual (av st) f cy A outer s H E).lK (bq st) t/\t {nx:=λ_ H'=>Q .bb H',rt:=Q} (start N vs) H):Def P w K mg base x (k + 1) ps sp:=by
 obtain⟨f,fd,F,hm,hb⟩:=T.ex
 exact⟨f,fd,F.ok S len (cX f),hm,F.kp,hb⟩
end
theorem Hr {X:Cx}{k j:Nat}{ps:List Str}{sp:Sp}{x:Str}{p pos:Pos}{e:Expr}{es:List Expr}{t:TA}(D:Def X.prog X.w X.K X.mg X.base x k ps sp)(hr:bR j X.A)(ha:PA X (e::es) t)(hg:Gl X x:=by rfl)(hj:k<=j:=by decide)
  (iD:(x == ("__debug__":Str))=false:=by decide) (he:starEach (e::es) X.env=(false,eval e X.env)::starEach es X.env:=by rfl) (qG:(backTo pos (starEach es X.env)).any (·.1)=false:=by rfl):
  PE X (.Call (.Name x p) (e::es) [] pos) (ml sp [] E0 t):=by
 obtain⟨f,fd,F,hm,hk,hb⟩:=D.ex
 exact r0 F (hr.mono hj) hg hm hk hb .nil sk ha iD he qG
end
section
variable {p:Addr}{H H1:Hp}
section
variable {X:Cx}
def FO (K:W.Frag):R2:=λx y H Q=>match x,y with
 | .str z,.int i=>∃c,z.length<=sizeLine/\iF z.cps.toList i=some c/\Q (.str ⟨#[c]⟩) H
 | .ref p,.int i=>∃xs v,(aX K H p xs\/bM K H p xs)/\iF xs i=some v/\Q v H
 | .ref p,.str k=>∃v,qQ H p (.str k) (some v)/\Q v H
 | _,_=>False
theorem Lg (hu:X.A.units + 64 < cLine):GY X (FO X.K):=by
  intro value slice pins s σ H x y v u Q I rx ry h hs
  cases x <;> cases y <;> first
    | exact(show False from h).elim
    | (obtain⟨c,h1,h2,h3⟩:=h;exact DR value slice pins s σ H _ _ v u Q I rx ry ⟨_,_,c,rfl,rfl,h1,h2,h3⟩ hs)
    | (obtain⟨xs,w',h1 | h1,h2,h3⟩:=h
       · exact As value slice pins s σ H _ _ v u Q I rx ry ⟨_,xs,_,w',rfl,rfl,h1,h2,h3⟩ hs
       · exact DQ value slice pins s σ H _ _ v u Q I rx ry ⟨_,xs,_,w',rfl,rfl,h1,h2,h3⟩ hs)
    | (obtain⟨w',g,h3⟩:=h
       cases rx
       exact tail_any (oK I g) PySem.F.slot_dict_getitem.lookup (uA (by omega) I g ry λw2 s3 I3 uy=>⟨w',H,I3,uy,h3⟩) hs)
end
inductive DV where
 | bb | bl (b:Bool) | int (i:Int) | str (x:Str) | tup (ds:List DV) | lst (ds:List DV) | dict
inductive HD (H:Hp):Nat->V->DV->Prop
 | bb {n}:HD H n .bb .bb
 | bl {n} (b:Bool):HD H n (.bl b) (.bl b)
 | int {n} (i:Int):HD H n (.int i) (.int i)
 | str {n} (x:Str):HD H n (.str x) (.str x)
 | tup {n a xs ds}:H a=some (.tup xs)->xs.length=ds.length->(∀(i:Nat) u e,xs[i]?=some u->ds[i]?=some e->HD H n u e)->HD H (n + 1) (.ref a) (.tup ds)
 | lst {n a xs ds}:H a=some (.lst xs)->xs.length=ds.length->(∀(i:Nat) u e,xs[i]?=some u->ds[i]?=some e->HD H n u e)->HD H (n + 1) (.ref a) (.lst ds)
 | dict {n a bD}:H a=some (.dK bD)->HD H n (.ref a) .dict
theorem HD.same{H H':Hp}(s:ak H H'){n:Nat}{x:V}{d:DV}(h:HD H n x d):HD H' n x d:=by
 induction h with
 | bb=>exact .bb
 | bl b=>exact .bl b
 | int i=>exact .int i
 | str x=>exact .str x
 | tup a b c ih=>exact .tup (s _ _ a) b ih
 | lst a b c ih=>exact .lst (s _ _ a) b ih
 | dict a=>exact .dict (s _ _ a)
theorem HD.mono{H:Hp}{n:Nat}{x:V}{d:DV}(h:HD H n x d):∀{m:Nat},n<=m->HD H m x d:=by
 induction h with
 | bb=>intro m _;exact .bb
 | bl b=>intro m _;exact .bl b
 | int i=>intro m _;exact .int i
 | str x=>intro m _;exact .str x
 | tup a b c ih=>
  intro m hm
  obtain⟨k,rfl⟩:∃k,m=k + 1:=⟨m - 1,by omega⟩
  exact .tup a b λi u e p q=>ih i u e p q (by omega)
 | lst a b c ih=>
  intro m hm
  obtain⟨k,rfl⟩:∃k,m=k + 1:=⟨m - 1,by omega⟩
  exact .lst a b λi u e p q=>ih i u e p q (by omega)
 | dict a=>intro m _;exact .dict a
inductive HT (H:Hp):Nat->V->DV->Prop
 | bb {n}:HT H n .bb .bb
 | bl {n} (b:Bool):HT H n (.bl b) (.bl b)
 | int {n} (i:Int):HT H n (.int i) (.int i)
 | str {n} (x:Str):HT H n (.str x) (.str x)
 | tup {n a xs ds}:H a=some (.tup xs)->xs.length=ds.length->(∀(i:Nat) u e,xs[i]?=some u->ds[i]?=some e->HT H n u e)->HT H (n + 1) (.ref a) (.tup ds)
theorem HT.hd{H:Hp}{n:Nat}{x:V}{d:DV}(h:HT H n x d):HD H n x d:=by
 induction h with
 | bb=>exact .bb
 | bl b=>exact .bl b
 | int i=>exact .int i
 | str x=>exact .str x
 | tup a b c ih=>exact .tup a b ih
def bX (H H':Hp):Prop:=∀b xs,H b=some (.tup xs)->H' b=some (.tup xs)
theorem ak.aZ{H':Hp}(h:ak H H'):bX H H':=λb xs e=>h b _ e
theorem bX.refl(H:Hp):bX H H:=λ_ _ h=>h
theorem bX.trans{H2:Hp}(a:bX H H1)(b:bX H1 H2):bX H H2:=λc o h=>b c o (a c o h)
theorem bX.upd{H':Hp}(h:bX H H'){p:Addr}{o:HO}(hp:∀xs,H' p≠some (.tup xs)):bX H (upd H' p o):=λb xs e=>by
 have e':=h b xs e
 have:b≠p:=λz=>by subst z;exact hp xs e'
 rw[ay this];exact e'
theorem HT.aY{H H':Hp}(s:bX H H'){n:Nat}{x:V}{d:DV}(h:HT H n x d):HT H' n x d:=by
 induction h with
 | bb=>exact .bb
 | bl b=>exact .bl b
 | int i=>exact .int i
 | str x=>exact .str x
 | tup a b c ih=>exact .tup (s _ _ a) b ih
theorem ak.new(o:HO)(hn:H p=none):ak H (upd H p o):=λb u e=>by rw[ay (ao e hn)];exact e
def cC (H:Hp)(p:Addr):Prop:=∃a b,H p=some (.lst [.int a,.int b])
structure Step (p:Addr)(H H':Hp):Prop where
 dj:cC H' p
 rest:∀b o,H b=some o->b≠p->H' b=some o
theorem Step.refl(h:cC H p):Step p H H:=⟨h,λ_ _ e _=>e⟩
theorem Step.trans{H2:Hp}(a:Step p H H1)(b:Step p H1 H2):Step p H H2:=⟨b.dj,λc o e n=>b.rest c o (a.rest c o e n) n⟩
theorem Step.same{H2:Hp}(a:Step p H H1)(b:ak H1 H2):Step p H H2:=
 ⟨let ⟨x,y,e⟩:=a.dj;⟨x,y,b _ _ e⟩,λc o e n=>b c o (a.rest c o e n)⟩
theorem Step.set(a:Step p H H1)(x y:Int):Step p H (upd H1 p (.lst [.int x,.int y])):=
 ⟨⟨x,y,ag⟩,λc o e n=>by rw[ay n];exact a.rest c o e n⟩
theorem Step.new{q:Addr}(a:Step p H H1){o:HO}(hn:H1 q=none):Step p H (upd H1 q o):=a.same (ak.new o hn)
theorem Step.aZ(a:Step p H H1)(hp:cC H p):bX H H1:=λb xs e=>a.rest b _ e λz=>by
 subst z
 obtain⟨_,_,h⟩:=hp
 rw[h] at e;cases e
theorem Step.ne{q:Addr}(hp:cC H p)(hn:H q=none):q≠p:=λz=>by
 subst z
 obtain⟨_,_,h⟩:=hp
 rw[h] at hn;cases hn
end
section
section
variable {X:Cx}
def Ec (K:W.Frag):List V->Hp->VK->Prop:=λxs H Q=>match xs with
 | [x]=>∃n,wJ K x H n/\Q (.int (n:Nat)) H
 | _=>False
theorem aU:cz X (.builtin "len") (Ec X.K):=by
 intro pins s σ H xs us Q I r h
 match xs,r,h with
 | [x],r,h=>
  obtain⟨n,h1,h2⟩:=h
  exact wK pins s σ H _ us Q I r ⟨x,n,rfl,h1,h2⟩
def Lh (g:Int->Int->Int):List V->Hp->VK->Prop:=λxs H Q=>match xs with
 | [.int i,.int j]=>Q (.int (g i j)) H
 | _=>False
theorem uH (hc:X.calm=true):cz X (.builtin "max") (Lh λi j=>if j > i then j else i):=by
 intro pins s σ H xs us Q I r h
 match xs,r,h with
 | [.int i,.int j],r,h=>exact ui hc pins s σ H _ us Q I r ⟨i,j,rfl,h⟩
theorem uJ (hc:X.calm=true):cz X (.builtin "min") (Lh λi j=>if j < i then j else i):=by
 intro pins s σ H xs us Q I r h
 match xs,r,h with
 | [.int i,.int j],r,h=>exact uj hc pins s σ H _ us Q I r ⟨i,j,rfl,h⟩
def qV (K:W.Frag):List V->Hp->VK->Prop:=λxs H Q=>match xs with
 | [.ref p]=>(∃ys,aX K H p ys/\∀l,H l=none->Q (.ref l) (upd H l (.tup ys)))\/(∃ys,bM K H p ys/\Q (.ref p) H)
 | _=>False
theorem cS:cz X (.type "tuple") (qV X.K):=by
 intro pins s σ H xs us Q I r h
 match xs,r,h with
 | [.ref p],r,h=>
  rcases h with⟨ys,h1,h2⟩ | ⟨ys,h1,h2⟩
  ·exact gN pins s σ H _ us Q I r ⟨p,ys,rfl,.inl ⟨h1,h2⟩⟩
  ·exact gN pins s σ H _ us Q I r ⟨p,ys,rfl,.inr ⟨h1,h2⟩⟩
def su (K:W.Frag):List V->Hp->VK->Prop:=λxs H Q=>match xs with
 | [.ref p]=>∃ys,(aX K H p ys\/bM K H p ys)/\∀l,H l=none->Q (.ref l) (upd H l (.lst ys))
 | _=>False
theorem fM:cz X (.type "list") (su X.K):=by
 intro pins s σ H xs us Q I r h
 match xs,r,h with
 | [.ref p],r,h=>
  obtain⟨ys,h1,h2⟩:=h
  exact nk pins s σ H _ us Q I r ⟨p,ys,rfl,h1,h2⟩
def BY:V->V->V->Hp->(Hp->Prop)->Prop:=λo i v H Q=>match o,i with
 | .ref p,.int k=>∃xs j,H p=some (.lst xs)/\uw xs.length k=some j/\Q (upd H p (.lst (xs.set j v)))
 | _,_=>False
theorem dQ:Dn X BY:=by
 intro pins s σ H o i v ov iv u Q I ro ri rv h
 cases o <;> cases i <;> first
  | exact(show False from h).elim
  | (obtain⟨xs,j,h1,h2,h3⟩:=h;exact set_list pins s σ H _ _ v ov iv u Q I ro ri rv ⟨_,xs,_,j,rfl,rfl,h1,h2,h3⟩)
end
theorem Hs {CX P w K mg base N qual scope f cd A outer s H E}:(fz CX P w K mg base N qual scope f cd A outer s H E).lK.K=K:=rfl
theorem BZ {X:Cx}:X.lK.K=X.K:=rfl
theorem xm {CX P w K mg base N qual scope f cd A outer s H E}:(fz CX P w K mg base N qual scope f cd A outer s H E).K=K:=rfl
theorem B0 {X:Cx}{scope C N' s₂ H₂ fp}:(Hi X scope C N' s₂ H₂ fp).K=X.K:=rfl
theorem cQ:2<=sizeLine:=by decide
theorem ny {te:TE}{i:Nat}{u:TS}{D:Ends}{σ:St}{H:Hp}(h:te σ H λx H1=>u D (σ.set i (some x)) H1):wy (qm te (eH i)) u D σ H:=h
end
section
variable {g:Int->Int->V}
section
variable {K:W.Frag}{H:Hp}{Q:VK}{i j:Int}{a b:Addr}{x y:V}{s t:Str}
theorem sy:D7 (.int i) (.int j) H Q=Q (.int (i + j)) H:=rfl
theorem sE:D7 (.str s) (.str t) H Q=(s.length + t.length<=sizeLine/\Q (.str (s++t)) H):=rfl
theorem sF:D7 (.ref a) (.ref b) H Q=∃xs zs,H a=some (.lst xs)/\H b=some (.lst zs)/\xs.length + zs.length<=sizeLine/\∀p,H p=none->Q (.ref p) (upd H p (.lst (xs++zs))):=rfl
theorem B1 {C:Int->Int->Prop}:uI C g (.int i) (.int j) H Q=(C i j/\Q (g i j) H):=rfl
theorem xn:BW g (.int i) (.int j) H Q=Q (g i j) H:=rfl
theorem xo:decide (V.int i=V.int j)=decide (i=j):=by simp
theorem xp:decide (V.str s=V.str t)=decide (s=t):=by simp
theorem xq:Hq K (.int i) (.int j) H Q=Q (.bl (decide (i=j))) H:=by
 show(true=true/\Q (.bl (decide (V.int i=V.int j))) H)=_
 rw[xo];simp
theorem xt:Hq K (.str s) (.str t) H Q=Q (.bl (decide (s=t))) H:=by
 show(true=true/\Q (.bl (decide (V.str s=V.str t))) H)=_
 rw[xp];simp
theorem xu:JJ K (.int i) (.int j) H Q=Q (.bl (!decide (i=j))) H:=by
 show(true=true/\Q (.bl (!decide (V.int i=V.int j))) H)=_
 rw[xo];simp
theorem xy:JJ K (.str s) (.str t) H Q=Q (.bl (!decide (s=t))) H:=by
 show(true=true/\Q (.bl (!decide (V.str s=V.str t))) H)=_
 rw[xp];simp
theorem xA:Hq K (.ref a) (.ref b) H Q=((kL K H 20 (.ref a) (.ref b)/\Q (.bl true) H)\/(oQ K H a b/\Q (.bl false) H)):=rfl
theorem xB:JJ K (.ref a) (.ref b) H Q=((kL K H 20 (.ref a) (.ref b)/\Q (.bl false) H)\/(oQ K H a b/\Q (.bl true) H)):=rfl
theorem xC {g:Bool->Bool}{c d:Bool}:JK g (.bl c) (.bl d) H Q=Q (.bl (g (c == d))) H:=rfl
theorem B2 {neg:Bool}:NT K neg x (.ref a) H Q=∃xs,(aX K H a xs\/bM K H a xs)/\dk x=true/\xs.all dk=true/\Q (.bl (if neg then !qh x xs else qh x xs)) H:=rfl
theorem xD:FO K (.ref a) (.int i) H Q=∃xs v,(aX K H a xs\/bM K H a xs)/\iF xs i=some v/\Q v H:=rfl
theorem xE:FO K (.ref a) (.str s) H Q=∃v,qQ H a (.str s) (some v)/\Q v H:=rfl
theorem xF:FO K (.str s) (.int i) H Q=∃c,s.length<=sizeLine/\iF s.cps.toList i=some c/\Q (.str ⟨#[c]⟩) H:=rfl
theorem xG {n:String}:Lf K [x,.ty n] H Q=∃t b,dm K H x t/\W.kitOne K t (.type n)=some b/\Q (.bl b) H:=rfl
theorem xH:Ec K [x] H Q=∃n,wJ K x H n/\Q (.int (n:Nat)) H:=rfl
theorem B3 {g:Int->Int->Int}:Lh g [.int i,.int j] H Q=Q (.int (g i j)) H:=rfl
theorem xI:qV K [.ref a] H Q=((∃ys,aX K H a ys/\∀l,H l=none->Q (.ref l) (upd H l (.tup ys)))\/(∃ys,bM K H a ys/\Q (.ref a) H)):=rfl
theorem sG:su K [.ref a] H Q=∃ys,(aX K H a ys\/bM K H a ys)/\∀l,H l=none->Q (.ref l) (upd H l (.lst ys)):=rfl
theorem oR {R:Hp->Prop}:BY (.ref a) (.int i) x H R=∃xs j,H a=some (.lst xs)/\uw xs.length i=some j/\R (upd H a (.lst (xs.set j x))):=rfl
theorem mF {α:Type}{o:Option α}:(some o).join=o:=rfl
end
theorem Step.base{p:Addr}{H0 H1 H2:Hp}(s:ak H0 H1)(hn:H0 p=none)(st:L2.Step p H1 H2):ak H0 H2:=λb o e=>st.rest b o (s b o e) (ao e hn)
end
section
variable {r:List V->Hp->VK->Prop}
def bz:Expr->Bool
 | .Starred ..=>false
 | _=>true
theorem bE {e:Expr}{es:List Expr}{env:Env}(h:bz e=true):starEach (e::es) env=(false,eval e env)::starEach es env:=by
 cases e <;> first | rfl | exact absurd h Bool.false_ne_true
theorem cj {pos:Pos}{env:Env}:∀{es:List Expr},es.all bz=true->(backTo pos (starEach es env)).any (·.1)=false
 | [],_=>rfl
 | e::es,h=>by
  rw[List.all_cons,Bool.and_eq_true] at h
  rw[bE h.1]
  show(false || (backTo pos (starEach es env)).any (·.1))=false
  rw[cj h.2];rfl
def qW:Expr->Bool
 | .ListComp ..=>false
 | .SetComp ..=>false
 | .DictComp ..=>false
 | _=>true
theorem eI {e:Expr}{t:Option Expr}{l:Nat}{env:Env}(h:qW e=true):swapsWith e t l env=pure false:=by
 cases e <;> first | rfl | exact absurd h Bool.false_ne_true
section
variable {X:Cx}{e:Expr}{es:List Expr}{te:TE}{t:TA}{pos p:Pos}{x:Str}
theorem ae (ha:PE X e te)(hr:PA X es t)(h:bz e=true:=by rfl):PA X (e::es) (iC te t):=Am ha hr (bE h)
theorem aL {k j:Nat}{ps:List Str}{sp:Sp}(D:Def X.prog X.w X.K X.mg X.base x k ps sp)(hr:bR j X.A)(ha:PA X (e::es) t)(hg:Gl X x:=by rfl)(hj:k<=j:=by decide)
  (iD:(x == ("__debug__":Str))=false:=by decide) (h1:bz e=true:=by rfl) (h2:es.all bz=true:=by rfl):
  PE X (.Call (.Name x p) (e::es) [] pos) (ml sp [] E0 t):=Hr D hr ha hg hj iD (bE h1) (cj h2)
theorem aV {id:String}(hc:cz X (.builtin id) r)(hg:Gl X x)(hm:X.mg x=none)(hv:bootBuiltins x=some (.builtin id))(ha:PA X (e::es) t)(hn:x≠"__name__":=by decide)(iD:(x == ("__debug__":Str))=false:=by decide)
  (h1:bz e=true:=by rfl) (h2:es.all bz=true:=by rfl):PE X (.Call (.Name x p) (e::es) [] pos) (DI r t):=wR hc hg hm hv ha hn iD (bE h1) (cj h2)
theorem dW {T:String}(hc:cz X (.type T) r)(hg:Gl X x)(hm:X.mg x=none)(hv:bootBuiltins x=some (.type T))(ha:PA X (e::es) t)(hn:x≠"__name__":=by decide)(iD:(x == ("__debug__":Str))=false:=by decide)
  (h1:bz e=true:=by rfl) (h2:es.all bz=true:=by rfl):PE X (.Call (.Name x p) (e::es) [] pos) (DI r t):=uv hc hg hm hv ha hn iD (bE h1) (cj h2)
theorem bj {i:Nat}{pos':Pos}(hN:X.N.Nodup)(hi:X.N[i]?=some x)(hx:Loc X.env.scope x)(he:PE X e te)(h:qW e=true:=by rfl)(hf:X.fn x=true\/X.env.scope.names.lookup x=some .local:=by first | exact .inl rfl | exact .inr rfl | assumption):
  PS X (.Assign [.Name x pos'] e pos) (qm te (eH i)):=Dt hN hi hx he (eI h) hf
theorem dX (he:PE X e te)(h:qW e=true:=by rfl):PS X (.Expr e pos) (oy te):=Ad he (eI h)
end
end
section
def nz:Expr->Bool
 | .Slice ..=>false
 | _=>true
theorem xJ {b:Expr}(h:nz b=true):sh b:=λo i=>by
 cases b <;> first | rfl | exact absurd h Bool.false_ne_true
theorem aH {X:Cx}{a b:Expr}{ta tb:TE}{pos:Pos}(hu:X.A.units + 64 < cLine)(ha:PE X a ta)(hb:PE X b tb)(h:nz b=true:=by rfl):PE X (.Subscript a b pos) (uh (FO X.K) ta tb):=GZ (Lg hu) ha hb (xJ h)
end
section
def ka:List Value:=[.type "ValueError",.type "Exception",.type "BaseException",.type "object"]
section
variable {prog:Program}{w:World}{A:Around}{h:Heap}{g:Array GenState}{d:Drawn}{t:Nat}{os:OsState}
variable {nm q:Str}{C B N:Addr}{bs:List Value}{sn:List Str}{sub:List Value}{ab:Bool}{col:Option Bool}{dd:Option Addr}{k0 k1 k2 k3 k5:Option Value}
theorem qX {M:Model}{E:Value->Shared->Prop}{rest:List Value}{Q:Unit->Shared->Prop}(hC:h.get? C=some (excClassObj nm q C N bs (.ref B::ka) true sn sub ab col dd k0 k1 k2 k3 k5 "ValueError.__new__"))
  (hq:Q () ⟨h,g,d,t,os⟩):wpAny M A (checkBuiltinCall "ValueError.__new__" ⟨.ref C::rest,[]⟩) Q E ⟨h,g,d,t,os⟩:=by
 have Fn:=Jn
 have Ht:(Value.ref C::.ref B::ka).contains (.type "ValueError")=true:=rfl
 have NU:=Fn.noStar
 simp only[checkBuiltinCall,Fn.newKind,Fn.newSplit,Fn.newRow]
 repeat (first | refine wpAny_loadPart_at hC ?_ | (refine wpAny_isSubtype_exc hC ?_;rw[Ht]) | refine wpAny_staticBase_exc hC ?_ | refine wpAny_madeBy_exc hC ?_ | simp only[bne_self_eq_false,Bool.false_eq_true,if_false] | wp_step)
 exact hq
theorem uK {R:Result->Shared->Prop}{rest:List Value}(hC:h.get? C=some (excClassObj nm q C N bs (.ref B::ka) true sn sub ab col dd k0 k1 k2 k3 k5 "ValueError.__new__"))
  (hq:R (.ok (.ret (.ref (h.objs.size + 1)))) ⟨(h.push {cls:=.type "tuple",data:=.seq rest.toArray}).push
   {cls:=.ref C,data:=.fields #[.ref h.objs.size,.none,.none,.none,.bool false,.none]},g,d,t,os⟩) (sH:rest.length<=sizeLine):
  codeAny (model prog w) A (.builtin "ValueError.__new__" ⟨.ref C::rest,[]⟩) R ⟨h,g,d,t,os⟩:=by
 have Fn:=Jn
 have NV:=Fn.ends
 have AI:(Value.ref C::.ref B::ka).contains (.type "ValueError")=true:=rfl
 have Qr:(Value.ref C::.ref B::ka).contains (.type "AttributeError")=false:=rfl
 have Qs:(Value.ref C::.ref B::ka).contains (.type "NameError")=false:=rfl
 refine codeAny_builtinAt Fn.entry ?_
 unfold Builtin.«BaseException.__new__»
 refine PySem.wpAt_bind ?_
 show PySem.wpAt _ _ _ (stack >>= _) _ _ _
 refine PySem.wpAt_bind (PySem.wpAt_stack λp below=>PySem.wpAt_of_wpAny ?_)
 wp_walk
 refine PySem.wpAt_of_wpAny ?_
 rw[Fn.owner]
 repeat (first | with_reducible refine wpAny_madeHere_exc Fn.canon hC ?_ | with_reducible refine wpAny_loadPart_at hC ?_ | (with_reducible refine wpAny_isSubtype_exc hC ?_;first | rw[AI] | rw[Qr] | rw[Qs]) | wp_step)
 show R _ _
 rw[Heap.size_push]
 exact hq
end
end
end L2
set_option maxHeartbeats 400000
namespace L2
open PySem PySem.Spec PyProof.Rows
section
structure dY (K:W.Frag)(C B:Addr):Prop where
 ob:∃nm q N bs sn sub ab col dd k0 k1 k2 k3 k5,K.lookup C=some (excClassObj nm q C N bs (.ref B::ka) true sn sub ab col dd k0 k1 k2 k3 k5 "ValueError.__new__")
 ga:W.findIn K (.ref C) "__getattribute__"=some (some (.builtin "BaseException.__getattribute__"))
 gt:W.findIn K (.ref C) "__getattr__"=some none
 sa:W.findIn K (.ref C) "__setattr__"=some (some (.builtin "object.__setattr__"))
 cl:W.findIn K (.ref C) "__class__"=some (some (.builtin "object.__class__"))
 cg:W.specialIn K (.builtin "object.__class__") "__get__"=some (some (.builtin "getset_descriptor.__get__"))
 ct:W.takesIn K (.builtin "object.__class__")=some true
 kp:W.keepIn K (.ref C)=true
theorem dY.cd{K:W.Frag}{C B:Addr}(c:dY K C B):∃cd:ClassData,W.clsIn K C=some cd/\cd.mro=.ref C::.ref B::ka/\cd.hasDict=true:=by
 obtain⟨nm,q,N,bs,sn,sub,ab,col,dd,k0,k1,k2,k3,k5,e⟩:=c.ob
 exact⟨_,by unfold W.clsIn;rw[e],rfl,rfl⟩
theorem dY.mro{K:W.Frag}{C B:Addr}(c:dY K C B)(v:Value):W.mroIn K C v=some ((.ref C::.ref B::ka).contains v):=by
 obtain⟨cd,e,e2,_⟩:=c.cd
 unfold W.mroIn
 rw[e,Option.bind_some,e2]
 rfl
section
variable {prog:Program}{w:World}{A:Around}{E:Value->Shared->Prop}{s:Shared}{K:W.Frag}{x C B:Addr}{ox:Obj}{od:Option Obj}{name:Str}
open PySem.W in
theorem FP {v:Value}{tk:Tok}{R:Result->Shared->Prop}(X:K.In s.heap)(I:InstAt s.heap x ox C od)(c:dY K C B)(hf:findObj K C od name=some (.value v))(h:R (.ok (.ret v)) s):
  codeAny (model prog w) A (.call (.builtin "BaseException.__getattribute__") ⟨[.ref x,.str name tk],[]⟩) R s:=by
 have FB:=Kh
 have hk:builtinKind "BaseException.__getattribute__"=some .slot:=by decide +kernel
 have qY:splitId "BaseException.__getattribute__"=some ("BaseException","__getattribute__"):=by decide +kernel
 have L0:=I.type (M:=model prog w)
 have hm:mroIn K C (.type "BaseException")=some true:=(c.mro _).trans rfl
 have L2:Looks (model prog w) s.heap (isInstance (.ref x) (.type "BaseException")) true:=L0.andThen (looks_mroIn X hm)
 refine codeAny_call_builtin FB.ga.plain PySem.F.entry_bexc_ga (@check_slot (model prog w) _ _ s "BaseException.__getattribute__" "BaseException" "__getattribute__" (.ref x) [.str name tk] [] _ hk qY L2 (PySem.F.args_bexc_ga _ _) ?_)
 obtain⟨Qt,g,d,t,os⟩:=s
 have L1:=looks_find (M:=model prog w) X I hf
 refine wpAny_bind (wpAny_pure (wpAny_bind (wpAny_pure (wpAny_bind (L0.here (wpAny_bind (L1.here ?_)))))))
 exact wpAny_pure h
open PySem.W in
theorem qZ {g a:Value}{tk:Tok}{R:Result->Shared->Prop}(X:K.In s.heap)(I:InstAt s.heap x ox C od)(c:dY K C B)(hf:findObj K C od name=some (.bind g a))
  (h:∀A,wpAny (model prog w) A (call g [a,.ref x,.ref C]) (λv s'=>R (.ok (.ret v)) s') (λe s'=>R (.error e) s') s):
  codeAny (model prog w) A (.call (.builtin "BaseException.__getattribute__") ⟨[.ref x,.str name tk],[]⟩) R s:=by
 have FB:=Kh
 have hk:builtinKind "BaseException.__getattribute__"=some .slot:=by decide +kernel
 have qY:splitId "BaseException.__getattribute__"=some ("BaseException","__getattribute__"):=by decide +kernel
 have L0:=I.type (M:=model prog w)
 have hm:mroIn K C (.type "BaseException")=some true:=(c.mro _).trans rfl
 have L2:Looks (model prog w) s.heap (isInstance (.ref x) (.type "BaseException")) true:=L0.andThen (looks_mroIn X hm)
 refine codeAny_call_builtin FB.ga.plain PySem.F.entry_bexc_ga (@check_slot (model prog w) _ _ s "BaseException.__getattribute__" "BaseException" "__getattribute__" (.ref x) [.str name tk] [] _ hk qY L2 (PySem.F.args_bexc_ga _ _) ?_)
 obtain⟨Qt,gg,d,t,os⟩:=s
 have L1:=looks_find (M:=model prog w) X I hf
 refine wpAny_bind (wpAny_pure (wpAny_bind (wpAny_pure (wpAny_bind (L0.here (wpAny_bind (L1.here ?_)))))))
 show wpAny _ _ (Builtin.ObjectAttr.bindTo g a (.ref x) (.ref C)) _ _ _
 exact wpAny_bind (wpAny_holding (wpAny_mono (h _) (λv s' z=>wpAny_pure z) λ_ _ z=>z))
end
end
section
section
variable {prog:Program}{w:World}{A:Around}{E:Value->Shared->Prop}{s:Shared}{K:W.Frag}{x C B:Addr}{ox:Obj}{od:Option Obj}{name:Str}
open PySem.W in
open PySem.W in
theorem Ed {Q:Option Value->Shared->Prop}(X:K.In s.heap)(I:InstAt s.heap x ox C od)(c:dY K C B)(h:Q (some (.ref C)) {s with toks:=s.toks + 1}):
  wpAny (model prog w) A (getAttr? (.ref x) "__class__") Q E s:=by
 obtain⟨hh,g,d,t,os⟩:=s
 have FB:=Kh
 have L0:=I.type (M:=model prog w)
 have L1:=looks_findIn (M:=model prog w) X c.ga
 have L2:=looks_findIn (M:=model prog w) X c.gt
 have hm:mroIn K C (.type "object")=some true:=(c.mro _).trans rfl
 have hf:findObj K C od "__class__"=some (.bind (.builtin "getset_descriptor.__get__") (.builtin "object.__class__")):=by
  obtain⟨cd,e,_⟩:=c.cd
  unfold findObj
  rw[e,Option.bind_some,c.cl,Option.bind_some]
  simp[c.cg,c.ct]
 unfold getAttr? getAttrBy? getAttrBy
 refine wpAny_bind (wpAny_mkText (wpAny_bind (wpAny_attempt (wpAny_holding (wpAny_bind (L0.at (wpAny_bind (L1.at ?_))))))))
 show wpAny _ _ (getAttrByItsOwn _ _ _ _ _ _) _ _ _
 unfold getAttrByItsOwn callGetattribute boundAndCalled
 refine wpAny_bind (L2.at (wpAny_bind (wpAny_attempt (wpAny_holding ?_))))
 simp only[Bool.false_and,Bool.false_eq_true,if_false]
 rw[FB.ga.bind]
 refine wpAny_bind (wpAny_pure (wpAny_call ?_))
 refine qZ (s:=⟨hh,g,d,t + 1,os⟩) X I c hf λA'=>?_
 refine wpAny_call (class_get (s:=⟨hh,g,d,t + 1,os⟩) (ox:=ox) (od:=od) X I hm ?_)
 show wpAny _ _ (handedOut (.ref C)) _ _ _
 exact wpAny_pure (wpAny_pure h)
open PySem.W in
theorem oS (c:dY K C B):KitX K (.ref x) (.ref C) (λh=>∃ox od,InstAt h x ox C od) where
 ty:=λ_ _ _ I=>let ⟨_,_,I⟩:=I;I.type
 it:=λ_ _ X _=>by
  obtain⟨nm,q,N,bs,sn,sub,ab,col,dd,k0,k1,k2,k3,k5,ho⟩:=c.ob
  intro A' Q' E' s' k q
  unfold isType loadHead
  exact wpAny_bind (wpAny_loadPart (k _ _ (X _ _ ho)) (wpAny_pure q))
 ne:=λh tp dd aE n sl X Qu=>by
  obtain⟨nm,q,N,bs,sn,sub,ab,col,dd,k0,k1,k2,k3,k5,ho⟩:=c.ob
  refine Bool.eq_false_iff.mpr λq=>?_
  have e:C=tp:=Value.ref.inj (beq_iff_eq.mp q)
  subst e
  have z:=(X _ _ ho).symm.trans Qu
  have z2:=congrArg (Option.map Obj.cls) z
  simp at z2
 ca:=λX I k=>let ⟨_,_,I⟩:=I;Ed X I c k
end
end
section
def NW (C:Addr)(d:Option Addr)(fl:Bool)(a:Addr)(h:Heap):Prop:=∃fs sl,h.get? a=some (⟨.ref C,d,.fields fs,sl⟩:Obj)/\(fl=true->fs[1]?=some .none)
abbrev XO (a C:Addr)(d:Option Addr)(fl:Bool):HO:=.ext (NW C d fl a)
def NX (fs:List (Str×V))(a:Addr)(h:Heap):Prop:=∃mA,h.Ns1 a mA/\(∀f,gS (fs.lookup f) (mA f))/\PySem.Within mA (fs.map (·.1))
abbrev XD (a:Addr)(fs:List (Str×V)):HO:=.ext (NX fs a)
section
variable {P:Program}{w:World}{H:Hp}{h:Heap}{a C:Addr}{d:Option Addr}{fl:Bool}
theorem B4 {fs:Array Value}{sl:Array (Option Value)}(e:h.get? a=some (⟨.ref C,d,.fields fs,sl⟩:Obj))(hf:fl=true->fs[1]?=some .none):bH P w H h a (XO a C d fl):=
 ⟨⟨fs,sl,e,hf⟩,⟨_,e⟩,λ_ _ ⟨fs,sl,e,hf⟩ k=>⟨fs,sl,k _ e,hf⟩⟩
theorem Ee (x:bH P w H h a (XO a C d fl)):NW C d fl a h:=x.1
theorem xK {fs:List (Str×V)}(x:bH P w H h a (XD a fs)):NX fs a h:=x.1
end
end
section
section
variable {X:Cx}{pins:List (Addr×Obj)}{σ:St}{H:Hp}{s:Shared}{a C B dx:Addr}{fs:List (Str×V)}{f:Str}{v:V}{A:Around}{E:Value->Shared->Prop}
theorem nA {fl:Bool}(I:Inv X pins σ H s){d:Option Addr}(e:H a=some (XO a C d fl)):∃vs sl,s.heap.get? a=some (⟨.ref C,d,.fields vs,sl⟩:Obj)/\(fl=true->vs[1]?=some .none):=Ee (I.ba a _ e)
theorem xM {fl:Bool}(I:Inv X pins σ H s){d:Option Addr}(e:H a=some (XO a C d fl)):∃vs sl,s.heap.get? a=some (⟨.ref C,d,.fields vs,sl⟩:Obj):=by
 obtain⟨vs,sl,h,_⟩:=nA I e
 exact⟨vs,sl,h⟩
theorem q8 {fl:Bool}{c:Value}{b:Bool}{d:Option Addr}{Q:Value->Shared->Prop}(I:Inv X pins σ H s)(e:H a=some (XO a C d fl))(ed:∀dx,d=some dx->∃fs,H dx=some (XD dx fs))(cl:dY X.K C B)
  (k:W.kitOne X.K (.ref C) c=some b) (h:∀tk,Q (.bool b) {s with toks:=tk}):wpAny (model X.prog X.w) A (call (.builtin "isinstance") [.ref a,c]) Q E s:=by
 refine W.kia_one (oS cl) I.dP ?_ k (λz=>nomatch z) h
 obtain⟨vs,sl,q⟩:=xM I e
 cases d with
 | none=>exact⟨_,none,q,rfl,rfl,True.intro⟩
 | some dx=>
  obtain⟨fs,z⟩:=ed dx rfl
  obtain⟨_,⟨o,_,_,e2,_⟩,_⟩:=xK (I.ba dx _ z)
  exact⟨_,some o,q,rfl,rfl,e2⟩
end
end
section
variable {E:Value->Shared->Prop}
section
variable {prog:Program}{w:World}{A:Around}{h:Heap}{g:Array GenState}{d:Drawn}{t:Nat}{os:OsState}
variable {nm q:Str}{C B N:Addr}{bs:List Value}{sn:List Str}{sub:List Value}{ab:Bool}{col:Option Bool}{dd:Option Addr}{k0 k1 k2 k3 k5:Option Value}
theorem oU {M:Model}{e:Addr}{oe:Obj}{rest:List Value}{Q:Unit->Shared->Prop}
  (hC:h.get? C=some (excClassObj nm q C N bs (.ref B::ka) true sn sub ab col dd k0 k1 k2 k3 k5 "ValueError.__new__")) (he:h.get? e=some oe) (Dh:oe.cls=.ref C) (hq:Q () ⟨h,g,d,t,os⟩):
  wpAny M A (checkBuiltinCall "ValueError.__init__" ⟨.ref e::rest,[]⟩) Q E ⟨h,g,d,t,os⟩:=by
 have Fn:=Jn
 have AI:(Value.ref C::.ref B::ka).contains (.type "ValueError")=true:=rfl
 have Li:=Fn.noStar
 simp only[checkBuiltinCall,Fn.initKind,Fn.initSplit,Fn.initRow]
 repeat (first | (with_reducible refine wpAny_loadPart_at he ?_;rw[Dh]) | with_reducible refine wpAny_loadPart_at hC ?_ | (with_reducible refine wpAny_isSubtype_exc hC ?_;rw[AI]) | wp_step)
 refine wpAny_onRaise ?_
 rw[show ∀(a b:String) (n:Nat),Bind.check ⟨.positional,"*","ValueError",.self,[⟨"args",.varPos,false⟩]⟩ a b n (List.map (λx=>x.fst) ({pos:=Value.ref e::rest}:Args).kw)=pure () from
  λa b n=>check_star_args _ _ _ _ _ _]
 exact wpAny_pure hq
theorem oV {K:W.Frag}{rest:List Value}{Q:PySem.Fin->Shared->Prop}(X:K.In h)
    (hC:h.get? C=some (excClassObj nm q C N bs (.ref B::ka) true sn sub ab col dd k0 k1 k2 k3 k5 "ValueError.__new__"))
    (hi:W.findIn K (.ref C) "__init__"=some (some (.builtin "ValueError.__init__")))
    (hq:∀h' fs,fs[1]?=some .none->(∀b o,h.get? b=some o->h'.get? b=some o)->h'.get? (h.objs.size + 1)=some (⟨.ref C,none,.fields fs,#[]⟩:Obj)->Q (.done (.ret (.ref (h.objs.size + 1)))) ⟨h',g,d,t,os⟩) (sH:rest.length<=sizeLine):
    wpAny (model prog w) A (Builtin.«type.__call__» ⟨.ref C::rest,[]⟩) Q E ⟨h,g,d,t,os⟩:=by
  have Fn:=Jn
  repeat (first | with_reducible refine wpAny_loadPart_at hC ?_ | with_reducible refine wpAny_madeBy_exc hC ?_ | wp_step)
  refine codeAny_call_builtin_code (Code.quiet_builtin _ Fn.quiet) (qX hC ?_)
  refine uK hC ?_ sH
  show wpAny _ _ _ _ _ _
  have kp:∀b o,h.get? b=some o->((h.push {cls:=.type "tuple",data:=.seq rest.toArray}).push {cls:=.ref C,data:=.fields #[.ref h.objs.size,.none,.none,.none,.bool false,.none]}).get? b=some o:=
    λb o e=>Heap.get?_push_of_some _ (Heap.get?_push_of_some _ e)
  have NY:=kp _ _ hC
  have X₁:=X.keeps kp
  have Ef:((h.push {cls:=.type "tuple",data:=.seq rest.toArray}).push
      {cls:=.ref C,data:=.fields #[.ref h.objs.size,.none,.none,.none,.bool false,.none]}).get? (h.objs.size + 1)=some
      {cls:=.ref C,data:=.fields #[.ref h.objs.size,.none,.none,.none,.bool false,.none]}:=by heap_get
  have Hu:(Value.ref C::.ref B::ka).contains (.ref C)=true:=by simp
  unfold isInstance
  repeat (first | with_reducible refine wpAny_loadPart_at Ef ?_ | (with_reducible refine wpAny_isSubtype_exc NY ?_;rw[Hu]) | wp_step)
  show wpAny _ _ (typeLookup (.ref C) _) _ _ _
  refine(W.looks_findIn X₁ hi).here ?_
  refine wpAny_holding (wpAny_bind (wpAny_of_eq (Fn.init.bind _) ?_))
  refine wpAny_bind (wpAny_call (codeAny_call_builtin Fn.init.plain Fn.initEntry (oU NY Ef rfl ?_)))
  wp_walk
  refine hq _ #[.ref (h.objs.size + 2),.none,.none,.none,.bool false,.none] rfl (λb o hb=>?_) ?_
  · rw[Heap.get?_update_other _ _ (Nat.ne_of_gt (Nat.lt_succ_of_lt (Heap.lt_size hb)))]
    exact Heap.get?_push_of_some _ (Heap.get?_push_of_some _ (Heap.get?_push_of_some _ hb))
  · rw[Heap.get?_update_self _ (Heap.get?_push_of_some _ Ef) rfl]
    simp only[Heap.size_push]
    rfl
theorem Eg {K:W.Frag}{rest:List Value}{Q:Value->Shared->Prop}(X:K.In h)
  (hC:h.get? C=some (excClassObj nm q C N bs (.ref B::ka) true sn sub ab col dd k0 k1 k2 k3 k5 "ValueError.__new__"))
  (hi:W.findIn K (.ref C) "__init__"=some (some (.builtin "ValueError.__init__")))
  (hq:∀h' fs,fs[1]?=some .none->(∀b o,h.get? b=some o->h'.get? b=some o)->h'.get? (h.objs.size + 1)=some (⟨.ref C,none,.fields fs,#[]⟩:Obj)->Q (.ref (h.objs.size + 1)) ⟨h',g,d,t,os⟩) (sH:rest.length<=sizeLine):
  wpAny (model prog w) A (call (.ref C) rest) Q E ⟨h,g,d,t,os⟩:=by
 have f1:=tc_lookup
 have f2:=tc_bind (.ref C)
 have hT:(⟨h,g,d,t,os⟩:Shared).TypeIs (.ref C) "type":=⟨_,hC,rfl⟩
 refine wpAny_call (codeAny_of_tree ?_)
 show wpAny _ _ (callAny (.ref C) _) _ _ _
 repeat (any_goals (first | assumption | with_reducible refine wpAny_loadPart_at hC ?_ | wp_step))
 refine⟨rfl,?_⟩
 refine codeAny_call_builtin_at (Code.quiet_builtin _ (by decide +kernel)) entry_typeCall (wpAny_check_type_call_sub hC (oV X hC hi ?_ sH))
 exact hq
end
structure iL (K:W.Frag)(mg:Str->Option Value)(x:Str)(C B:Addr):Prop where
 cl:dY K C B
 init:W.findIn K (.ref C) "__init__"=some (some (.builtin "ValueError.__init__"))
 mg:mg x=some (.ref C)
def Lj (C:Addr)(t:TA):TE:=λσ H Q=>t σ H λvs H1=>vs.length<=1/\∀a,H1 a=none->Q (.ref a) (upd H1 a (XO a C none true))
section
variable {X:Cx}{pins:List (Addr×Obj)}{σ:St}{H:Hp}{s:Shared}{C B:Addr}{x:Str}{p pos:Pos}{e:Expr}{es:List Expr}{t:TA}
theorem Eh {Q:VK}{us:List Value}(M:iL X.K X.mg x C B)(I:Inv X pins σ H s)(hl:us.length<=1)(h:∀a,H a=none->Q (.ref a) (upd H a (XO a C none true))):
  wpAny (model X.prog X.w) X.A (call (.ref C) us) (EP X pins σ Q) X.xe s:=by
 obtain⟨nm,q,N,bs,sn,sub,ab,col,dd,k0,k1,k2,k3,k5,ho⟩:=M.cl.ob
 obtain⟨hh,g,d,t,os⟩:=s
 have fr:H (hh.objs.size + 1)=none:=I.ba.fresh (Nat.le_succ _)
 refine Eg (h:=hh) I.dP (I.dP _ _ ho) M.init (λh' fs hf kp hn=>⟨V.ref (hh.objs.size + 1),_,I.laid (a:=hh.objs.size + 1) kp (Nat.le_succ _) (B4 hn λ_=>hf),rfl,h _ fr⟩) (by rw[sizeLine_eq];omega)
theorem sI (M:iL X.K X.mg x C B)(ha:PA X (e::es) t)(hg:Gl X x:=by rfl)(iD:(x == ("__debug__":Str))=false:=by decide)
  (h1:bz e=true:=by rfl) (h2:es.all bz=true:=by rfl):PE X (.Call (.Name x p) (e::es) [] pos) (Lj C t):=by
 walk_at "xc"
 refine wpAny_Call_Name_kw (fI I hg M.mg ?_ iD)
 refine W.callWith_K (h₀:=X.base) I.ok.mod.og M.cl.kp (bU (ha pos pins s σ H _ I h) λus s1 ⟨vs,H1,I1,r,hl,q⟩=>⟨I1.dP,?_⟩) (bE h1) (cj h2)
 exact Eh M I1 (by show us.length<=1;rw[<-r.length];exact hl) q
end
end
end L2
set_option maxHeartbeats 4000000
namespace PySem
variable {a j:Addr}{aE:Array Value}{b:Bool}{h:Heap}{n:Nat}{Q:Value->Shared->Prop}
section
variable {prog:Program}{w:World}{A:Around}{E:Value->Shared->Prop}{s:Shared}
theorem kb {v:Value}(st:s.heap.IsTupleIter j a n)(ht:s.heap.IsTuple a aE)(hv:aE[n]?=some v)
  (q:∀g,g.IsTupleIter j a (n + 1)->Heap.SameBut j s.heap g->Q v {s with heap:=g}):wpAny (model prog w) A (Builtin.SmallTypes.nextOf (.ref j)) Q E s:=by
 obtain⟨ob,e,c,d⟩:=id st
 obtain⟨ot,et,_,nt,dt⟩:=ht
 unfold Builtin.SmallTypes.nextOf
 refine wpAny_bind (wpAny_callSpecial?_slot (name:=Str.ofString "__next__") st.typeIs F.slot_tuple_iterator_next (wpAny_call_entry F.slot_tuple_iterator_next st.typeIs F.entry_tuple_iterator_next ?_ (F.args_tuple_iterator_next_1 _)))
 refine wpAny_bind (m:=field (.ref j) 0) (wpAny_field e d (x:=.ref a) rfl ?_)
 show wpAny _ _ (if (Value.ref a == Value.none)=true then _ else _) _ _ _
 rw[if_neg (by exact Bool.false_ne_true)]
 refine wpAny_bind (m:=field (.ref j) 1) (wpAny_field e d (x:=.int n 0) rfl ?_)
 refine wpAny_bind (m:=seqItems? (.ref a)) (wpAny_seqItems et dt ?_)
 simp only[Int.toNat_natCast,hv]
 refine wpAny_bind (wpAny_setField e d (by simp) (wpAny_pure ⟨v,rfl,wpAny_pure (q _ ⟨_,Heap.get?_update_self _ e (Obj.isFreed_of_fields (Obj.data_mapFields d _)),(Obj.cls_mapFields ..).trans c,?_⟩ (Heap.SameBut.update ..))⟩))
 rw[Obj.data_mapFields d];simp[rawInt]
theorem kN (hh:A.handled=none)(st:s.heap.IsTupleIter j a n)(ht:s.heap.IsTuple a aE)(hv:aE[n]?=none)
  (q:∀g e,Heap.ExtBut j s.heap g->(∃o,g.get? e=some o/\o.cls=.type "StopIteration")->E (.ref e) {s with heap:=g}):wpAny (model prog w) A (Builtin.SmallTypes.nextOf (.ref j)) Q E s:=by
 obtain⟨ob,e,c,d⟩:=id st
 obtain⟨ot,et,_,nt,dt⟩:=ht
 unfold Builtin.SmallTypes.nextOf
 refine wpAny_bind (wpAny_callSpecial?_slot (name:=Str.ofString "__next__") st.typeIs F.slot_tuple_iterator_next (wpAny_call_entry F.slot_tuple_iterator_next st.typeIs F.entry_tuple_iterator_next ?_ (F.args_tuple_iterator_next_1 _)))
 refine wpAny_bind (m:=field (.ref j) 0) (wpAny_field e d (x:=.ref a) rfl ?_)
 show wpAny _ _ (if (Value.ref a == Value.none)=true then _ else _) _ _ _
 rw[if_neg (by exact Bool.false_ne_true)]
 refine wpAny_bind (m:=field (.ref j) 1) (wpAny_field e d (x:=.int n 0) rfl ?_)
 refine wpAny_bind (m:=seqItems? (.ref a)) (wpAny_seqItems et dt ?_)
 simp only[Int.toNat_natCast,hv]
 refine wpAny_bind (wpAny_rule (wpAny_bind (wpAny_setField e d (by simp) (wpAny_bind (m:=newExc (.type "StopIteration") []) ?_))))
 simp only[newExc,newTuple]
 refine wpAny_bind (wpAny_newObj_type (wpAny_bind (m:=firstArgMember _ _) (wpAny_of_eq (a:=Value.none) (by first | rfl | (simp only[firstArgMember];rfl)) (wpAny_newObj_type ?_ (by size_fits)))) (by size_fits))
 simp only[raiseNew]
 refine wpAny_bind (wpAny_handled ?_)
 first | rw[show A.in1.handled=none from hh] | rw[hh]
 exact wpAny_bind (wpAny_pure (wpAny_throw (q _ _ (((Heap.SameBut.update ..).extBut.push _).push _) ⟨_,Heap.get?_push_size _ rfl,rfl⟩)))
end
theorem Draws.tup{prog:Program}{w:World}{A:Around}(hh:A.handled=none)(j a:Addr)(kM:a≠j)(aE:Array Value):
  Draws prog w A j [j,a] aE.size (λi v=>aE[i]?=some v) (λi h=>h.IsTupleIter j a i/\h.IsTuple a aE) where
 live:=λ_ _ st=>let ⟨o,ho,_⟩:=st.1;⟨o,ho⟩
 frame:=λ_ _ _ st k=>⟨st.1.at λo e=>k j (by simp) o e,st.2.at λo e=>k a (by simp) o e⟩
 item:=λi s Q E hi st q=>kb st.1 st.2 (v:=aE[i]) (by simp[hi]) λg wC sb=>q _ g s.toks (by simp[hi]) ⟨wC,st.2.extBut sb.extBut kM⟩ sb
 done:=λs Q E st q=>kN hh st.1 st.2 (by simp) q
def lS (b:Bool)(h:Heap)(a:Addr)(aE:Array Value):Prop:=if b=true then h.IsList a aE else h.IsTuple a aE
def je (b:Bool)(h:Heap)(j a:Addr)(n:Nat):Prop:=if b=true then h.IsListIter j a n else h.IsTupleIter j a n
theorem lS.at {h':Heap}(x:lS b h a aE)(k:∀o,h.get? a=some o->h'.get? a=some o):lS b h' a aE:=by
 cases b
 ·exact Heap.IsTuple.at x k
 ·exact Heap.IsList.at x k
theorem je.at {h':Heap}(x:je b h j a n)(k:∀o,h.get? j=some o->h'.get? j=some o):je b h' j a n:=by
 cases b
 ·exact Heap.IsTupleIter.at x k
 ·exact Heap.IsListIter.at x k
theorem je.obj(x:je b h j a n):∃o,h.get? j=some o/\∀v,o.data≠.cell v:=by
 cases b <;> (obtain⟨o,e,c,d⟩:=x;exact⟨o,e,λv z=>by rw[d] at z;cases z⟩)
theorem Draws.sq{prog:Program}{w:World}{A:Around}(hh:A.handled=none)(b:Bool)(j a:Addr)(kM:a≠j)(aE:Array Value):
  Draws prog w A j [j,a] aE.size (λi v=>aE[i]?=some v) (λi h=>je b h j a i/\lS b h a aE):=by
 cases b
 ·exact Draws.tup hh j a kM aE
 ·exact Draws.list hh j a kM aE
end PySem
namespace PySem
variable {Q:Option Value->Shared->Prop}
structure ZA (z ti to i1 i2:Addr)(f1 f2:List Addr):Prop where
 a1:ti≠z
 a2:to≠z
 a3:i1≠z
 a4:i2≠z
 a5:ti≠to
 a6:ti≠i1
 a7:ti≠i2
 a8:to≠i1
 a9:to≠i2
 TL:i1≠i2
 b1:z ∉ f1
 b2:to ∉ f1
 b3:i2 ∉ f1
 c1:z ∉ f2
 c2:to ∉ f2
 c3:i1 ∉ f2
section
variable {prog:Program}{w:World}{A:Around}{E:Value->Shared->Prop}{s:Shared}{z ti to i1 i2:Addr}{f1 f2:List Addr}{n1 n2 k:Nat}{P1 P2:Nat->Value->Prop}{S1 S2:Nat->Heap->Prop}{a b:Value}
theorem uL {Q:Value->Shared->Prop}(Z:ZA z ti to i1 i2 f1 f2)(D1:Draws prog w A i1 f1 n1 P1 S1)(D2:Draws prog w A i2 f2 n2 P2 S2)(hz:IsZip s.heap z ti to .none)(Ei:IsPair s.heap ti (.ref i1) (.ref i2))(Ej:IsPair s.heap to a b)
  (s1:S1 k s.heap) (s2:S2 k s.heap) (l1:k < n1) (l2:k < n2)
  (q:∀x y g tk,P1 k x->P2 k y->IsZip g z ti to (rawInt s.heap.objs.size)->IsPair g to x y->S1 (k + 1) g->S2 (k + 1) g->IsPair g s.heap.objs.size x y->g.objs.size=s.heap.objs.size + 1->
   (∀c o,c≠z->c≠to->c≠i1->c≠i2->s.heap.get? c=some o->g.get? c=some o)->Q (.ref s.heap.objs.size) {s with heap:=g,toks:=tk}):
  wpAny (model prog w) A (Builtin.«zip.__next__» ⟨[.ref z],[]⟩) (λfin s'=>∃v,fin=.done (.ret v)/\Q v s') E s:=by
 refine wpAny_bind (m:=field (.ref z) 2) (wpAny_field hz rfl (x:=.bool false) rfl (wpAny_bind (m:=field (.ref z) 3) (wpAny_field hz rfl (x:=.ref ti) rfl ?_)))
 refine wpAny_bind (wpAny_seqItems Ei rfl (wpAny_bind (m:=Builtin.SmallTypes.ownedTupleIsFree (.ref z)) ?_))
 unfold Builtin.SmallTypes.ownedTupleIsFree
 refine wpAny_bind (wpAny_field hz rfl (x:=.none) rfl (wpAny_pure ?_))
 simp only[if_true]
 refine wpAny_bind (wpAny_rule (wpAny_bind (wpAny_field hz rfl (x:=.ref to) rfl (wpAny_bind (wpAny_setField_rec hz (by simp) λg1 uM e1=>?_)))))
 replace uM:IsZip g1 z ti to .ellipsis:=uM
 refine wpAny_bind ?_
 simp only[List.zipIdx_cons,List.zipIdx_nil,List.forIn_cons,List.forIn_nil]
 refine wpAny_bind (wpAny_bind (wpAny_onRaise (wpAny_bind (m:=Builtin.SmallTypes.nextOf (.ref i1)) ?_)))
 refine D1.item k _ _ _ l1 (D1.frame _ _ _ s1 λc hc o e=>e1.extBut c o (λh=>Z.b1 (h ▸ hc)) e) λx g2 NZ px t1 e2=>wpAny_pure ?_
 replace e2:Heap.SameBut i1 g1 g2:=e2
 have xN:IsPair g2 to a b:=e2.extBut _ _ Z.a8 (e1.extBut _ _ Z.a2 Ej)
 refine wpAny_bind (wpAny_seqItems xN rfl (wpAny_bind (wpAny_updateSeq_pair xN λg3 AJ e3=>wpAny_bind (wpAny_letGo (wpAny_pure ?_)))))
 replace AJ:IsPair g3 to x b:=AJ
 replace e3:Heap.SameBut to g2 g3:=e3
 refine wpAny_bind (wpAny_bind (wpAny_onRaise (wpAny_bind (m:=Builtin.SmallTypes.nextOf (.ref i2)) ?_)))
 refine D2.item k _ _ _ l2 (D2.frame _ _ _ s2 λc hc o e=>e3.extBut c o (λh=>Z.c2 (h ▸ hc)) (e2.extBut c o (λh=>Z.c3 (h ▸ hc)) (e1.extBut c o (λh=>Z.c1 (h ▸ hc)) e))) λy g4 TM py t2 e4=>wpAny_pure ?_
 replace e4:Heap.SameBut i2 g3 g4:=e4
 have Hv:IsPair g4 to x b:=e4.extBut _ _ Z.a9 AJ
 refine wpAny_bind (wpAny_seqItems Hv rfl (wpAny_bind (wpAny_updateSeq_pair Hv λg5 AK e5=>wpAny_bind (wpAny_letGo (wpAny_pure (wpAny_pure ?_))))))
 replace AK:IsPair g5 to x y:=AK
 replace e5:Heap.SameBut to g4 g5:=e5
 refine wpAny_bind (wpAny_seqItems AK rfl (wpAny_bind (wpAny_newTuple ?_)))
 have qz:g5.objs.size=s.heap.objs.size:=by rw[e5.1,e4.1,e3.1,e2.1,e1.1]
 have N0:IsZip g5 z ti to .ellipsis:=e5.extBut _ _ Z.a2.symm (e4.extBut _ _ Z.a4.symm (e3.extBut _ _ Z.a2.symm (e2.extBut _ _ Z.a3.symm uM)))
 have k5:∀c o,c≠z->c≠to->c≠i1->c≠i2->s.heap.get? c=some o->g5.get? c=some o:=λc o c1 c2 c3 c4 e=>e5.extBut _ _ c2 (e4.extBut _ _ c4 (e3.extBut _ _ c2 (e2.extBut _ _ c3 (e1.extBut _ _ c1 e))))
 have u1:S1 (k + 1) g5:=D1.frame _ _ _ t1 λc hc o e=>e5.extBut c o (λh=>Z.b2 (h ▸ hc)) (e4.extBut c o (λh=>Z.b3 (h ▸ hc)) (e3.extBut c o (λh=>Z.b2 (h ▸ hc)) e))
 have u2:S2 (k + 1) g5:=D2.frame _ _ _ t2 λc hc o e=>e5.extBut c o (λh=>Z.c2 (h ▸ hc)) e
 have Oa:z < g5.objs.size:=Heap.lt_size N0
 refine wpAny_bind (m:=Builtin.SmallTypes.ownedTupleHandOut (.ref z) (.ref g5.objs.size)) ?_
 unfold Builtin.SmallTypes.ownedTupleHandOut
 have Qv:IsZip (g5.push {cls:=.type "tuple",data:=.seq #[x,y]}) z ti to .ellipsis:=Heap.get?_push_of_some _ N0
 refine wpAny_bind (wpAny_setField_rec Qv (by simp) λg7 Lk e7=>?_)
 replace Lk:IsZip g7 z ti to (rawInt g5.objs.size):=Lk
 refine wpAny_setField_rec Lk (by simp) λg8 JL e8=>?_
 replace JL:IsZip g8 z ti to (rawInt g5.objs.size):=JL
 have up:∀c o,c≠z->g5.get? c=some o->g8.get? c=some o:=λc o c1 e=>e8.extBut _ _ c1 (e7.extBut _ _ c1 (Heap.get?_push_of_some _ e))
 have hT:IsPair g8 g5.objs.size x y:=e8.extBut _ _ (Nat.ne_of_gt Oa) (e7.extBut _ _ (Nat.ne_of_gt Oa) (Heap.get?_push_size _ rfl))
 have Ob:g8.objs.size=g5.objs.size + 1:=by rw[e8.1,e7.1,Heap.size_push]
 rw[qz] at JL hT Ob
 refine wpAny_pure ⟨_,rfl,?_⟩
 show Q (.ref g5.objs.size) _
 rw[qz]
 exact q x y g8 _ px py JL (up _ _ Z.a2 AK) (D1.frame _ _ _ u1 λc hc o e=>up c o (λh=>Z.b1 (h ▸ hc)) e) (D2.frame _ _ _ u2 λc hc o e=>up c o (λh=>Z.c1 (h ▸ hc)) e) hT Ob λc o c1 c2 c3 c4 e=>up c o c1 (k5 c o c1 c2 c3 c4 e)
theorem xO {Q:Fin->Shared->Prop}(Z:ZA z ti to i1 i2 f1 f2)(D1:Draws prog w A i1 f1 n1 P1 S1)(D2:Draws prog w A i2 f2 n2 P2 S2)(hz:IsZip s.heap z ti to .none)(Ei:IsPair s.heap ti (.ref i1) (.ref i2))(Ej:IsPair s.heap to a b)
  (s1:S1 k s.heap) (s2:S2 k s.heap) (l:k=n1\/(k < n1/\k=n2))
  (q:∀g e tk,(∀c o,c≠z->c≠to->c≠i1->c≠i2->s.heap.get? c=some o->g.get? c=some o)->(∃o,g.get? e=some o/\o.cls=.type "StopIteration")->E (.ref e) {s with heap:=g,toks:=tk}):
  wpAny (model prog w) A (Builtin.«zip.__next__» ⟨[.ref z],[]⟩) Q E s:=by
 refine wpAny_bind (m:=field (.ref z) 2) (wpAny_field hz rfl (x:=.bool false) rfl (wpAny_bind (m:=field (.ref z) 3) (wpAny_field hz rfl (x:=.ref ti) rfl ?_)))
 refine wpAny_bind (wpAny_seqItems Ei rfl (wpAny_bind (m:=Builtin.SmallTypes.ownedTupleIsFree (.ref z)) ?_))
 unfold Builtin.SmallTypes.ownedTupleIsFree
 refine wpAny_bind (wpAny_field hz rfl (x:=.none) rfl (wpAny_pure ?_))
 simp only[if_true]
 refine wpAny_bind (wpAny_rule (wpAny_bind (wpAny_field hz rfl (x:=.ref to) rfl (wpAny_bind (wpAny_setField_rec hz (by simp) λg1 uM e1=>?_)))))
 replace uM:IsZip g1 z ti to .ellipsis:=uM
 refine wpAny_bind ?_
 simp only[List.zipIdx_cons,List.zipIdx_nil,List.forIn_cons,List.forIn_nil]
 refine wpAny_bind (wpAny_bind (wpAny_onRaise (wpAny_bind (m:=Builtin.SmallTypes.nextOf (.ref i1)) ?_)))
 have Oc:=D1.frame _ _ _ s1 λc hc o e=>e1.extBut c o (λh=>Z.b1 (h ▸ hc)) e
 rcases l with l | ⟨l1,l2⟩
 ·subst l
  refine D1.done _ _ _ Oc λg2 x e2 ⟨ox,hx,cx⟩=>?_
  replace e2:Heap.ExtBut i1 g1 g2:=e2
  have Ek:IsZip g2 z ti to .ellipsis:=e2 _ _ Z.a3.symm uM
  have Ll:x≠z:=λy=>by subst y;rw[Ek] at hx;cases hx;simp at cx
  exact wpAny_setField_rec Ek (by simp) λg3 _ e3=>q g3 x s.toks (λc o c1 _ c3 _ y=>e3.extBut _ _ c1 (e2 _ _ c3 (e1.extBut _ _ c1 y))) ⟨ox,e3.extBut _ _ Ll hx,cx⟩
 ·subst l2
  refine D1.item k _ _ _ l1 Oc λx g2 NZ px t1 e2=>wpAny_pure ?_
  replace e2:Heap.SameBut i1 g1 g2:=e2
  have xN:IsPair g2 to a b:=e2.extBut _ _ Z.a8 (e1.extBut _ _ Z.a2 Ej)
  refine wpAny_bind (wpAny_seqItems xN rfl (wpAny_bind (wpAny_updateSeq_pair xN λg3 AJ e3=>wpAny_bind (wpAny_letGo (wpAny_pure ?_)))))
  replace e3:Heap.SameBut to g2 g3:=e3
  refine wpAny_bind (wpAny_bind (wpAny_onRaise (wpAny_bind (m:=Builtin.SmallTypes.nextOf (.ref i2)) ?_)))
  refine D2.done _ _ _ (D2.frame _ _ _ s2 λc hc o e=>e3.extBut c o (λh=>Z.c2 (h ▸ hc)) (e2.extBut c o (λh=>Z.c3 (h ▸ hc)) (e1.extBut c o (λh=>Z.c1 (h ▸ hc)) e))) λg4 x e4 ⟨ox,hx,cx⟩=>?_
  replace e4:Heap.ExtBut i2 g3 g4:=e4
  have Od:IsZip g4 z ti to .ellipsis:=e4 _ _ Z.a4.symm (e3.extBut _ _ Z.a2.symm (e2.extBut _ _ Z.a3.symm uM))
  have Ll:x≠z:=λy=>by subst y;rw[Od] at hx;cases hx;simp at cx
  exact wpAny_setField_rec Od (by simp) λg5 _ e5=>q g5 x NZ (λc o c1 c2 c3 c4 y=>e5.extBut _ _ c1 (e4 _ _ c4 (e3.extBut _ _ c2 (e2.extBut _ _ c3 (e1.extBut _ _ c1 y))))) ⟨ox,e5.extBut _ _ Ll hx,cx⟩
end
section
variable {prog:Program}{w:World}{A:Around}{E:Value->Shared->Prop}{s:Shared}{z ti to i1 i2:Addr}{f1 f2:List Addr}{n1 n2 k:Nat}{P1 P2:Nat->Value->Prop}{S1 S2:Nat->Heap->Prop}{a b:Value}
theorem lT (Z:ZA z ti to i1 i2 f1 f2)(D1:Draws prog w A.in1 i1 f1 n1 P1 S1)(D2:Draws prog w A.in1 i2 f2 n2 P2 S2)(hz:IsZip s.heap z ti to .none)(Ei:IsPair s.heap ti (.ref i1) (.ref i2))(Ej:IsPair s.heap to a b)
  (s1:S1 k s.heap) (s2:S2 k s.heap) (l1:k < n1) (l2:k < n2)
  (q:∀x y g tk,P1 k x->P2 k y->IsZip g z ti to (rawInt s.heap.objs.size)->IsPair g to x y->S1 (k + 1) g->S2 (k + 1) g->IsPair g s.heap.objs.size x y->g.objs.size=s.heap.objs.size + 1->
   (∀c o,c≠z->c≠to->c≠i1->c≠i2->s.heap.get? c=some o->g.get? c=some o)->Q (some (.ref s.heap.objs.size)) {s with heap:=g,toks:=tk}):
  wpAny (model prog w) A (pyNext (.ref z)) Q E s:=by
 have hT:s.TypeIs (.ref z) "zip":=⟨_,hz,rfl⟩
 unfold pyNext
 exact wpAny_bind (wpAny_attempt (wpAny_callSpecial?_slot (name:=Str.ofString "__next__") hT F.slot_zip_next (wpAny_call_entry F.slot_zip_next hT F.entry_zip_next
  (uL Z D1 D2 hz Ei Ej s1 s2 l1 l2 λx y g tk p1 p2 a1 a2 a3 a4 a5 a6 a7=>wpAny_pure (q x y g tk p1 p2 a1 a2 a3 a4 a5 a6 a7)) (F.args_zip_next_1 _))))
theorem nC (Z:ZA z ti to i1 i2 f1 f2)(D1:Draws prog w A.in1 i1 f1 n1 P1 S1)(D2:Draws prog w A.in1 i2 f2 n2 P2 S2)(hz:IsZip s.heap z ti to .none)(Ei:IsPair s.heap ti (.ref i1) (.ref i2))(Ej:IsPair s.heap to a b)
  (s1:S1 k s.heap) (s2:S2 k s.heap) (l:k=n1\/(k < n1/\k=n2))
  (q:∀g tk,(∀c o,c≠z->c≠to->c≠i1->c≠i2->s.heap.get? c=some o->g.get? c=some o)->Q none {s with heap:=g,toks:=tk}):wpAny (model prog w) A (pyNext (.ref z)) Q E s:=by
 have hT:s.TypeIs (.ref z) "zip":=⟨_,hz,rfl⟩
 unfold pyNext
 refine wpAny_bind (wpAny_attempt (wpAny_callSpecial?_slot (name:=Str.ofString "__next__") hT F.slot_zip_next (wpAny_call_entry F.slot_zip_next hT F.entry_zip_next
  (xO Z D1 D2 hz Ei Ej s1 s2 l λg e tk kk ⟨o,ho,hc⟩=>?_) (F.args_zip_next_1 _))))
 exact wpAny_bind (wpAny_isInstance (T:="StopIteration") (b:=true) ⟨o,ho,hc⟩ isSubtype_stop (wpAny_pure (q _ _ kk)))
end
def zR (b:Bool)(a:Addr):Obj:=if b=true then {cls:=.type "list_iterator",data:=.fields #[.ref a,.int 0 0]} else {cls:=.type "tuple_iterator",data:=.fields #[.ref a,.int 0 0]}
abbrev JM (h:Heap)(b:Bool)(l:Addr):Heap:=h.push (zR b l)
abbrev JN (h:Heap)(b c:Bool)(l m:Addr):Heap:=(JM h b l).push (zR c m)
abbrev JO (h:Heap)(b c:Bool)(l m:Addr):Heap:=(JN h b c l m).push {cls:=.type "tuple",data:=.seq #[.ref h.objs.size,.ref (JM h b l).objs.size]}
abbrev JP (h:Heap)(b c:Bool)(l m:Addr):Heap:=(JO h b c l m).push {cls:=.type "tuple",data:=.seq #[.none,.none]}
abbrev El (h:Heap)(b c:Bool)(l m:Addr):Heap:=(JP h b c l m).push {cls:=.type "zip",data:=.fields #[.none,.bool false,.bool false,.ref (JN h b c l m).objs.size,.ref (JO h b c l m).objs.size]}
theorem uN (b c:Bool)(l m:Addr)(xs ys:Array Value):
  Meets (Builtin.«zip.__new__» ⟨[.type "zip",.ref l,.ref m],[]⟩) (λ_ R s=>lS b s.heap l xs/\lS c s.heap m ys/\R (.ok (.ret (.ref (JP s.heap b c l m).objs.size))) {s with heap:=El s.heap b c l m}):=
 .of_wp λprog w A R s h=>by
  obtain⟨hp,g,d,tk,os⟩:=s
  obtain⟨h1,h2,h⟩:=h
  have Lm:=sub_zip
  cases b <;> cases c
  ·have L1:Heap.IsTuple (Shared.heap ⟨hp,g,d,tk,os⟩) l xs:=h1
   have L2:Heap.IsTuple (Shared.heap ⟨hp.push {cls:=.type "tuple_iterator",data:=.fields #[.ref l,.int 0 0]},g,d,tk,os⟩) m ys:=Heap.IsTuple.push h2 _
   wp_walk using wpAny_pyIter_tuple L1,wpAny_pyIter_tuple L2
   exact⟨_,rfl,h⟩
  ·have L1:Heap.IsTuple (Shared.heap ⟨hp,g,d,tk,os⟩) l xs:=h1
   have L2:Heap.IsList (Shared.heap ⟨hp.push {cls:=.type "tuple_iterator",data:=.fields #[.ref l,.int 0 0]},g,d,tk,os⟩) m ys:=Heap.IsList.push h2 _
   wp_walk using wpAny_pyIter_tuple L1,wpAny_pyIter_list L2
   exact⟨_,rfl,h⟩
  ·have L1:Heap.IsList (Shared.heap ⟨hp,g,d,tk,os⟩) l xs:=h1
   have L2:Heap.IsTuple (Shared.heap ⟨hp.push {cls:=.type "list_iterator",data:=.fields #[.ref l,.int 0 0]},g,d,tk,os⟩) m ys:=Heap.IsTuple.push h2 _
   wp_walk using wpAny_pyIter_list L1,wpAny_pyIter_tuple L2
   exact⟨_,rfl,h⟩
  ·have L1:Heap.IsList (Shared.heap ⟨hp,g,d,tk,os⟩) l xs:=h1
   have L2:Heap.IsList (Shared.heap ⟨hp.push {cls:=.type "list_iterator",data:=.fields #[.ref l,.int 0 0]},g,d,tk,os⟩) m ys:=Heap.IsList.push h2 _
   wp_walk using wpAny_pyIter_list L1,wpAny_pyIter_list L2
   exact⟨_,rfl,h⟩
theorem kP (b:Bool)(a:Addr):(zR b a).isFreed=false:=by cases b <;> rfl
theorem ra {b:Bool}{h:Heap}{j a:Addr}(e:h.get? j=some (zR b a)):je b h j a 0:=by
 cases b
 ·exact⟨_,e,rfl,rfl⟩
 ·exact⟨_,e,rfl,rfl⟩
theorem xP {prog:Program}{w:World}{A:Around}{E:Value->Shared->Prop}{s:Shared}{b c:Bool}{l m:Addr}{xs ys:Array Value}{Q:Value->Shared->Prop}(h1:lS b s.heap l xs)(h2:lS c s.heap m ys)
  (q:∀g,IsZip g (s.heap.objs.size + 4) (s.heap.objs.size + 2) (s.heap.objs.size + 3) .none->IsPair g (s.heap.objs.size + 2) (.ref s.heap.objs.size) (.ref (s.heap.objs.size + 1))->
   IsPair g (s.heap.objs.size + 3) .none .none->je b g s.heap.objs.size l 0->je c g (s.heap.objs.size + 1) m 0->g.objs.size=s.heap.objs.size + 5->
   (∀d o,s.heap.get? d=some o->g.get? d=some o)->Q (.ref (s.heap.objs.size + 4)) {s with heap:=g}):
  wpAny (model prog w) A (call (.type "zip") [.ref l,.ref m]) Q E s:=by
 refine callType_new F.called_zip (by decide) (F.typeCall_zip_2 _ _) (F.newCall_zip_2 _ _) (λobj=>F.args_object_init_3 obj _ _) F.entry_zip_new (uN b c l m xs ys) ⟨h1,h2,?_⟩
 have y1:(JM s.heap b l).objs.size=s.heap.objs.size + 1:=Heap.size_push ..
 have y2:(JN s.heap b c l m).objs.size=s.heap.objs.size + 2:=by rw[Heap.size_push,y1]
 have y3:(JO s.heap b c l m).objs.size=s.heap.objs.size + 3:=by rw[Heap.size_push,y2]
 have y4:(JP s.heap b c l m).objs.size=s.heap.objs.size + 4:=by rw[Heap.size_push,y3]
 have y5:(El s.heap b c l m).objs.size=s.heap.objs.size + 5:=by rw[Heap.size_push,y4]
 have e5:(El s.heap b c l m).get? (JP s.heap b c l m).objs.size=some _:=Heap.get?_push_size _ rfl
 have e4:(El s.heap b c l m).get? (JO s.heap b c l m).objs.size=some _:=Heap.get?_push_of_some _ (Heap.get?_push_size _ rfl)
 have e3:(El s.heap b c l m).get? (JN s.heap b c l m).objs.size=some _:=Heap.get?_push_of_some _ (Heap.get?_push_of_some _ (Heap.get?_push_size _ rfl))
 have e2:(El s.heap b c l m).get? (JM s.heap b l).objs.size=some (zR c m):=Heap.get?_push_of_some _ (Heap.get?_push_of_some _ (Heap.get?_push_of_some _ (Heap.get?_push_size _ (kP ..))))
 have e1:(El s.heap b c l m).get? s.heap.objs.size=some (zR b l):=Heap.get?_push_of_some _ (Heap.get?_push_of_some _ (Heap.get?_push_of_some _ (Heap.get?_push_of_some _ (Heap.get?_push_size _ (kP ..)))))
 show _/\_
 rw[y2,y3,y4] at e5
 rw[y1,y2] at e3
 rw[y3] at e4
 rw[y1] at e2
 rw[y4]
 exact⟨⟨_,e5,rfl⟩,q _ e5 e3 e4 (ra e1) (ra e2) y5 λd o x=>Heap.get?_push_of_some _ (Heap.get?_push_of_some _ (Heap.get?_push_of_some _ (Heap.get?_push_of_some _ (Heap.get?_push_of_some _ x))))⟩
theorem kQ (l:Addr)(aE:Array Value):
  Meets (Builtin.«enumerate.__new__» ⟨[.type "enumerate",.ref l],[]⟩) (λ_ R s=>s.heap.IsTuple l aE/\
   R (.ok (.ret (.ref (s.heap.push (zR false l)).objs.size))) {s with heap:=(s.heap.push (zR false l)).push {cls:=.type "enumerate",data:=.fields #[.none,.bool false,.ref s.heap.objs.size,rawInt 0,.none,.none]}}):=
 .of_wp λprog w A R s h=>by
  obtain⟨hp,g,d,tk,os⟩:=s
  obtain⟨hl,h⟩:=h
  have Lm:=sub_enumerate
  have L1:Heap.IsTuple (Shared.heap ⟨hp,g,d,tk,os⟩) l aE:=hl
  obtain⟨ob,eo,co,no,TN⟩:=id hl
  replace eo:hp.get? l=some ob:=eo
  wp_walk using AutoSeq1.wpAny_loadPart' eo
  refine wpAny_stack_any λst=>wpAny_pure ?_
  split
  ·rename_i c _ _ _ _ _
   cases(c == Value.type "enumerate")
   ·wp_walk using AutoSeq1.wpAny_loadPart' eo,wpAny_pyIter_tuple L1
    exact⟨_,rfl,h⟩
   ·wp_walk using AutoSeq1.wpAny_loadPart' eo,wpAny_pyIter_tuple L1
    exact⟨_,rfl,h⟩
  ·wp_walk using AutoSeq1.wpAny_loadPart' eo,wpAny_pyIter_tuple L1
   exact⟨_,rfl,h⟩
end PySem
namespace L2
open PySem PySem.Spec PyProof.Rows
section
variable {a:Addr}{xs:List V}
section
variable {X:Cx}{pins:List (Addr×Obj)}{σ:St}{H:Hp}{s:Shared}
theorem Inv.sJ{t':Nat}{ch:List Addr}{h':Heap}(I:Inv X pins σ H s)(hf:∀b ∈ ch,i8 X pins H b)(k:∀b o,b ∉ ch->s.heap.get? b=some o->h'.get? b=some o):Inv X pins σ H {s with heap:=h',toks:=t'}:=by
 have Bz:∀b u,H b=some u->b ∉ ch:=λb u e z=>by rw[(hf b z).1] at e;cases e
 refine I.step (g':=s.gens) (d':=s.drawn) (ch:=ch) (λb hb=>?_) (λb o _ _ hc e _=>k b o hc e) (λb o _ _ hc e _=>⟨o.slots,k b o hc e⟩) (λ_ _ _ _ n=>n) (λb o hc e=>⟨o,k b o hc e⟩) (λ_ _ e=>e) (λ_ _ _ e=>e) (λb ps e=>⟨#[],by rw[e];simp⟩) (λm hm=>?_) (λb u e=>?_) I.bare
 ·obtain⟨f0,f1,f2,f3,f4,f5⟩:=hf b hb
  exact⟨f3,f1,f4,f5⟩
 ·obtain⟨o,es,ep,ho,r⟩:=hm
  exact⟨o,es,ep,k _ o (λz=>(hf _ z).2.1 rfl) ho,r⟩
 ·refine(I.ba b u e).aY (λc v hc q=>k c v ?_ q) (λ_ q=>q) λ_ _ q=>q
  rcases hc with z | z
  ·rw[z];exact Bz b u e
  ·exact Bz c _ z
theorem Inv.sL{t':Nat}{ch:List Addr}{h':Heap}{T:Addr}{aE:List Value}(I:Inv X pins σ H s)(hf:∀b ∈ ch,i8 X pins H b)(k:∀b o,b ∉ ch->s.heap.get? b=some o->h'.get? b=some o)
  (hT:s.heap.objs.size<=T) (hv:Vals xs aE) (hz:xs.length<=sizeLine) (ht:IsTup h' T aE.toArray):Inv X pins σ (upd H T (.tup xs)) {s with heap:=h',toks:=t'}:=by
 have Bz:∀b u,H b=some u->b ∉ ch:=λb u e z=>by rw[(hf b z).1] at e;cases e
 have AL:H T=none:=I.ba.fresh hT
 have nT:∀b o,s.heap.get? b=some o->b≠T:=λb o e=>Nat.ne_of_lt (Nat.lt_of_lt_of_le (Heap.lt_size e) hT)
 refine I.step (g':=s.gens) (d':=s.drawn) (ch:=ch) (λb hb=>?_) (λb o _ _ hc e _=>k b o hc e) (λb o _ _ hc e _=>⟨o.slots,k b o hc e⟩) (λb o _ e n=>by rw[ay (nT b o e)];exact n) (λb o hc e=>⟨o,k b o hc e⟩)
  (λb ys e=>by rw[ay (ao e AL)];exact e) (λb o u e=>by rw[ay (ao e AL)];exact e) (λb ps e=>⟨#[],by rw[ay (ao e AL),e];simp⟩) (λm hm=>?_) (λb u e=>?_) I.bare
 ·obtain⟨f0,f1,f2,f3,f4,f5⟩:=hf b hb
  exact⟨f3,f1,f4,f5⟩
 ·obtain⟨o,es,ep,ho,r⟩:=hm
  exact⟨o,es,ep,k _ o (λz=>(hf _ z).2.1 rfl) ho,r⟩
 ·by_cases hb:b=T
  ·subst hb
   rw[ag] at e
   cases e
   exact⟨hz,aE,hv,ht⟩
  ·rw[ay hb] at e
   refine(I.ba b u e).aY (λc v hc q=>k c v ?_ q) (λc q=>by rw[ay (ao q AL)];exact q) λc ys q=>by rw[ay (ao q AL)];exact q
   rcases hc with z | z
   ·rw[z];exact Bz b u e
   ·exact Bz c _ z
def Sq (b:Bool)(K:W.Frag)(H:Hp)(a:Addr)(xs:List V):Prop:=if b=true then aX K H a xs else bM K H a xs
theorem Sq.l{K:W.Frag}(h:H a=some (.lst xs)):Sq true K H a xs:=aX.of h
theorem Sq.t{K:W.Frag}(h:H a=some (.tup xs)):Sq false K H a xs:=bM.of h
theorem Inv.sq(I:Inv X pins σ H s){b:Bool}{a:Addr}{xs:List V}(h:Sq b X.K H a xs):∃aE:List Value,Vals xs aE/\lS b s.heap a aE.toArray/\xs.length<=sizeLine:=by
 cases b
 ·exact I.tuple h
 ·obtain⟨aE,r,p,z⟩:=I.list h
  exact⟨aE,r,p.isList,z⟩
theorem Inv.rb(I:Inv X pins σ H s){b:Bool}{a:Addr}{xs ys:List V}(h:Sq b X.K H a xs)(h':Sq b X.K H a ys):xs=ys:=by
 cases b
 ·exact I.mi h h'
 ·exact I.ow h h'
theorem B5 {u:HO}{b:Addr}(h:Rd H a u)(hn:H b=none):a≠b:=λz=>by
 subst z
 rcases h with h | ⟨o,h⟩ <;> (rw[hn] at h;cases h)
theorem Inv.kR(I:Inv X pins σ H s){b:Bool}{a c:Addr}{xs:List V}(h:Sq b X.K H a xs)(hf:i8 X pins H c):a≠c:=by
 have key:∀o,X.K.lookup a=some o->a≠c:=λo e z=>by
  subst z
  have e':=I.ok.mod.og a o e
  rcases hf.2.2.2.1 with y | y
  ·exact I.ok.oq a o e' y
  ·exact absurd (Nat.lt_of_lt_of_le (Nat.lt_of_lt_of_le (Heap.lt_size e') I.ok.t5) y) (Nat.lt_irrefl _)
 cases b
 ·rcases h with h | ⟨o,aE,n,hk,_⟩
  ·exact B5 h hf.1
  ·exact key o hk
 ·rcases h with h | ⟨o,aE,n,hk,_⟩
  ·exact B5 h hf.1
  ·exact key o hk
end
end
section
def FQ (b:Bool)(K:W.Frag)(a:Addr):It:=
 ⟨λi H=>∃xs x,Sq b K H a xs/\xs[i]?=some x,λi H y H'=>∃T,H T=none/\y=.ref T/\∀xs,Sq b K H a xs->∃x,xs[i]?=some x/\H'=upd H T (.tup [.int i,x]),λi H=>∃xs,Sq b K H a xs/\xs.length=i⟩
def Ln (b c:Bool)(K:W.Frag)(a d:Addr):It:=
  ⟨λi H=>∃xs ys x y,Sq b K H a xs/\Sq c K H d ys/\xs[i]?=some x/\ys[i]?=some y,λi H v H'=>∃T,H T=none/\v=.ref T/\∀xs ys,Sq b K H a xs->Sq c K H d ys->∃x y,xs[i]?=some x/\ys[i]?=some y/\H'=upd H T (.tup [x,y]),
   λi H=>∃xs ys,Sq b K H a xs/\Sq c K H d ys/\(i=xs.length\/(i < xs.length/\i=ys.length))⟩
theorem oW {a b:V}:([a,b]:List V).length<=sizeLine:=by show 2<=sizeLine;decide
theorem nE {aE:List Value}{i:Nat}{u:Value}(h:aE[i]?=some u):i < aE.toArray.size:=by
 have:=(List.getElem?_eq_some_iff.mp h).1
 simpa using this
theorem uO {P:Program}{w:World}{K:W.Frag}{es:List Expr}{kt:Nat}{tp:Pos}(b:Bool)(e j a:Addr)(Lo:e≠j):
  Turn P w K (.Tuple es kt tp) (FQ b K a) [e,j] e (λi h=>(∃old,IsEnum h e j i old)/\je b h j a i) where
 mem:=by simp
 obj:=λi h st c hc=>by
  obtain⟨⟨old,he⟩,hj⟩:=st
  simp only[List.mem_cons,List.not_mem_nil,or_false] at hc
  rcases hc with rfl | rfl
  ·exact⟨_,he,λv z=>by
    have z':Data.fields _=Data.cell v:=z
    cases z'⟩
  ·exact hj.obj
 keep:=λi h h' st k=>by
  obtain⟨⟨old,he⟩,hj⟩:=st
  exact⟨⟨old,k e (by simp) _ he⟩,hj.at λo q=>k j (by simp) o q⟩
 item:=by
  intro X hP hw hK hc i pins s σ H E I hf st hg
  subst hP hw hK
  obtain⟨⟨old,he⟩,hj⟩:=st
  obtain⟨xs,x,hq,hx⟩:=hg
  obtain⟨aE,rv,p,hz⟩:=I.sq hq
  obtain⟨u,hu,ru⟩:=rv.get hx
  have Qw:a≠e:=I.kR hq (hf e (by simp))
  have Lp:a≠j:=I.kR hq (hf j (by simp))
  have D:=Draws.sq (prog:=X.prog) (w:=X.w) (A:=X.A.in1) (show X.A.in1.handled=none from I.ok.hd hc) b j a Lp aE.toArray
  refine wpAny_pyNext_enum_itemD D he ⟨hj,p⟩ (nE hu) Lo (by simp[Lo,Ne.symm Qw]) λy h1 tk py ho s1 hT sz kk=>?_
  have ey:y=u:=by
   have:aE.toArray[i]?=some u:=by simpa using hu
   exact Option.some.inj (py.symm.trans this)
  subst ey
  refine⟨_,rfl,wpAny_letOwnedTupleGo_enum ho λh2 Qx qg=>?_⟩
  have k2:∀c o,c ∉ [e,j]->s.heap.get? c=some o->h2.get? c=some o:=λc o Hw q=>(qg.2 c λz=>Hw (by simp[z])).trans (kk c o (λz=>Hw (by simp[z])) (λz=>Hw (by simp[z])) q)
  have vQ:s.heap.objs.size≠e:=Nat.ne_of_gt (Heap.lt_size he)
  have Lq:IsTup h2 s.heap.objs.size ([.int i tk,y]:List Value).toArray:=⟨_,(qg.2 _ vQ).trans hT,rfl,_,rfl⟩
  have AL:H s.heap.objs.size=none:=I.ba.fresh (Nat.le_refl _)
  refine⟨.ref s.heap.objs.size,upd H s.heap.objs.size (.tup [.int i,x]),I.sL hf k2 (Nat.le_refl _) (.cons ⟨tk,rfl⟩ (.cons ru .nil)) oW Lq,rfl,⟨_,AL,rfl,λys hy=>⟨x,by rw[I.rb hy hq];exact hx,rfl⟩⟩,⟨⟨y,?_⟩,?_⟩,λc xh=>?_⟩
  ·simpa using Qx
  ·exact s1.1.at λo q=>(qg.2 j (Ne.symm Lo)).trans q
  ·have kM:c≠s.heap.objs.size:=by
    simp only[List.mem_cons,List.not_mem_nil,or_false] at xh
    rcases xh with rfl | rfl
    ·exact Ne.symm vQ
    ·obtain⟨o,kC,_⟩:=hj.obj
     exact Nat.ne_of_lt (Heap.lt_size kC)
   rw[ay kM]
   exact(hf c xh).1
 done:=by
  intro X hP hw hK hc i pins s σ H E I hf st hg
  subst hP hw hK
  obtain⟨⟨old,he⟩,hj⟩:=st
  obtain⟨xs,hq,hx⟩:=hg
  obtain⟨aE,rv,p,hz⟩:=I.sq hq
  have Lp:a≠j:=I.kR hq (hf j (by simp))
  have D:=Draws.sq (prog:=X.prog) (w:=X.w) (A:=X.A.in1) (show X.A.in1.handled=none from I.ok.hd hc) b j a Lp aE.toArray
  have hl:aE.toArray.size=i:=by have:=rv.length;simp;omega
  refine wpAny_pyNext_enum_endD D he (by rw[hl];exact⟨hj,p⟩) λh' kk=>⟨rfl,I.sJ (t':=s.toks) hf λc o Hw q=>kk c o (λz=>Hw (by simp[z])) q⟩
 self:=λ_ _ _ _ _ st h=>by
  obtain⟨⟨old,he⟩,hj⟩:=st
  exact wpAny_pyIter_enum he h
theorem uP {prog:Program}{w:World}{A:Around}{E:Value->Shared->Prop}{s:Shared}{b:Bool}{l:Addr}{aE:Array Value}{Q:Value->Shared->Prop}(hL:lS b s.heap l aE)
  (q:∀g,IsEnum g (s.heap.objs.size + 1) s.heap.objs.size 0 .none->je b g s.heap.objs.size l 0->g.objs.size=s.heap.objs.size + 2->(∀c o,s.heap.get? c=some o->g.get? c=some o)->Q (.ref (s.heap.objs.size + 1)) {s with heap:=g}):
  wpAny (model prog w) A (call (.type "enumerate") [.ref l]) Q E s:=by
 cases b
 ·refine callType_new F.called_enumerate (by decide) (F.typeCall_enumerate_1 _) (F.newCall_enumerate_1 _) (λobj=>F.args_object_init_2 obj _) F.entry_enumerate_new (kQ l aE) ⟨hL,?_⟩
  have hz:(s.heap.push (zR false l)).objs.size=s.heap.objs.size + 1:=Heap.size_push ..
  show _/\_
  rw[hz]
  have he:=Heap.get?_push_size (s.heap.push (zR false l)) (o:={cls:=.type "enumerate",data:=.fields #[.none,.bool false,.ref s.heap.objs.size,rawInt 0,.none,.none]}) rfl
  rw[hz] at he
  refine⟨⟨_,he,rfl⟩,q _ he (ra (Heap.get?_push_of_some _ (Heap.get?_push_size _ (kP ..)))) (by rw[Heap.size_push,hz]) λc o x=>Heap.get?_push_of_some _ (Heap.get?_push_of_some _ x)⟩
 ·exact call_enumerate_list hL q
theorem xQ {P:Program}{w:World}{K:W.Frag}{es:List Expr}{kt:Nat}{tp:Pos}(b c:Bool)(z ti to i1 i2 a d:Addr)(N:[z,ti,to,i1,i2].Nodup):
  Turn P w K (.Tuple es kt tp) (Ln b c K a d) [z,ti,to,i1,i2] z (λi h=>IsZip h z ti to .none/\IsPair h ti (.ref i1) (.ref i2)/\(∃u v,IsPair h to u v)/\je b h i1 a i/\je c h i2 d i) where
 mem:=by simp
 obj:=λi h st e he=>by
  obtain⟨g1,g2,⟨u,v,g3⟩,g4,g5⟩:=st
  simp only[List.mem_cons,List.not_mem_nil,or_false] at he
  rcases he with rfl | rfl | rfl | rfl | rfl
  ·exact⟨_,g1,λv z=>by
    have z':Data.fields _=Data.cell v:=z
    cases z'⟩
  ·exact⟨_,g2,λv z=>by
    have z':Data.seq _ _=Data.cell v:=z
    cases z'⟩
  ·exact⟨_,g3,λv z=>by
    have z':Data.seq _ _=Data.cell v:=z
    cases z'⟩
  ·exact g4.obj
  ·exact g5.obj
 keep:=λi h h' st k=>by
  obtain⟨g1,g2,⟨u,v,g3⟩,g4,g5⟩:=st
  exact⟨k z (by simp) _ g1,k ti (by simp) _ g2,⟨u,v,k to (by simp) _ g3⟩,g4.at λo q=>k i1 (by simp) o q,g5.at λo q=>k i2 (by simp) o q⟩
 item:=by
  intro X hP hw hK hc i pins s σ H E I hf st hg
  subst hP hw hK
  obtain⟨g1,g2,⟨u0,v0,g3⟩,g4,g5⟩:=st
  obtain⟨xs,ys,x,y,hq,hr,hx,hy⟩:=hg
  obtain⟨aE,rv,p,hz⟩:=I.sq hq
  obtain⟨Hx,rt,pt,Oe⟩:=I.sq hr
  obtain⟨u,hu,ru⟩:=rv.get hx
  obtain⟨v,hv,Qy⟩:=rt.get hy
  have na:∀e ∈ [z,ti,to,i1,i2],e≠a:=λe he=>Ne.symm (I.kR hq (hf e he))
  have nd:∀e ∈ [z,ti,to,i1,i2],e≠d:=λe he=>Ne.symm (I.kR hr (hf e he))
  simp only[List.nodup_cons,List.mem_cons,List.not_mem_nil,or_false,not_or,List.nodup_nil,not_false_eq_true,and_true] at N
  obtain⟨⟨n1,n2,n3,n4⟩,⟨n5,n6,n7⟩,⟨n8,n9⟩,Em⟩:=N
  have hh:X.A.in1.handled=none:=I.ok.hd hc
  have D1:=Draws.sq (prog:=X.prog) (w:=X.w) (A:=X.A.in1) hh b i1 a (Ne.symm (na i1 (by simp))) aE.toArray
  have D2:=Draws.sq (prog:=X.prog) (w:=X.w) (A:=X.A.in1) hh c i2 d (Ne.symm (nd i2 (by simp))) Hx.toArray
  have Z:ZA z ti to i1 i2 [i1,a] [i2,d]:=⟨Ne.symm n1,Ne.symm n2,Ne.symm n3,Ne.symm n4,n5,n6,n7,n8,n9,Em,by simp[n3,na],by simp[n8,na],by simp[Ne.symm Em,na],by simp[n4,nd],by simp[n9,nd],by simp[Em,nd]⟩
  refine lT Z D1 D2 g1 g2 g3 ⟨g4,p⟩ ⟨g5,pt⟩ (nE hu) (nE hv) λx' y' h1 tk px py uM Lr s1 s2 hT sz kk=>?_
  have ex:x'=u:=by
   have:aE.toArray[i]?=some u:=by simpa using hu
   exact Option.some.inj (px.symm.trans this)
  have ey:y'=v:=by
   have:Hx.toArray[i]?=some v:=by simpa using hv
   exact Option.some.inj (py.symm.trans this)
  subst ex ey
  refine⟨_,rfl,wpAny_letOwnedTupleGo_zip uM λh2 Ek qg=>?_⟩
  have k2:∀e o,e ∉ [z,ti,to,i1,i2]->s.heap.get? e=some o->h2.get? e=some o:=λe o he q=>
   (qg.2 e λw=>he (by simp[w])).trans (kk e o (λw=>he (by simp[w])) (λw=>he (by simp[w])) (λw=>he (by simp[w])) (λw=>he (by simp[w])) q)
  have Of:s.heap.objs.size≠z:=Nat.ne_of_gt (Heap.lt_size g1)
  have Lq:IsTup h2 s.heap.objs.size ([x',y']:List Value).toArray:=⟨_,(qg.2 _ Of).trans hT,rfl,_,rfl⟩
  have AL:H s.heap.objs.size=none:=I.ba.fresh (Nat.le_refl _)
  refine⟨.ref s.heap.objs.size,upd H s.heap.objs.size (.tup [x,y]),I.sL hf k2 (Nat.le_refl _) (.cons ru (.cons Qy .nil)) oW Lq,rfl,
   ⟨_,AL,rfl,λTQ TR Qz KY=>⟨x,y,by rw[I.rb Qz hq];exact hx,by rw[I.rb KY hr];exact hy,rfl⟩⟩,⟨Ek,?_,⟨_,_,(qg.2 to (Ne.symm n2)).trans Lr⟩,s1.1.at λo q=>(qg.2 i1 (Ne.symm n3)).trans q,s2.1.at λo q=>(qg.2 i2 (Ne.symm n4)).trans q⟩,λe he=>?_⟩
  ·exact(qg.2 ti (Ne.symm n1)).trans (kk ti _ (Ne.symm n1) n5 n6 n7 g2)
  ·have kM:e≠s.heap.objs.size:=by
    simp only[List.mem_cons,List.not_mem_nil,or_false] at he
    rcases he with rfl | rfl | rfl | rfl | rfl
    ·exact Ne.symm Of
    ·exact Nat.ne_of_lt (Heap.lt_size g2)
    ·exact Nat.ne_of_lt (Heap.lt_size g3)
    ·obtain⟨o,kC,_⟩:=g4.obj
     exact Nat.ne_of_lt (Heap.lt_size kC)
    ·obtain⟨o,kC,_⟩:=g5.obj
     exact Nat.ne_of_lt (Heap.lt_size kC)
   rw[ay kM]
   exact(hf e he).1
 done:=by
  intro X hP hw hK hc i pins s σ H E I hf st hg
  subst hP hw hK
  obtain⟨g1,g2,⟨u0,v0,g3⟩,g4,g5⟩:=st
  obtain⟨xs,ys,hq,hr,hx⟩:=hg
  obtain⟨aE,rv,p,hz⟩:=I.sq hq
  obtain⟨Hx,rt,pt,Oe⟩:=I.sq hr
  have na:∀e ∈ [z,ti,to,i1,i2],e≠a:=λe he=>Ne.symm (I.kR hq (hf e he))
  have nd:∀e ∈ [z,ti,to,i1,i2],e≠d:=λe he=>Ne.symm (I.kR hr (hf e he))
  simp only[List.nodup_cons,List.mem_cons,List.not_mem_nil,or_false,not_or,List.nodup_nil,not_false_eq_true,and_true] at N
  obtain⟨⟨n1,n2,n3,n4⟩,⟨n5,n6,n7⟩,⟨n8,n9⟩,Em⟩:=N
  have hh:X.A.in1.handled=none:=I.ok.hd hc
  have D1:=Draws.sq (prog:=X.prog) (w:=X.w) (A:=X.A.in1) hh b i1 a (Ne.symm (na i1 (by simp))) aE.toArray
  have D2:=Draws.sq (prog:=X.prog) (w:=X.w) (A:=X.A.in1) hh c i2 d (Ne.symm (nd i2 (by simp))) Hx.toArray
  have Z:ZA z ti to i1 i2 [i1,a] [i2,d]:=⟨Ne.symm n1,Ne.symm n2,Ne.symm n3,Ne.symm n4,n5,n6,n7,n8,n9,Em,by simp[n3,na],by simp[n8,na],by simp[Ne.symm Em,na],by simp[n4,nd],by simp[n9,nd],by simp[Em,nd]⟩
  have l1:=rv.length
  have l2:=rt.length
  exact nC Z D1 D2 g1 g2 g3 ⟨g4,p⟩ ⟨g5,pt⟩ (by simp only[List.size_toArray];omega) λh' tk kk=>⟨rfl,I.sJ hf λe o he q=>kk e o (λw=>he (by simp[w])) (λw=>he (by simp[w])) (λw=>he (by simp[w])) (λw=>he (by simp[w])) q⟩
 self:=λ_ _ _ _ _ st h=>wpAny_pyIter_zip st.1 h
section
variable {X:Cx}
def xR (K:W.Frag)(ta:TA):TI:=λσ H R=>ta σ H λvs H1=>match vs with
 | [.ref a]=>∃b xs,Sq b K H1 a xs/\R (FQ b K a) H1
 | _=>False
def En (K:W.Frag)(ta:TA):TI:=λσ H R=>ta σ H λvs H1=>match vs with
 | [.ref a,.ref d]=>∃b c xs ys,Sq b K H1 a xs/\Sq c K H1 d ys/\R (Ln b c K a d) H1
 | _=>False
theorem sM {es:List Expr}{kt:Nat}{tp:Pos}{a:Expr}{ta:TA}{p pos:Pos}(hg:Gl X "enumerate")(hm:X.mg "enumerate"=none)(ha:PA X [a] ta)(hs:starEach [a] X.env=[(false,eval a X.env)]:=by rfl):
  PI X (.Tuple es kt tp) (.Call (.Name "enumerate" p) [a] [] pos) (xR X.K ta):=by
 refine⟨?_⟩
 intro pins s σ H R I h
 refine Call_ (i4 I hg hm boot_enumerate (PyProof.Rows.callWith_type1 (bU (ha pos pins s σ H _ I h) λus s1 ⟨vs,H1,I1,r1,q1⟩=>?_) (by rw[hs];rfl) rfl))
 match vs,r1,q1 with
 | [.ref a],r1,q1=>
  obtain⟨b,xs,hq,q⟩:=q1
  cases r1 with
  | cons r rr=>
   cases rr
   cases r
   obtain⟨aE,rv,p,hz⟩:=I1.sq hq
   refine uP p λg e1 e2 sz kk=>wpAny_pyIter_enum e1 ?_
   have I2:Inv X pins σ H1 {s1 with heap:=g}:=I1.kept (t':=s1.toks) kk
   refine⟨_,[s1.heap.objs.size + 1,s1.heap.objs.size],_,_,H1,rfl,I2,uO b _ _ a (Nat.succ_ne_self _),⟨⟨_,e1⟩,e2⟩,λc hc=>?_,q⟩
   have zN:s1.heap.objs.size<=c:=by
    simp only[List.mem_cons,List.not_mem_nil,or_false] at hc
    rcases hc with rfl | rfl
    ·exact Nat.le_succ _
    ·exact Nat.le_refl _
   exact I1.wA zN (I1.ba.fresh zN)
theorem Eo {es:List Expr}{kt:Nat}{tp:Pos}{a b:Expr}{ta:TA}{p pos:Pos}(hg:Gl X "zip")(hm:X.mg "zip"=none)(ha:PA X [a,b] ta)(hs:starEach [a,b] X.env=[(false,eval a X.env),(false,eval b X.env)]:=by rfl)(qg:starEach [b] X.env=[(false,eval b X.env)]:=by rfl):
  PI X (.Tuple es kt tp) (.Call (.Name "zip" p) [a,b] [] pos) (En X.K ta):=by
 refine⟨?_⟩
 intro pins s σ H R I h
 refine Call_ (i4 I hg hm boot_zip (PyProof.Rows.callWith_type1 (bU (ha pos pins s σ H _ I h) λus s1 ⟨vs,H1,I1,r1,q1⟩=>?_) (by rw[hs,qg]) (by rw[qg];rfl)))
 match vs,r1,q1 with
 | [.ref a,.ref d],r1,q1=>
  obtain⟨b,c,xs,ys,hq,hr,q⟩:=q1
  cases r1 with
  | cons r rr=>
   cases rr with
   | cons r' rr=>
    cases rr
    cases r
    cases r'
    obtain⟨aE,rv,p1,hz⟩:=I1.sq hq
    obtain⟨Hx,rt,p2,Oe⟩:=I1.sq hr
    refine xP p1 p2 λg e1 e2 e3 e4 e5 sz kk=>wpAny_pyIter_zip e1 ?_
    have I2:Inv X pins σ H1 {s1 with heap:=g}:=I1.kept (t':=s1.toks) kk
    refine⟨_,[s1.heap.objs.size + 4,s1.heap.objs.size + 2,s1.heap.objs.size + 3,s1.heap.objs.size,s1.heap.objs.size + 1],_,_,H1,rfl,I2,xQ b c _ _ _ _ _ a d ?_,⟨e1,e2,⟨_,_,e3⟩,e4,e5⟩,λe he=>?_,q⟩
    ·simp
    ·have zN:s1.heap.objs.size<=e:=by
      simp only[List.mem_cons,List.not_mem_nil,or_false] at he
      rcases he with rfl | rfl | rfl | rfl | rfl
      ·exact Nat.le_add_right _ _
      ·exact Nat.le_add_right _ _
      ·exact Nat.le_add_right _ _
      ·exact Nat.le_refl _
      ·exact Nat.le_add_right _ _
     exact I1.wA zN (I1.ba.fresh zN)
end
end
end L2
namespace HT
open PySem PyProof.Rows
section
variable {prog:Program}{w:World}{A:Around}{E:Value->Shared->Prop}{s:Shared}
theorem iM {t sl:Addr}{items:Array Value}{vl vu:Value}{lo hi:Option Int}{Q:Value->Shared->Prop}(ht:IsTup s.heap t items)(hs:s.heap.IsSliceOf sl vl vu .none)(pl:IsPart vl lo)(pu:IsPart vu hi)
  (hw:cM items.size 0 lo=0/\cM items.size items.size hi=items.size) (h:Q (.ref t) s):wpAny (model prog w) A (getItem (.ref t) (.ref sl)) Q E s:=by
 obtain⟨os,DM,se,gM⟩:=id hs
 have KL:s.TypeIs (.ref sl) "slice":=⟨os,DM,se⟩
 unfold getItem
 try with_reducible refine wpAny_holding ?_
 first | refine wpAny_bind (wpAny_pure ?_) | skip
 refine wpAny_bind (wpAny_sequenceKey ht.typeIs (by decide) (wpAny_bind (wpAny_callSpecial?_slot (name:=Str.ofString "__getitem__") ht.typeIs PyProof.Rows.slot_tuple_getitem
  (wpAny_call_entry PyProof.Rows.slot_tuple_getitem ht.typeIs entry_tuple_getitem ?_ (args_tuple_getitem _ _)))))
 refine wpAny_bind (m:=Builtin.Tuple.tupleItemsOf (.ref t)) (tupleItemsOf_ ht (wpAny_bind (wpAny_typeOf KL ?_)))
 rw[if_pos (by decide)]
 refine wpAny_bind (fA hs pl pu ?_)
 have Ls:(((cM items.size 0 lo:Nat):Int) == 0 && (1:Int) == 1 && (cM items.size items.size hi - cM items.size 0 lo) == items.size)=true:=by
  rw[hw.1,hw.2]
  simp
 show wpAny _ _ (if (((cM items.size 0 lo:Nat):Int) == 0 && (1:Int) == 1 && (cM items.size items.size hi - cM items.size 0 lo) == items.size)=true then _ else _) _ _ s
 rw[if_pos Ls]
 refine wpAny_bind (m:=Builtin.Tuple.tupleIsExact (.ref t)) ?_
 unfold Builtin.Tuple.tupleIsExact
 refine wpAny_bind (wpAny_typeOf ht.typeIs (wpAny_pure ?_))
 rw[if_pos (by decide)]
 exact wpAny_bind (wpAny_rule (wpAny_pure ⟨_,rfl,wpAny_pure h⟩))
end
end HT
namespace L2
open PySem PySem.Spec PyProof.Rows
section
variable {p:Addr}{H:Hp}{Q:VK}{K:W.Frag}
section
variable {X:Cx}
def Lu:V->Option Int->Option Int->Hp->VK->Prop:=λx lo hi H Q=>match x with
 | .ref a=>(∃xs,H a=some (.lst xs)/\∀p,H p=none->Q (.ref p) (upd H p (.lst (dM xs lo hi))))\/(∃xs,H a=some (.tup xs)/\∀p H',ak H H'->H' p=some (.tup (dM xs lo hi))->Q (.ref p) H')
 | _=>False
theorem B6 {a:Addr}{lo hi:Option Int}:Lu (.ref a) lo hi H Q=((∃xs,H a=some (.lst xs)/\∀p,H p=none->Q (.ref p) (upd H p (.lst (dM xs lo hi))))\/(∃xs,H a=some (.tup xs)/\∀p H',ak H H'->H' p=some (.tup (dM xs lo hi))->Q (.ref p) H')):=rfl
theorem Lv:Jz X Lu:=by
 intro pins s σ H x v vl vu lo hi sl Q I rx hs pl pu h
 cases x <;> first
  | exact(show False from h).elim
  | skip
 rename_i a
 rcases h with⟨xs,hx,q⟩ | ⟨xs,hx,q⟩
 ·exact Au pins s σ H _ v vl vu lo hi sl Q I rx hs pl pu ⟨a,xs,rfl,aX.of hx,q⟩
 ·by_cases hw:HT.cM xs.length 0 lo=0/\HT.cM xs.length xs.length hi=xs.length
  ·cases rx
   obtain⟨aE,r,ht,hz⟩:=I.tuple (bM.of hx)
   have hlen:aE.toArray.size=xs.length:=by rw[List.size_toArray];exact r.length.symm
   refine⟨"tuple",_,PyProof.Rows.slot_tuple_getitem.lookup,ht.typeIs,HT.iM ht hs pl pu (by rw[hlen];exact hw) ⟨.ref a,H,I,rfl,q a H (ak.refl H) ?_⟩⟩
   have e:dM xs lo hi=xs:=by
    unfold dM
    rw[hw.1,hw.2]
    simp
   rw[e];exact hx
  ·exact DO pins s σ H _ v vl vu lo hi sl Q I rx hs pl pu ⟨a,xs,rfl,bM.of hx,hw,λp hp=>q p _ (ak.new _ hp) ag⟩
theorem jf {e:Expr}{te:TE}{lo hi:Option Expr}{tl th:TO}{pos p2:Pos}(he:PE X e te)(hl:PO X lo tl)(hu:PO X hi th):PE X (.Subscript e (.Slice lo hi none p2) pos) (JA Lu te tl th):=wW Lv he hl hu
def FT:R2:=λx y H Q=>match x,y with
 | .int i,.int j=>Q (.int (i + j)) H
 | .str i,.str j=>i.length + j.length<=sizeLine/\Q (.str (i++j)) H
 | .ref a,.ref b=>(∃xs zs,H a=some (.lst xs)/\H b=some (.lst zs)/\xs.length + zs.length<=sizeLine/\∀p,H p=none->Q (.ref p) (upd H p (.lst (xs++zs))))\/
   (∃xs zs,H a=some (.tup xs)/\H b=some (.tup zs)/\xs.length + zs.length<=sizeLine/\∀p H',ak H H'->H' p=some (.tup (xs++zs))->Q (.ref p) H')
 | _,_=>False
theorem xS {i j:Int}:FT (.int i) (.int j) H Q=Q (.int (i + j)) H:=rfl
theorem xT {i j:Str}:FT (.str i) (.str j) H Q=(i.length + j.length<=sizeLine/\Q (.str (i++j)) H):=rfl
theorem xU {a b:Addr}:FT (.ref a) (.ref b) H Q=((∃xs zs,H a=some (.lst xs)/\H b=some (.lst zs)/\xs.length + zs.length<=sizeLine/\∀p,H p=none->Q (.ref p) (upd H p (.lst (xs++zs))))\/
      (∃xs zs,H a=some (.tup xs)/\H b=some (.tup zs)/\xs.length + zs.length<=sizeLine/\∀p H',ak H H'->H' p=some (.tup (xs++zs))->Q (.ref p) H')):=rfl
theorem bL:dS X (binaryOp .Add) FT:=by
 intro pins s σ H x y v u Q I rx ry h
 cases x <;> cases y <;> first
  | exact(show False from h).elim
  | exact Dw pins s σ H _ _ v u Q I rx ry ⟨_,_,rfl,rfl,h⟩
  | exact qx pins s σ H _ _ v u Q I rx ry ⟨_,_,rfl,rfl,h.1,h.2⟩
  | skip
 rename_i a b
 rcases h with⟨xs,zs,h1,h2,h3,h4⟩ | ⟨xs,zs,h1,h2,h3,h4⟩
 ·exact DW pins s σ H _ _ v u Q I rx ry ⟨_,_,xs,zs,rfl,rfl,h1,h2,h3,h4⟩
 ·by_cases hx:xs=[]
  ·subst hx
   cases rx
   cases ry
   obtain⟨aE,r1,p1,_⟩:=I.tuple (bM.of h1)
   obtain⟨bh,r2,p2,_⟩:=I.tuple (bM.of h2)
   cases r1
   obtain⟨⟨cls,dd,data,sl⟩,ho,hc,n,hd⟩:=id p1
   obtain⟨⟨KJ,Jx,data2,Jy⟩,DJ,GV,n2,hd2⟩:=id p2
   simp only at hc hd GV hd2
   subst hc hd GV hd2
   exact concat_meets ⟨_,ho,rfl⟩ ⟨_,DJ,rfl⟩ noFill_tuple_add seq_tuple_add PySem.F.slot_tuple_add PySem.F.entry_tuple_add (PySem.F.args_tuple_add_2 _ _)
    (tuple_addW0 a b _ _ n n2 dd Jx sl Jy (by simp)) ⟨ho,DJ,⟨.ref b,H,I,rfl,h4 b H (ak.refl H) (by simpa using h2)⟩⟩
  ·refine Ar pins s σ H _ _ v u Q I rx ry ⟨_,_,xs,zs,rfl,rfl,bM.of h1,bM.of h2,hx,h3,λz=>?_,λ_ p hp=>h4 p _ (ak.new _ hp) ag⟩
   subst z
   exact h4 a H (ak.refl H) (by simpa using h1)
def Hy (K:W.Frag):List V->Hp->VK->Prop:=λxs H Q=>match xs with
 | [.ref p]=>∃bs:List Bool,aX K H p (bs.map V.bl)/\Q (.bl (bs.all id)) H
 | _=>False
theorem xV:Hy K [.ref p] H Q=∃bs:List Bool,aX K H p (bs.map V.bl)/\Q (.bl (bs.all id)) H:=rfl
def Lw (K:W.Frag):List V->Hp->VK->Prop:=λxs H Q=>match xs with
 | [.ref p]=>∃bs:List Bool,aX K H p (bs.map V.bl)/\Q (.bl (bs.any id)) H
 | _=>False
theorem xW:Lw K [.ref p] H Q=∃bs:List Bool,aX K H p (bs.map V.bl)/\Q (.bl (bs.any id)) H:=rfl
theorem sN:∀{bs:List Bool} {us:List Value},Vals (bs.map V.bl) us->us=bs.map Value.bool
 | [],_,.nil=>rfl
 | b::bs,_,.cons r t=>by
  cases r
  rw[sN t];rfl
theorem all_range:∀(bs:List Bool),((List.range bs.length).all λi=>bs.getD i false)=bs.all id:=by
 intro bs
 induction bs with
 | nil=>rfl
 | cons b r ih=>
  rw[List.length_cons,List.range_succ_eq_map,List.all_cons,List.all_map,List.all_cons]
  have:((λi=>(b::r).getD i false) ∘ Nat.succ)=λi=>r.getD i false:=by funext i;simp
  rw[this,ih];rfl
theorem xX {prog:Program}{w:World}{A:Around}{bs:List Bool}:TruthOf prog w A (λi v=>(bs.map Value.bool).toArray[i]?=some v) (λi=>bs.getD i false):=by
 intro i v s Q E hp hq
 have sP:(bs.map Value.bool)[i]?=some v:=by simpa using hp
 rw[List.getElem?_map] at sP
 cases hb:bs[i]? with
 | none=>rw[hb] at sP;cases sP
 | some b=>
  rw[hb] at sP
  cases sP
  have:bs.getD i false=b:=by rw[List.getD_eq_getElem?_getD,hb];rfl
  replace hq:Q (bs.getD i false) s:=hq
  rw[this] at hq
  exact wpAny_truthy_bool hq
theorem dn (hc:X.calm=true):cz X (.builtin "all") (Hy X.K):=by
 intro pins s σ H xs us Q I r h
 match xs,r,h with
 | [.ref p],r,h=>
  obtain⟨bs,hq,q⟩:=h
  obtain⟨u,rfl,ru⟩:=Vals.one r
  cases ru
  obtain⟨aE,rv,pl,hz⟩:=I.list hq
  have e:=sN rv
  subst e
  refine call_all_walk (wpAny_pyIter_list pl.isList ⟨s.heap.objs.size,_,_,_,_,_,λi=>bs.getD i false,rfl,Walks.list (show X.A.in1.handled=none from I.ok.hd hc) _ p ?_ (bs.map Value.bool).toArray,⟨⟨_,Heap.get?_push_size _ rfl,rfl,rfl⟩,pl.isList.push _⟩,xX,λh' tk kk=>?_⟩)
  ·obtain⟨o,e,_⟩:=pl.isList
   exact Nat.ne_of_lt (Heap.lt_size e)
  ·have:(bs.map Value.bool).toArray.size=bs.length:=by simp
   rw[this,all_range]
   exact⟨.bl _,H,I.kept λb o e=>kk b o (by simp[Nat.ne_of_lt (Heap.lt_size e)]) (Heap.get?_push_of_some _ e),rfl,q⟩
def Hz:List V->Hp->VK->Prop:=λxs H Q=>match xs with
 | [.ref p]=>(H p=some (.tup [])/\Q (.int 0) H)\/(∃i:Int,H p=some (.tup [.int i])/\-(2 ^ 63)<=i/\i < 2 ^ 63/\Q (.int i) H)
 | _=>False
theorem sQ:Hz [.ref p] H Q=((H p=some (.tup [])/\Q (.int 0) H)\/(∃i:Int,H p=some (.tup [.int i])/\-(2 ^ 63)<=i/\i < 2 ^ 63/\Q (.int i) H)):=rfl
def oX:List V->Option (List Value)
 | []=>some []
 | .ty n::r=>(oX r).map (.type n::·)
 | _=>none
theorem oY:∀{xs:List V} {us ts:List Value},Vals xs us->oX xs=some ts->us=ts
  | [],_,_,.nil,h=>by cases h;rfl
  | x::xs,_,ts,.cons r t,h=>by
    cases x <;> first
      | cases h
      | (rename_i n
         unfold oX at h
         obtain⟨TU,h1,h2⟩:=Option.map_eq_some_iff.mp h
         cases r
         rw[<-h2,oY t h1])
def AM (K:W.Frag):List V->Hp->VK->Prop:=λxs H Q=>match xs with
 | [x,.ty n]=>∃t b,dm K H x t/\W.kitOne K t (.type n)=some b/\Q (.bl b) H
 | [x,.ref p]=>∃t b zs ts,dm K H x t/\H p=some (.tup zs)/\oX zs=some ts/\W.kitAny K t ts=some b/\Q (.bl b) H
 | _=>False
theorem xY {x:V}{n:String}:AM K [x,.ty n] H Q=∃t b,dm K H x t/\W.kitOne K t (.type n)=some b/\Q (.bl b) H:=rfl
theorem xZ {x:V}:AM K [x,.ref p] H Q=∃t b zs ts,dm K H x t/\H p=some (.tup zs)/\oX zs=some ts/\W.kitAny K t ts=some b/\Q (.bl b) H:=rfl
theorem rf {x:V}{u t:Value}{pins:List (Addr×Obj)}{σ:St}{H:Hp}{s:Shared}{A:Around}{E:Value->Shared->Prop}{Q:Value->Shared->Prop}{b:Bool}{tp:Addr}{ts:List Value}(I:Inv X pins σ H s)(rx:RelV x u)(ty:dm X.K H x t)
  (ht:IsTup s.heap tp ts.toArray) (e:W.kitAny X.K t ts=some b) (h:∀tk,Q (.bool b) {s with toks:=tk}):wpAny (model X.prog X.w) A (call (.builtin "isinstance") [u,.ref tp]) Q E s:=by
 obtain⟨⟨cls,dd,data,sl⟩,ho,hc,n,hd⟩:=id ht
 simp only at hc hd
 subst hc hd
 cases ty with
 | bb=>cases(show u=Value.none from rx);exact W.kia_tup W.kitx_none I.dP True.intro ho e (λz=>nomatch z) h
 | bl y=>cases(show u=Value.bool y from rx);exact W.kia_tup W.kitx_bool I.dP True.intro ho e (λz=>nomatch z) h
 | int i=>obtain⟨t,q⟩:=(show ∃t,u=Value.int i t from rx);cases q;exact W.kia_tup W.kitx_int I.dP True.intro ho e (λz=>nomatch z) h
 | str y=>obtain⟨t,q⟩:=(show ∃t,u=Value.str y t from rx);cases q;exact W.kia_tup W.kitx_str I.dP True.intro ho e (λz=>nomatch z) h
 | By y=>obtain⟨t,q⟩:=(show ∃t,u=Value.float y t from rx);cases q;exact W.kia_tup W.kitx_float I.dP True.intro ho e (λz=>nomatch z) h
 | @lst a xs ea=>
  cases(show u=Value.ref a from rx)
  obtain⟨_,_,n,_,h1⟩:=(show bH X.prog X.w H s.heap a (.lst xs) from I.ba a _ ea)
  exact W.kia_tup W.kitx_list I.dP ⟨_,h1,rfl⟩ ho e (λz=>nomatch z) h
 | @qf a ob xs ea=>
  cases(show u=Value.ref a from rx)
  obtain⟨_,_,_,n,_,h1⟩:=(show bH X.prog X.w H s.heap a (.qf ob (.lst xs)) from I.ba a _ ea)
  exact W.kia_tup W.kitx_list I.dP ⟨_,h1,rfl⟩ ho e (λz=>nomatch z) h
 | @tup a xs ea=>
  cases(show u=Value.ref a from rx)
  obtain⟨_,_,_,p⟩:=(show bH X.prog X.w H s.heap a (.tup xs) from I.ba a _ ea)
  obtain⟨o,h1,h2,_⟩:=p
  exact W.kia_tup W.kitx_tuple I.dP ⟨o,h1,h2⟩ ho e (λz=>nomatch z) h
 | @dK a bD ea=>
  cases(show u=Value.ref a from rx)
  obtain⟨_,_,vs,_,p⟩:=(show bH X.prog X.w H s.heap a (.dK bD) from I.ba a _ ea)
  obtain⟨o,es,ep,h1,h2,_⟩:=p
  exact W.kia_tup W.kitx_dict I.dP ⟨o,h1,h2.1⟩ ho e (λz=>nomatch z) h
 | @dT a bD ea=>
  cases(show u=Value.ref a from rx)
  obtain⟨_,_,xs,_,o,es,ep,h1,h2,_⟩:=(show bH X.prog X.w H s.heap a (.dT bD) from I.ba a _ ea)
  exact W.kia_tup W.kitx_dict I.dP ⟨o,h1,h2.1⟩ ho e (λz=>nomatch z) h
 | @ins a C dx fs ea cl ha hn Jw hm=>
  cases(show u=Value.ref a from rx)
  obtain⟨mA,O,_⟩:=iB I.ba ea
  obtain⟨od,J,_⟩:=O.look
  exact W.kia_tup (W.kitx_own (cl.get _) cl.hd ha hn Jw hm) I.dP J ho e (λz=>nomatch z) h
theorem bN:cz X (.builtin "isinstance") (AM X.K):=by
 intro pins s σ H xs us Q I r h
 match xs,r,h with
 | [x,.ty n],r,h=>
  obtain⟨t,b,ty,e,q⟩:=h
  obtain⟨u,w',rfl,rx,rn⟩:=vals2 r
  cases rn
  exact mj I rx ty e λtk=>⟨.bl b,H,I.tok _,rfl,q⟩
 | [x,.ref p],r,h=>
  obtain⟨t,b,zs,ts,ty,hp,QA,e,q⟩:=h
  obtain⟨u,w',rfl,rx,rn⟩:=vals2 r
  cases rn
  obtain⟨aE,rv,pl,hz⟩:=I.tuple (bM.of hp)
  have e2:=oY rv QA
  subst e2
  exact rf I rx ty pl e λtk=>⟨.bl b,H,I.tok _,rfl,q⟩
end
end
section
variable {a:Addr}{H:Hp}{D:List (Str×V)}{Q:VK}
section
variable {X:Cx}
def HA:V->List V->Hp->VK->Prop:=λx vs H Q=>match x,vs with
 | .ref l,[y]=>∃xs,H l=some (.lst xs)/\xs.length < sizeLine/\Q .bb (upd H l (.lst (xs++[y])))
 | _,_=>False
theorem x5 {l:Addr}{y:V}:HA (.ref l) [y] H Q=∃xs,H l=some (.lst xs)/\xs.length < sizeLine/\Q .bb (upd H l (.lst (xs++[y]))):=rfl
theorem dE:DP X "list.append" HA:=by
 intro pins s σ H x vs v us Q I rx rv h
 match x,vs,rv,h with
 | .ref l,[y],rv,⟨xs,h1,h2,h3⟩=>exact mB pins s σ H _ _ v us Q I rx rv ⟨l,xs,y,rfl,rfl,h1,h2,h3⟩
def Lx:V->List V->Hp->VK->Prop:=λx vs H Q=>match x,vs with
 | .ref l,[.ref b]=>∃xs zs,H l=some (.lst xs)/\H b=some (.lst zs)/\xs.length + zs.length<=sizeLine/\Q .bb (upd H l (.lst (xs++zs)))
 | _,_=>False
theorem x6 {l b:Addr}:Lx (.ref l) [.ref b] H Q=∃xs zs,H l=some (.lst xs)/\H b=some (.lst zs)/\xs.length + zs.length<=sizeLine/\Q .bb (upd H l (.lst (xs++zs))):=rfl
def Ly:V->List V->Hp->VK->Prop:=λx vs H Q=>match x,vs with
 | .ref l,[]=>∃xs,H l=some (.lst xs)/\Q .bb (upd H l (.lst []))
 | _,_=>False
theorem x8 {l:Addr}:Ly (.ref l) [] H Q=∃xs,H l=some (.lst xs)/\Q .bb (upd H l (.lst [])):=rfl
def Lz:V->List V->Hp->VK->Prop:=λx vs H Q=>match x,vs with
 | .ref l,[.int 0,y]=>∃xs,H l=some (.lst xs)/\xs.length < sizeLine/\Q .bb (upd H l (.lst (y::xs)))
 | _,_=>False
theorem x9 {l:Addr}{y:V}:Lz (.ref l) [.int 0,y] H Q=∃xs,H l=some (.lst xs)/\xs.length < sizeLine/\Q .bb (upd H l (.lst (y::xs))):=rfl
def HB:V->List V->Hp->VK->Prop:=λx vs H Q=>match x,vs with
 | .ref l,[.int 0]=>∃y xs,H l=some (.lst (y::xs))/\Q y (upd H l (.lst xs))
 | _,_=>False
theorem sR {l:Addr}:HB (.ref l) [.int 0] H Q=∃y xs,H l=some (.lst (y::xs))/\Q y (upd H l (.lst xs)):=rfl
def B7 (to ti:TE):TS:=λD σ H=>to σ H λx H1=>ti σ H1 λy H2=>∃l i xs k,x=.ref l/\y=.int i/\H2 l=some (.lst xs)/\-(2 ^ 63)<=i/\i < 2 ^ 63/\seqIndex? i xs.length=some k/\D.nx σ (upd H2 l (.lst (xs.eraseIdx k)))
structure CD (K:W.Frag)(a:Addr)(D:List (Str×V)):Prop where
 ex:∃o es ep,K.lookup a=some o/\o.ExactDict/\o.data=.dict es ep/\KTD.Rows RelV es.toList D
 ne:(a == sysModules)=false
theorem Ep {prog:Program}{w:World}{A:Around}{E:Value->Shared->Prop}{s:Shared}{o:Obj}{es:Array DictEntry}{ep:Nat}{k:Str}{tk:Tok}{Q:Option Value->Shared->Prop}(ho:s.heap.get? a=some o)(hd:o.data=.dict es ep)(hr:KTD.Rows RelV es.toList D)
  (h1:∀d v,KTD.datumAt k D=some d->RelV d v->Q (some v) {s with toks:=s.toks + 1}) (h2:KTD.datumAt k D=none->Q none {s with toks:=s.toks + 1}):wpAny (model prog w) A (dictGet a (.str k tk)) Q E s:=by
 unfold dictGet
 try with_reducible refine wpAny_holding ?_
 refine wpAny_bind (wpAny_pyHash_str (wpAny_bind (KTD.kt_dictFind_strs (s:={s with toks:=s.toks + 1}) ho hd (by obtain⟨l⟩:=es;simpa using hr.exact) ?_)))
 have hq:Q (findBy (λk v=>v.isStr k) es k) {s with toks:=s.toks + 1}:=by
  have hf:findBy (λk v=>v.isStr k) es k=(es.toList.find? λe=>e.key.isStr k).map (·.val):=by
   obtain⟨l⟩:=es
   simp[findBy]
  rw[hf]
  cases Er:KTD.datumAt k D with
  | some d=>
   obtain⟨v,hv,QB⟩:=hr.find_some Er
   rw[hv]
   exact h1 d v Er QB
  | none=>rw[hr.find_none Er];exact h2 Er
 rw[findBy_of_findIdx?] at hq
 cases hi:es.findIdx? λe=>e.key.isStr k with
 | none=>rw[hi] at hq;exact wpAny_pure hq
 | some i=>rw[hi] at hq;exact wpAny_bind (wpAny_dictEntries (s:={s with toks:=s.toks + 1}) ho hd (wpAny_pure hq))
theorem rg {prog:Program}{w:World}{o:Obj}{es:Array DictEntry}{ep:Nat}{k:Str}{tk:Tok}(hd:o.data=.dict es ep)(hr:KTD.Rows RelV es.toList D)(kM:(a == sysModules)=false):
  MeetsIn prog w (Builtin.«dict.get» ⟨[.ref a,.str k tk],[]⟩) (λ_ R s=>s.heap.get? a=some o/\(∀d v,KTD.datumAt k D=some d->RelV d v->R (.ok (.ret v)) {s with toks:=s.toks + 1})/\(KTD.datumAt k D=none->R (.ok (.ret .none)) {s with toks:=s.toks + 1})):=
 .of_wp λA R s ⟨T,h1,h2⟩=>by
  show wpAny _ _ (dictGet a (.str k tk) >>= _) _ _ s
  refine wpAny_bind (Ep T hd hr (λd v ha hv=>wpAny_pure ⟨v,rfl,h1 d v ha hv⟩) λhn=>?_)
  show wpAny _ _ (Builtin.Dict.missed a (.str k tk) >>= _) _ _ _
  exact wpAny_bind (wpAny_missed_other kM (wpAny_pure ⟨.none,rfl,h2 hn⟩))
theorem JQ {k:Str}{H1:Hp}:(match ([V.str k]:List V) with | [.str k]=>Q ((KTD.datumAt k D).getD .bb) H1 | _=>False)=Q ((KTD.datumAt k D).getD .bb) H1:=rfl
def ya (D:List (Str×V))(t:TA):TE:=λσ H Q=>t σ H λxs H1=>match xs with
 | [.str k]=>Q ((KTD.datumAt k D).getD .bb) H1
 | _=>False
theorem AN {n:Str}{e:Expr}{t:TA}{p apos cF:Pos}(C:CD X.K a D)(hg:Gl X n)(hm:X.mg n=some (.ref a))(ha:PA X [e] t)
  (iD:(n == ("__debug__":Str))=false:=by decide) (iH:attributeBase (.Name n p) "get" X.env (eval (.Name n p) X.env)=eval (.Name n p) X.env:=by rfl)
  (iI:(apos.endLine == cF.line)=true:=by rfl) (hs:starEach [e] X.env=[(false,eval e X.env)]:=by rfl):PE X (.Call (.Attribute (.Name n p) "get" apos) [e] [] cF) (ya D t):=by
 walk_at "xc"
 obtain⟨o,es,ep,ho,hc,hd,hr⟩:=C.ex
 refine wpAny_Call_method_late iH (by rw[hs];rfl) iI rfl (fI I hg hm ?_ iD)
 have Er:s.heap.get? a=some o:=I.dP a o ho
 refine⟨"dict","dict.get",PySem.F.plainAttrs_dict,PySem.F.slot_dict_get,PySem.F.type_dict_get,⟨o,Er,hc.1⟩,λb e=>?_,?_⟩
 ·cases e
  exact⟨o,Er,hc.2.1⟩
 have hA:=ha cF pins s σ H _ I h
 rw[hs] at hA ⊢
 refine Calls.callWith_builtin rfl (Calls.evalArgs_plain (bU hA λus s2 ⟨vs,H2,I2,r2,q2⟩=>?_))
 match vs,r2,q2 with
 | [.str k],r2,q2=>
  obtain⟨u,rfl,ru⟩:=Vals.one r2
  obtain⟨tk,rfl⟩:=ru
  have HC:s2.heap.get? a=some o:=I2.dP a o ho
  replace q2:Q ((KTD.datumAt k D).getD .bb) H2:=q2
  refine call_meetsIn PySem.F.slot_dict_get ⟨o,HC,hc.1⟩ PySem.F.entry_dict_get (PySem.F.args_dict_get_2 _ _) (rg hd hr C.ne) ⟨HC,λd v QC hv=>?_,λhn=>?_⟩
  ·exact⟨d,H2,I2.tok _,hv,by have:=q2;rw[QC] at this;exact this⟩
  ·exact⟨.bb,H2,I2.tok _,rfl,by have:=q2;rw[hn] at this;exact this⟩
end
end
section
variable {x:Str}
section
variable {X:Cx}
theorem dF {n:Int}{pos:Pos}(hm:∃t,X.mg x=some (.int n t))(hg:Gl X x)(hd:(x == ("__debug__":Str))=false:=by decide):PE X (.Name x pos) (tC (.int n)):=by
 obtain⟨t,hm⟩:=hm
 exact bu hg hm ⟨t,rfl⟩ hd
end
structure nH (P:Program)(w:World)(K:W.Frag)(mg:Str->Option Value)(base:Heap)(C:Addr)(m:Str)(k:Nat)(ps:List Str)(sp:Sp):Prop where
 ex:∃f fd,Meth K C m f/\dU P w K mg base qR k f fd ps sp/\Binds K fd ps []
structure kS (K:W.Frag)(C:Addr)(m qual:Str)(st:Stmt)(ps:List Str):Prop where
 ex:∃f fd,Meth K C m f/\vP K m qual st f fd/\Binds K fd ps []
structure AO (P:Program)(w:World)(K:W.Frag)(mg:Str->Option Value)(base:Heap)(x:Str)(C:Addr)(k:Nat)(ps:List Str)(sp:Sp):Prop where
 ex:∃f fd,Mk K C f/\dU P w K mg base qR k f fd ps sp/\Binds K fd ps []
 mg:mg x=some (.ref C)
structure rh (K:W.Frag)(mg:Str->Option Value)(x:Str)(C:Addr)(qual:Str)(st:Stmt)(ps:List Str):Prop where
 ex:∃f fd,Mk K C f/\vP K "__init__" qual st f fd/\Binds K fd ps []
 mg:mg x=some (.ref C)
section
variable {P:Program}{w:World}{K:W.Frag}{mg:Str->Option Value}{base:Heap}
theorem kS.ok{C:Addr}{m qual:Str}{st:Stmt}{N ps:List Str}{k:Nat}{sp:Sp}(T:kS K C m qual st ps)(S:aI N ps (av st))(len:∀vs H Q E,sp vs H Q E->vs.length=ps.length)
  (cX:∀(f:Addr) (cy:Value) (A:Around) (outer:List Env) (s:Shared) (H:Hp) (vs:List V) (Q:VK) (E:XK),bR k (A.deeper (envOfC qual (av st) s.heap.objs.size f cy))->sp vs H Q E->
   ∃t,kr (fz qR P w K mg base N qual (av st) f cy A outer s H E).lK (bq st) t/\t {nx:=λ_ H'=>Q .bb H',rt:=Q} (start N vs) H):nH P w K mg base C m (k + 1) ps sp:=by
 obtain⟨f,fd,M,F,hb⟩:=T.ex
 exact⟨f,fd,M,F.ok S len (cX f),hb⟩
theorem rh.ok{C:Addr}{qual:Str}{st:Stmt}{N ps:List Str}{k:Nat}{sp:Sp}(T:rh K mg x C qual st ps)(S:aI N ps (av st))(len:∀vs H Q E,sp vs H Q E->vs.length=ps.length)
  (cX:∀(f:Addr) (cy:Value) (A:Around) (outer:List Env) (s:Shared) (H:Hp) (vs:List V) (Q:VK) (E:XK),bR k (A.deeper (envOfC qual (av st) s.heap.objs.size f cy))->sp vs H Q E->
   ∃t,kr (fz qR P w K mg base N qual (av st) f cy A outer s H E).lK (bq st) t/\t {nx:=λ_ H'=>Q .bb H',rt:=Q} (start N vs) H):AO P w K mg base x C (k + 1) ps sp:=by
 obtain⟨f,fd,M,F,hb⟩:=T.ex
 exact⟨⟨f,fd,M,F.ok S len (cX f),hb⟩,T.mg⟩
end
section
variable {X:Cx}{o e:Expr}{es:List Expr}{to:TE}{t:TA}{apos p pos:Pos}{C:Addr}{m x:Str}{k j:Nat}{ps:List Str}{sp:Sp}
theorem Og {pl:Sem Bool}(D:nH X.prog X.w X.K X.mg X.base C m k ps sp)(c:oF X.K C)(hr:bR j X.A)(ho:PE X o to)(ha:PA X (e::es) t)(hj:k<=j:=by decide)(h1:bz e=true:=by rfl)(h2:es.all bz=true:=by rfl)
  (ht:eval (.Call (.Attribute o m apos) (e::es) [] pos) X.env=(do
   let ov <-eval o X.env
   standAt apos.atName
   let (f,first) <-holding [ov] (getMethod ov m pl)
   callWith pos f first (backTo pos (starEach (e::es) X.env)) (backToKw pos (keywordEach [] X.env))):=by rfl):
  PE X (.Call (.Attribute o m apos) (e::es) [] pos) (jV C m sp [] E0 to t):=by
 obtain⟨f,fd,M,F,hb⟩:=D.ex
 exact r6 ho c M F (hr.mono hj) hb .nil sk ha (bE h1) (cj h2) ht
theorem jg {pl:Sem Bool}(D:nH X.prog X.w X.K X.mg X.base C m k ps sp)(c:oF X.K C)(hr:bR j X.A)(ho:PE X o to)(hj:k<=j:=by decide)
  (ht:eval (.Call (.Attribute o m apos) [] [] pos) X.env=(do
   let ov <-eval o X.env
   standAt apos.atName
   let (f,first) <-holding [ov] (getMethod ov m pl)
   callWith pos f first (backTo pos (starEach [] X.env)) (backToKw pos (keywordEach [] X.env))):=by rfl):
  PE X (.Call (.Attribute o m apos) [] [] pos) (jV C m sp [] E0 to lO):=by
 obtain⟨f,fd,M,F,hb⟩:=D.ex
 exact wN ho c M F (hr.mono hj) hb .nil sk ht
theorem HE (D:AO X.prog X.w X.K X.mg X.base x C k ps sp)(hr:bR j X.A)(ha:PA X (e::es) t)(hg:Gl X x:=by rfl)(hj:k + 1<=j:=by decide)(iD:(x == ("__debug__":Str))=false:=by decide)
  (h1:bz e=true:=by rfl) (h2:es.all bz=true:=by rfl):PE X (.Call (.Name x p) (e::es) [] pos) (mm C sp [] E0 t):=by
 obtain⟨f,fd,M,F,hb⟩:=D.ex
 exact r8 M F (hr.mono hj) hg D.mg hb .nil sk ha iD (bE h1) (cj h2)
end
theorem oZ {K:W.Frag}{b:Bool}{a:Addr}{xs:List V}{g:TG}{tb:TS}{D:Ends}{σ:St}{H:Hp}(Pv:Nat->St->Hp->Prop)(h0:Pv 0 σ H)(hq:∀i σ H,Pv i σ H->Sq b K H a xs)
  (hs:∀i x σ H T,xs[i]?=some x->Pv i σ H->H T=none->g (.ref T) σ (upd H T (.tup [.int i,x])) λσ2 H2=>tb {D with nx:=Pv (i + 1),ct:=Pv (i + 1),bk:=D.nx} σ2 H2) (hd:∀σ H,Pv xs.length σ H->D.nx σ H):
  ∃W:Nat->Nat->St->Hp->Prop,(∃m,W 0 m σ H)/\∀i m σ H,W i m σ H->
   ((FQ b K a).stop i H/\D.nx σ H)\/((FQ b K a).go i H/\∃N:St->Hp->Prop,(∀σ' H',N σ' H'->∃m',m' < m/\W (i + 1) m' σ' H')/\∀x H',(FQ b K a).BH i H x H'->g x σ H' λσ2 H2=>tb {D with nx:=N,ct:=N,bk:=D.nx} σ2 H2):=by
 refine⟨λi m σ H=>m=xs.length - i/\i<=xs.length/\Pv i σ H,⟨xs.length,by simp,Nat.zero_le _,h0⟩,?_⟩
 rintro i m σ H ⟨rfl,hi,p⟩
 by_cases rW:i < xs.length
 ·refine .inr ⟨⟨xs,xs[i],hq i σ H p,dI rW⟩,Pv (i + 1),λσ' H' p'=>⟨xs.length - (i + 1),by omega,rfl,rW,p'⟩,λx H' y=>?_⟩
  obtain⟨T,hT,rfl,y⟩:=y
  obtain⟨x,hx,rfl⟩:=y xs (hq i σ H p)
  exact hs i x σ H T hx p hT
 ·have e:i=xs.length:=by omega
  subst e
  exact .inl ⟨⟨xs,hq _ σ H p,rfl⟩,hd σ H p⟩
theorem yb {X:Cx}{i j:Nat}{y:Str}{px py pos:Pos}{k:Nat}(hc:X.calm=true)(hN:X.N.Nodup)(hi:X.N[i]?=some x)(hj:X.N[j]?=some y)(hx:Loc X.env.scope x)(hy:Loc X.env.scope y)
  (LA:X.fn x=true\/X.env.scope.names.lookup x=some .local:=by first | exact .inl rfl | exact .inr rfl | assumption) (LB:X.fn y=true\/X.env.scope.names.lookup y=some .local:=by first | exact .inl rfl | exact .inr rfl | assumption):
  PG X (.Tuple [.Name x px,.Name y py] k pos) (Dq X.K 2 (oz (eH i) (oz (eH j) Dp))):=Dr hc (oA (bf hN hi hx LA) (oA (bf hN hj hy LB) Ag))
end
end L2
set_option maxHeartbeats 400000
namespace L2
open PySem PySem.Spec PyProof.Rows
structure HF (K:W.Frag)(mg:Str->Option Value)(x:Str)(C B:Addr)(qual:Str)(st:Stmt)(ps:List Str):Prop where
 cl:dY K C B
 ex:∃f fd,W.findIn K (.ref C) "__init__"=some (some (.ref f))/\W.isFn K (.ref f)=true/\vP K "__init__" qual st f fd/\Binds K fd ps []
 mg:mg x=some (.ref C)
structure LC (P:Program)(w:World)(K:W.Frag)(mg:Str->Option Value)(base:Heap)(x:Str)(C B:Addr)(k:Nat)(ps:List Str)(sp:Sp):Prop where
 cl:dY K C B
 ex:∃f fd,W.findIn K (.ref C) "__init__"=some (some (.ref f))/\W.isFn K (.ref f)=true/\dU P w K mg base qR k f fd ps sp/\Binds K fd ps []
 mg:mg x=some (.ref C)
section
variable {P:Program}{w:World}{K:W.Frag}{mg:Str->Option Value}{base:Heap}
theorem HF.ok{x:Str}{C B:Addr}{qual:Str}{st:Stmt}{N ps:List Str}{k:Nat}{sp:Sp}(T:HF K mg x C B qual st ps)(S:aI N ps (av st))(len:∀vs H Q E,sp vs H Q E->vs.length=ps.length)
  (cX:∀(f:Addr) (cy:Value) (A:Around) (outer:List Env) (s:Shared) (H:Hp) (vs:List V) (Q:VK) (E:XK),bR k (A.deeper (envOfC qual (av st) s.heap.objs.size f cy))->sp vs H Q E->
   ∃t,kr (fz qR P w K mg base N qual (av st) f cy A outer s H E).lK (bq st) t/\t {nx:=λ_ H'=>Q .bb H',rt:=Q} (start N vs) H):LC P w K mg base x C B (k + 1) ps sp:=by
 obtain⟨f,fd,M1,M2,F,hb⟩:=T.ex
 exact⟨T.cl,⟨f,fd,M1,M2,F.ok S len (cX f),hb⟩,T.mg⟩
end
def vc:V->Value
 | .ref a=>.ref a
 | .ty n=>.type n
 | _=>.none
def HG (K:W.Frag):List V->Hp->VK->Prop:=λxs H Q=>∃a C B d c b fl,xs=[.ref a,c]/\H a=some (XO a C d fl)/\(∀dx,d=some dx->∃fs,H dx=some (XD dx fs))/\dY K C B/\(c=.ref (match c with | .ref z=>z | _=>0)\/∃n,c=.ty n)/\W.kitOne K (.ref C) (vc c)=some b/\Q (.bl b) H
theorem yc {X:Cx}:cz X (.builtin "isinstance") (HG X.K):=by
 intro pins s σ H vs us Q I r h
 obtain⟨a,C,B,d,c,b,fl,rfl,ea,ed,cl,hc,k,q⟩:=h
 obtain⟨u,Es,rfl,ru,r'⟩:∃u Es,us=u::Es/\RelV (.ref a) u/\Vals [c] Es:=by cases r with | cons a b=>exact⟨_,_,rfl,a,b⟩
 obtain⟨u2,rfl,FU⟩:=r'.one
 cases(show u=Value.ref a from ru)
 have e2:u2=vc c:=by
  rcases hc with hc | ⟨n,hc⟩
  ·rw[hc] at FU ⊢;exact FU
  ·rw[hc] at FU ⊢;exact FU
 subst e2
 exact q8 I ea ed cl k λtk=>⟨.bl b,H,I.tok _,rfl,q⟩
end L2
set_option maxHeartbeats 4000000
namespace L2
open PySem PySem.Spec PyProof.Rows
variable {a:Addr}{g:Bool->Bool}{H:Hp}{ix:List (Option Nat)}{σ:St}{te:TE}{wi:TI}{tt:TT}{Q:VK}{K:W.Frag}
section
variable {X:Cx}{K:W.Frag}
theorem uQ (hK:X.K=K):cz X (.builtin "isinstance") (AM K):=hK ▸ bN
theorem kT (hK:X.K=K):cz X (.builtin "len") (Ec K):=hK ▸ aU
theorem cT (hK:X.K=K):cz X (.type "list") (su K):=hK ▸ fM
theorem sS (hK:X.K=K)(hu:X.A.units + 64 < cLine):dS X (compareOp .Eq) (Hq K):=hK ▸ bG hu
theorem eJ {a b:Expr}{ta tb:TE}{pos:Pos}(hK:X.K=K)(hu:X.A.units + 64 < cLine)(ha:PE X a ta)(hb:PE X b tb)(h:nz b=true:=by rfl):PE X (.Subscript a b pos) (uh (FO K) ta tb):=hK ▸ aH hu ha hb h
theorem sT {i j:Nat}{x y:Str}{px py pos:Pos}{k:Nat}(hK:X.K=K)(hc:X.calm=true)(hN:X.N.Nodup)(hi:X.N[i]?=some x)(hj:X.N[j]?=some y)(hx:Loc X.env.scope x)(hy:Loc X.env.scope y)
  (LA:X.fn x=true\/X.env.scope.names.lookup x=some .local:=by first | exact .inl rfl | exact .inr rfl | assumption) (LB:X.fn y=true\/X.env.scope.names.lookup y=some .local:=by first | exact .inl rfl | exact .inr rfl | assumption):
  PG X (.Tuple [.Name x px,.Name y py] k pos) (Dq K 2 (oz (eH i) (oz (eH j) Dp))):=hK ▸ yb hc hN hi hj hx hy LA LB
end
inductive HH {α:Sort _}(x:α):Type
 | mk
def LD (ix:List (Option Nat))(wi:TI)(g:TG)(tt:TT)(te:TE)(_:HH (ix,wi,g,tt,te)):TE:=FN ix wi g tt te
theorem sU {g:TG}:FN ix wi g tt te=LD ix wi g tt te .mk:=rfl
def HI (wi:TI)(g:TG)(tb:TS)(_:HH (wi,g,tb)):TS:=Du wi g tb
theorem o1 {g:TG}{tb:TS}:Du wi g tb=HI wi g tb .mk:=rfl
def AQ (tc:TT)(tb:TS)(_:HH (tc,tb)):TS:=qo tc tb
theorem kU {tc:TT}{tb:TS}:qo tc tb=AQ tc tb .mk:=rfl
theorem cR {g:TG}(h:wi σ H λJ H1=>∀D,H1 D=none->kK ix J g tt te σ H1 Q D):FN ix wi g tt te σ H Q:=h
def AR (ix:List (Option Nat))(J:It)(g:TG)(tt:TT)(te:TE)(σ:St)(H:Hp)(Q:VK)(D:Addr)(_:HH (ix,J,g,tt,te,σ,H,Q,D)):Prop:=kK ix J g tt te σ H Q D
theorem kW {J:It}{g:TG}{D:Addr}:kK ix J g tt te σ H Q D=AR ix J g tt te σ H Q D .mk:=rfl
theorem yd:JK g (.ref a) .bb H Q=Q (.bl (g false)) H:=by
 show Q (.bl (g (decide (V.ref a=.bb)))) H=_
 simp
theorem ye:JK g .bb .bb H Q=Q (.bl (g true)) H:=by
 show Q (.bl (g (decide (V.bb=.bb)))) H=_
 simp
theorem ak.JR{H':Hp}(s:ak H H'){a:Addr}{xs:List V}(h:bM K H a xs):bM K H' a xs:=by
 rcases h with(h | ⟨o,h⟩) | h
 ·exact .inl (.inl (s _ _ h))
 ·exact .inl (.inr ⟨o,s _ _ h⟩)
 ·exact .inr h
theorem gf {α:Type}(x:α)(n:Nat):List.replicate n x++[x]=List.replicate (n + 1) x:=by
 rw[List.replicate_succ',]
theorem kX (n:Nat):List.replicate n (V.bl true)=(List.replicate n true).map V.bl:=by simp
theorem uR {xs:List V}{i:Int}{v:V}{P:V->Prop}(h:H a=some (.tup xs))(e:iF xs i=some v)(k:P v):∃xs v,(aX K H a xs\/bM K H a xs)/\iF xs i=some v/\P v:=⟨xs,v,.inr (bM.of h),e,k⟩
theorem bp {xs:List V}{i:Int}{v:V}{P:V->Prop}(h:H a=some (.lst xs))(e:iF xs i=some v)(k:P v):∃xs v,(aX K H a xs\/bM K H a xs)/\iF xs i=some v/\P v:=⟨xs,v,.inl (aX.of h),e,k⟩
def Et (DY:List (TE×TE))(_:HH DY):TE:=BU DY
theorem mG {DY:List (TE×TE)}:BU DY=Et DY .mk:=rfl
end L2
set_option maxHeartbeats 400000
namespace L2
open PySem PySem.Spec PyProof.Rows
section
section
variable {X:Cx}{K:W.Frag}
theorem jh (hK:X.K=K):cz X (.builtin "isinstance") (HG K):=hK ▸ yc
end
end
section
variable {L:Addr}{outer:List Env}
def ke (h:Heap)(e:Addr)(T:Option Addr)(fl:Value):Prop:=
 ∃oe vs,h.get? e=some oe/\oe.data=.fields vs/\((T=none/\vs[1]?=some .none)\/∃t oT ts,T=some t/\t≠e/\vs[1]?=some (.ref t)/\h.get? t=some oT/\oT.data=.fields ts/\ts[3]?=some fl)
structure LF (S:List Addr)(e:Addr)(T:Option Addr)(h h':Heap):Prop where
 keep:∀b o,b≠e->T≠some b->b ∉ S->h.get? b=some o->h'.get? b=some o
 slot:∀b o,b≠e->T≠some b->h.get? b=some o->∃sl,h'.get? b=some {o with slots:=sl}
 HJ:∀o vs,h.get? e=some o->o.data=.fields vs->∃LG,h'.get? e=some {o with data:=.fields LG}
 LH:∀t o,T=some t->h.get? t=some o->∃o',h'.get? t=some o'
 size:h.objs.size<=h'.objs.size
theorem kY {o:Obj}{vs:Array Value}{f:Array Value->Array Value}(hd:o.data=.fields vs):o.mapFields f={o with data:=.fields (f vs)}:=by
 obtain⟨c,d,dt,sl⟩:=o
 cases hd
 rfl
section
variable {M:Model}{A:Around}{E:Value->Shared->Prop}{s:Shared}
theorem entry_at {base:Heap}{env:Env}{e:Addr}{oe:Obj}{vs:Array Value}{head:Value}{AS:Bool}{Q:Unit->Shared->Prop}
  (AE:A.frames=some (env::outer)) (hl:s.heap.FunFrames base (env::outer)) (hf:env.frame=some L)
  (he:s.heap.get? e=some oe) (hd:oe.data=.fields vs) (qz:1 < vs.size)
  (h:∀h' t,s.heap.objs.size<=t->LF (oh (env::outer)) e none s.heap h'->ke h' e (some t) (rawInt L)->Q () {s with heap:=h'}):
  wpAny M A (do let a <-frameOf env;let pl <-entryPlaceOf L AS;let b <-EntryCells.newEntry head a .none (rawInt L) .none pl;setField (.ref e) 1 b) Q E s:=by
 have LI:e ∉ (env::outer).filterMap (·.frame):=λhm=>by
  obtain⟨_,o,ho,HK⟩:=hl.mem hm
  rw[he] at ho;injection ho with ho;subst ho;exact HK vs hd
 refine wpAny_bind (wpAny_frameOf_fun AE hl hf λh₁ HL=>?_)
 refine wpAny_bind (wpAny_entryPlaceOf λpl qG=>?_)
 unfold EntryCells.newEntry newFields
 refine wpAny_bind (wpAny_newObj_type ?_ (qG.sizeOk5 _ _ _ _ _))
 have Oh:h₁.get? e=some oe:=(HL.2.1 e LI).trans he
 have Oi:=Heap.get?_push_of_some (h:=h₁) {cls:=.type "traceback",dict:=none,data:=.fields ([head,.ref L,.none,rawInt L,.none]++(if pl.isEmpty then List.replicate 6 Value.none else pl)).toArray} Oh
 have vQ:h₁.objs.size≠e:=Nat.ne_of_gt (Heap.lt_size Oh)
 have Oj:=Obj.data_mapFields hd (·.setIfInBounds 1 (Value.ref h₁.objs.size))
 have Ol:=Heap.get?_update_self (Obj.mapFields (·.setIfInBounds 1 (Value.ref h₁.objs.size))) Oi (Obj.isFreed_of_fields Oj)
 have QE:=(Heap.get?_update_other (h₁.push {cls:=.type "traceback",dict:=none,data:=.fields ([head,.ref L,.none,rawInt L,.none]++(if pl.isEmpty then List.replicate 6 Value.none else pl)).toArray})
  (Obj.mapFields (·.setIfInBounds 1 (Value.ref h₁.objs.size))) (Ne.symm vQ)).trans (Heap.get?_push_size h₁ rfl)
 have keep:∀b o,b≠e->h₁.get? b=some o->
   ((h₁.push {cls:=.type "traceback",dict:=none,data:=.fields ([head,.ref L,.none,rawInt L,.none]++(if pl.isEmpty then List.replicate 6 Value.none else pl)).toArray}).update e (Obj.mapFields (·.setIfInBounds 1 (Value.ref h₁.objs.size)))).get? b=some o:=
  λb o z0 hb=>by
   rw[Heap.get?_update_other _ _ (Ne.symm z0)]
   exact Heap.get?_push_of_some _ hb
 refine wpAny_setField Oi hd qz (h _ h₁.objs.size (by rw[HL.1];exact Nat.le_refl _) ⟨λb o hb _ hS hg=>keep b o hb ((HL.2.1 b hS).trans hg),λb o hb _ hg=>?_,λo LG hg mh=>?_,λt o z _=>(nomatch z),?_⟩ ?_)
 ·obtain⟨sl,hq⟩:=HL.2.2 b o hg
  exact⟨sl,keep b _ hb hq⟩
 ·rw[he] at hg
  cases hg
  rw[hd] at mh
  cases mh
  exact⟨_,by rw[Ol,kY hd]⟩
 ·rw[Heap.size_update,Heap.size_push,HL.1];exact Nat.le_succ _
 ·exact⟨_,_,Ol,Oj,.inr ⟨h₁.objs.size,_,_,rfl,vQ,by simp[qz],QE,rfl,by first | (simp;done) | (rcases qG with rfl | ⟨_,_,_,_,_,_,_,rfl⟩ <;> simp)⟩⟩
theorem AU {base:Heap}{env:Env}{e:Addr}{T:Option Addr}{Q:Unit->Shared->Prop}
  (AE:A.frames=some (env::outer)) (hl:s.heap.FunFrames base (env::outer)) (hf:env.frame=some L) (ht:ke s.heap e T .none)
  (h:∀h' t,s.heap.objs.size<=t->LF (oh (env::outer)) e T s.heap h'->ke h' e (some t) (rawInt L)->Q () {s with heap:=h'}):wpAny M A (noteFrame (.ref e) env) Q E s:=by
 obtain⟨oe,vs,he,hd,ht⟩:=ht
 unfold noteFrame
 simp only[hf]
 rcases ht with⟨rfl,h1⟩ | ⟨t,oT,ts,rfl,vQ,h1,hT,B8,h3⟩
 ·refine wpAny_bind (wpAny_field he hd h1 ?_)
  rw[if_neg (by decide)]
  exact entry_at AE hl hf he hd (Array.getElem?_eq_some_iff.mp h1).1 h
 ·refine wpAny_bind (wpAny_field he hd h1 ?_)
  rw[if_pos (show(Value.ref t != Value.none)=true from by simp)]
  refine wpAny_bind (wpAny_field hT B8 h3 ?_)
  rw[if_neg (show ¬((Value.none == rawInt L)=true) from by simp[rawInt])]
  refine wpAny_bind (wpAny_setField hT B8 (Array.getElem?_eq_some_iff.mp h3).1 ?_)
  have other:∀b,b≠t->(s.heap.update t (Obj.mapFields (·.setIfInBounds 3 Value.none))).get? b=s.heap.get? b:=λb hb=>Heap.get?_update_other _ _ (Ne.symm hb)
  have yf:∀b o,s.heap.get? b=some o->(∀vs,o.data≠.fields vs)->b≠t:=λb o hb HK q=>by
   rw[q,hT] at hb;injection hb with hb;subst hb;exact HK ts B8
  have HM:=Heap.get?_update_self (Obj.mapFields (·.setIfInBounds 3 Value.none)) hT (Obj.isFreed_of_fields (Obj.data_mapFields B8 _))
  refine entry_at AE (hl.of_keeps λb o hb HK=>⟨o,(other b (yf b o hb HK)).trans hb,rfl⟩) hf ((other e (Ne.symm vQ)).trans he) hd (Array.getElem?_eq_some_iff.mp h1).1 λh' t' hs c tr=>h h' t' ?_ ?_ tr
  ·have:=hs;rw[Heap.size_update] at this;exact this
  ·refine⟨λb o hb hn hS hg=>c.keep b o hb (λz=>nomatch z) hS ((other b (λz=>hn (by rw[z]))).trans hg),λb o hb hn hg=>c.slot b o hb (λz=>nomatch z) ((other b (λz=>hn (by rw[z]))).trans hg),λo vs hg hd=>c.HJ o vs ((other e (Ne.symm vQ)).trans hg) hd,λt2 o z hg=>?_,?_⟩
   ·cases z
    obtain⟨sl,q⟩:=c.slot t _ vQ (λz=>nomatch z) HM
    exact⟨_,q⟩
   ·have:=c.size;rw[Heap.size_update] at this;exact this
theorem uS {e t:Addr}{fl:Value}{Q:Unit->Shared->Prop}(ht:ke s.heap e (some t) fl)
  (h:∀h',(∀b o,b≠t->s.heap.get? b=some o->h'.get? b=some o)->h'.objs.size=s.heap.objs.size->ke h' e (some t) .none->Q () {s with heap:=h'}):wpAny M A (setFlight (.ref e) none) Q E s:=by
 obtain⟨oe,vs,he,hd,ht⟩:=ht
 rcases ht with⟨z,_⟩ | ⟨t',oT,ts,z,vQ,h1,hT,B8,h3⟩
 ·cases z
 cases z
 have HN:3 < ts.size:=(Array.getElem?_eq_some_iff.mp h3).1
 unfold setFlight
 refine wpAny_bind (wpAny_field he hd h1 ?_)
 rw[if_pos (show(Value.ref t != Value.none)=true from by simp)]
 have other:∀b,b≠t->(s.heap.update t (Obj.mapFields (·.setIfInBounds 3 ((none:Option Addr).elim Value.none λf=>rawInt f)))).get? b=s.heap.get? b:=
  λb hb=>Heap.get?_update_other _ _ (Ne.symm hb)
 refine wpAny_setField hT B8 HN (h _ (λb o hb hg=>(other b hb).trans hg) (Heap.size_update ..) ?_)
 exact⟨oe,vs,(other e (Ne.symm vQ)).trans he,hd,.inr ⟨t,_,_,rfl,vQ,h1,Heap.get?_update_self _ hT (Obj.isFreed_of_fields (Obj.data_mapFields B8 _)),Obj.data_mapFields B8 _,by simp[HN]⟩⟩
end
section
variable {X:Cx}{pins:List (Addr×Obj)}{σ:St}{H:Hp}{s:Shared}{e C:Addr}{d:Option Addr}{fl:Bool}{T:Option Addr}{h':Heap}
def o2 (X:Cx)(pins:List (Addr×Obj))(H:Hp)(t:Addr):Prop:=H t=none/\X.s₀.heap.objs.size<=t/\t≠X.env.locals/\(∀x c,X.env.cells.lookup x=some c->c≠t)/\∀p ∈ X.pn++pins,p.1≠t
theorem Inv.HP(I:Inv X pins σ H s){t:Addr}(h:s.heap.objs.size<=t):o2 X pins H t:=by
 refine⟨I.ba.fresh h,Nat.le_trans I.sz h,Nat.ne_of_gt (Nat.lt_of_lt_of_le I.lt h),λx c hc=>?_,λp hp=>?_⟩
 ·obtain⟨v,o,hv⟩:=I.cell x c hc
  exact Nat.ne_of_lt (Nat.lt_of_lt_of_le (Heap.lt_size hv.1) h)
 ·exact Nat.ne_of_lt (Nat.lt_of_lt_of_le (Heap.lt_size (I.pin p hp).1) h)
theorem Inv.chg(I:Inv X pins σ H s)(he:H e=some (XO e C d fl))(c:LF (oh X.stack) e T s.heap h')(hT:∀t,T=some t->o2 X pins H t):Inv X pins σ (upd H e (XO e C d false)) {s with heap:=h'}:=by
 obtain⟨vs,sl,ho,_⟩:=nA I he
 obtain⟨LG,kC⟩:=c.HJ _ _ ho rfl
 have nT:∀b u,H b=some u->T≠some b:=λb u q z=>by rw[(hT b z).1] at q;cases q
 have ex:∀b o,s.heap.get? b=some o->∃o',h'.get? b=some o':=λb o g=>by
  by_cases z:b=e
  ·subst z;exact⟨_,kC⟩
  ·by_cases z2:T=some b
   ·exact c.LH b o z2 g
   ·obtain⟨sl,q⟩:=c.slot b o z z2 g
    exact⟨_,q⟩
 have ne:∀b,H b=none->b≠e:=λb q z=>by rw[z,he] at q;cases q
 refine I.call (g':=s.gens) (t':=s.toks) (d':=s.drawn) (ch:=T.toList) ⟨λb o g n hS hc=>c.keep b o (ne b n) (λz=>hc (by simp[z])) hS g,λb o g n _ hc=>c.slot b o (ne b n) (λz=>hc (by simp[z])) g,λb o _ n _=>by rw[ay (ne b n)];exact n,λb o g _=>ex b o g,λb xs q=>?_,λb o u q=>?_,λb ps q=>?_⟩ (λb u q=>?_) I.bare (λb hb=>?_)
 ·rw[ay (λz=>by rw[z,he] at q;cases q)];exact q
 ·rw[ay (λz=>by rw[z,he] at q;cases q)];exact q
 ·rw[ay (λz=>by rw[z,he] at q;cases q)];exact⟨#[],by simp[q]⟩
 ·by_cases z:b=e
  ·subst z
   rw[ag] at q
   cases q
   exact B4 kC (λz=>nomatch z)
  ·rw[ay z] at q
   refine(I.ba b u q).aY (λb' u' AV g=>?_) (λb' q'=>?_) (λb' xs q'=>?_)
   ·have nb:b'≠e/\T≠some b'/\b' ∉ oh X.stack:=by
     rcases AV with rfl | AV
     ·exact⟨z,nT _ _ q,λhm=>by rw[I.kq _ hm] at q;cases q⟩
     ·exact⟨(λz=>by rw[z,he] at AV;cases AV),nT _ _ AV,(λhm=>by rw[I.kq _ hm] at AV;cases AV)⟩
    exact c.keep b' u' nb.1 nb.2.1 nb.2.2 g
   ·rw[ay (λz=>by rw[z,he] at q';cases q')];exact q'
   ·rw[ay (λz=>by rw[z,he] at q';cases q')];exact q'
 ·have e:T=some b:=by
   cases T with
   | none=>simp at hb
   | some t=>simp at hb;rw[hb]
  obtain⟨a1,a2,a3,a4,a5⟩:=hT b e
  exact⟨.inr a2,a3,a4,a5⟩
theorem Inv.LJ(I:Inv X pins σ H s){t:Addr}(o:o2 X pins H t)(k:∀b o,b≠t->s.heap.get? b=some o->h'.get? b=some o):Inv X pins σ H {s with heap:=h'}:=
 I.turned (t':=s.toks) k o.1 o.2.2.1 (.inr o.2.1) o.2.2.2.1 o.2.2.2.2
end
def kg (P:Program)(w:World):wM:=λouter H s E e s'=>∃a C d H' t,e=.ref a/\s'.os=s.os/\AllBare s'.gens/\Un (oh outer) [] H H' s.heap s'.heap/\iy P w H' s'.heap/\H' a=some (XO a C d false)/\
 ke s'.heap a (some t) .none/\H' t=none/\s.heap.objs.size<=t/\E e none H'
section
variable {X:Cx}{pins:List (Addr×Obj)}{σ:St}{H:Hp}{s:Shared}{a C:Addr}{d:Option Addr}{fl:Bool}{T:Option Addr}{h':Heap}{E:XK}{E1:Value->Shared->Prop}
theorem o4 {Q:Unit->Shared->Prop}(wz:X.stack=X.env::outer)(hf:X.env.frame=some L)(I:Inv X pins σ H s)(he:H a=some (XO a C d fl))(ht:ke s.heap a T .none)(hT:∀t,T=some t->o2 X pins H t)
  (h:∀h' t,Inv X pins σ (upd H a (XO a C d false)) {s with heap:=h'}->ke h' a (some t) (rawInt L)->o2 X pins (upd H a (XO a C d false)) t->s.heap.objs.size<=t->Q () {s with heap:=h'}):wpAny (model X.prog X.w) X.A (noteFrame (.ref a) X.env) Q E1 s:=by
 have QF:X.A.frames=some (X.env::outer):=by rw[<-wz];exact I.ok.frames
 have hl:s.heap.FunFrames X.base (X.env::outer):=by rw[<-wz];exact I.stack
 refine AU QF hl hf ht λh' t hs c tr=>?_
 rw[<-wz] at c
 have I2:=I.chg he c hT
 have o:=I.HP hs
 refine h h' t I2 tr ⟨?_,o.2⟩ hs
 rw[ay (λz=>by have:=o.1;rw[z,he] at this;cases this)]
 exact o.1
theorem kZ {t:Addr}{fv:Value}{Q:Unit->Shared->Prop}{A:Around}(I:Inv X pins σ H s)(ht:ke s.heap a (some t) fv)(o:o2 X pins H t)
  (h:∀h',Inv X pins σ H {s with heap:=h'}->ke h' a (some t) .none->Q () {s with heap:=h'}):wpAny (model X.prog X.w) A (setFlight (.ref a) none) Q E1 s:=
 uS ht λh' k _ tr=>h h' (I.LJ o k) tr
theorem o5 (wz:X.stack=X.env::outer)(ho:X.outer=outer)(hex:X.ex=[])(hf:X.env.frame=some L)(I:Inv X pins σ H s)(he:H a=some (XO a C d fl))(ht:ke s.heap a T .none)(hT:∀t,T=some t->o2 X pins H t)
  (hE:E (.ref a) none (upd H a (XO a C d false))):wpAny (model X.prog X.w) X.A (leaving X.env (.ref a)) (λ_ GS=>kg X.prog X.w outer X.H₀ X.s₀ E (.ref a) GS) E1 s:=by
 unfold leaving
 refine wpAny_bind (o4 wz hf I he ht hT λh1 t I1 tr o hs=>?_)
 refine kZ (s:={s with heap:=h1}) I1 tr o λh2 I2 QG=>?_
 have b:=I2.base
 rw[hex,Cx.fs,ho] at b
 exact⟨a,C,d,_,t,rfl,I2.os,I2.bare,b,I2.ba,ag,QG,o.1,Nat.le_trans I.sz hs,hE⟩
end
def Throws (X:Cx)(E:XK):Prop:=∀(pins:List (Addr×Obj)) (σ:St) (H:Hp) (s:Shared) (a C:Addr) (d:Option Addr),Inv X pins σ H s->H a=some (XO a C d true)->E (.ref a) none (upd H a (XO a C d false))->X.xe (.ref a) s
theorem yg {H:Hp}{a:Addr}{o:HO}(h:H a=some o):upd H a o=H:=by
 funext b
 by_cases z:b=a
 ·subst z;rw[ag];exact h.symm
 ·exact ay z
section
variable {P:Program}{w:World}{K:W.Frag}{mg:Str->Option Value}{base:Heap}{N:List Str}{qual:Str}{scope:Scope}{f:Addr}{cd:Value}{A:Around}{outer:List Env}{s:Shared}{H:Hp}{E:XK}
theorem kx:Throws (fz (kg P w) P w K mg base N qual scope f cd A outer s H E) E:=by
 intro pins σ H1 s1 a C d I he hE
 obtain⟨vs,sl,ho,hv⟩:=nA I he
 exact o5 (X:=fz (kg P w) P w K mg base N qual scope f cd A outer s H E) (T:=none) rfl rfl rfl rfl I he ⟨_,vs,ho,rfl,.inl ⟨rfl,hv rfl⟩⟩ (λt z=>nomatch z) hE
theorem Inv.thrown{X:Cx}{pins:List (Addr×Obj)}{σ:St}{H:Hp}{s s':Shared}{e:Value}(I:Inv X pins σ H s)(h:kg X.prog X.w X.stack H s E e s'):
  ∃a C d H' t,e=.ref a/\Inv X pins σ H' s'/\H' a=some (XO a C d false)/\ke s'.heap a (some t) .none/\o2 X pins H' t/\E e none H':=by
 obtain⟨a,C,d,H',t,rfl,os,bare,un,ba,ha,tr,ht,hs,q⟩:=h
 have I1:Inv X pins σ H' s':=I.BC (ch:=[]) os un ba bare λb z=>absurd z (by simp)
 exact⟨a,C,d,H',t,rfl,I1,ha,tr,⟨ht,(I.HP hs).2⟩,q⟩
theorem nI:Passes (kg P w) (fz (kg P w) P w K mg base N qual scope f cd A outer s H E) E:=by
 intro pins σ H1 s1 e s2 I h
 obtain⟨a,C,d,H',t,rfl,I1,ha,tr,o,q⟩:=I.thrown h
 exact o5 (X:=fz (kg P w) P w K mg base N qual scope f cd A outer s H E) (T:=some t) rfl rfl rfl rfl I1 ha tr (λt' z=>by cases z;exact o) (by rw[yg ha];exact q)
end
end
section
variable {st:Stmt}{qual x:Str}{xe:Value->Shared->Prop}
section
variable {M:Model}{A:Around}{E:Value->Shared->Prop}{env:Env}{K:W.Frag}
theorem uT {s:Shared}{x:Sem Value}{Q:Flow->Shared->Prop}(hh:A.handled=none)
  (h:wpAny M A x (λv s₁=>∃e C B d vs sl,v=.ref e/\K.In s₁.heap/\dY K C B/\s₁.heap.get? e=some (⟨.ref C,d,.fields vs,sl⟩:Obj)/\vs[1]?=some .none/\E (.ref e) s₁) E s):
  wpAny M A (raiseStmt env (some x) none) Q E s:=by
 unfold raiseStmt
 refine wpAny_bind (wpAny_mono h (λv s₁ h₁=>?_) λ_ _ x=>x)
 obtain⟨e,C,B,d,vs,sl,rfl,og,cl,he,hv,hE⟩:=h₁
 obtain⟨nm,q,N,bs,sn,sub,ab,col,dd,k0,k1,k2,k3,k5,ho⟩:=cl.ob
 have hC:=og _ _ ho
 have AI:(Value.ref C::.ref B::ka).contains (.type "BaseException")=true:=rfl
 obtain⟨hp,g,d',tk,os⟩:=s₁
 repeat (first | with_reducible refine wpAny_loadPart_at he ?_ | with_reducible refine wpAny_loadPart_at hC ?_ | (with_reducible refine wpAny_isSubtype_exc hC ?_;rw[AI]) | wp_step)
 rw[hv]
 refine wpAny_pure ?_
 rw[if_neg (by decide)]
 refine wpAny_pure ?_
 exact wpAny_raiseNew_none hh hE
end
def rj (K:W.Frag)(E:XK)(te:TE):TS:=λ_ σ H=>te σ H λx H1=>∃a C B d,x=.ref a/\H1 a=some (XO a C d true)/\dY K C B/\E (.ref a) none (upd H1 a (XO a C d false))
section
variable {X:Cx}{E:XK}{e:Expr}{te:TE}{pos:Pos}
theorem iN (hc:X.calm=true)(hT:Throws X E)(he:PE X e te):PS X (.Raise (some e) none pos) (rj X.K E te):=by
 walk_at "xd"
 rw[arm_exec_Raise]
 refine wpAny_bind (wpAny_standAt ?_)
 show wpAny _ _ (raiseStmt X.env (some (do let v <-eval e X.env;standAt pos;pure v)) none) _ _ _
 refine uT (K:=X.K) (I.ok.hd hc) (wpAny_bind (bU (he pins s σ H _ I h) λv s1 ⟨x,H1,I1,rx,a,C,B,d,ex,ea,cl,q⟩=>wpAny_bind (wpAny_standAt (wpAny_pure ?_))))
 subst ex
 obtain rfl:v=Value.ref a:=rx
 obtain⟨vs,sl,ho,hv⟩:=nA I1 ea
 exact⟨a,C,B,d,vs,sl,rfl,I1.dP,cl,ho,hv rfl,hT pins σ H1 s1 a C d I1 ea q⟩
end
section
variable {P:Program}{w:World}{K:W.Frag}{mg:Str->Option Value}{base:Heap}
theorem vP.yh{f:Addr}{fd:FuncData}{N ps:List Str}{k:Nat}{sp:Sp}(F:vP K x qual st f fd)(S:aI N ps (av st))(len:∀vs H Q E,sp vs H Q E->vs.length=ps.length)
  (cX:∀(cy:Value) (A:Around) (outer:List Env) (s:Shared) (H:Hp) (vs:List V) (Q:VK) (E:XK),bR k (A.deeper (envOfC qual (av st) s.heap.objs.size f cy))->sp vs H Q E->
   ∃t,kr (fz (kg P w) P w K mg base N qual (av st) f cy A outer s H E) (bq st) t/\t {nx:=λ_ H'=>Q .bb H',rt:=Q} (start N vs) H):dU P w K mg base (kg P w) (k + 1) f fd ps sp:=by
 obtain⟨oc,od,kV,doc,pm,an,cy,ct,Ap,rfl,lk,lN⟩:=F.ex
 exact BK lk lN S len λA outer s H vs Q E hr zO=>cX cy A outer s H vs Q E hr zO
structure DefX (P:Program)(w:World)(K:W.Frag)(mg:Str->Option Value)(base:Heap)(x:Str)(k:Nat)(ps:List Str)(sp:Sp):Prop where
 ex:∃f fd,dU P w K mg base (kg P w) k f fd ps sp/\mg x=some (.ref f)/\W.keepIn K (.ref f)=true/\Binds K fd ps []
structure fW (P:Program)(w:World)(K:W.Frag)(mg:Str->Option Value)(base:Heap)(C:Addr)(m:Str)(k:Nat)(ps:List Str)(sp:Sp):Prop where
 ex:∃f fd,Meth K C m f/\dU P w K mg base (kg P w) k f fd ps sp/\Binds K fd ps []
structure mH (P:Program)(w:World)(K:W.Frag)(mg:Str->Option Value)(base:Heap)(x:Str)(C:Addr)(k:Nat)(ps:List Str)(sp:Sp):Prop where
 ex:∃f fd,Mk K C f/\dU P w K mg base (kg P w) k f fd ps sp/\Binds K fd ps []
 mg:mg x=some (.ref C)
theorem cJ.yh{N ps:List Str}{k:Nat}{sp:Sp}(T:cJ K mg x qual st ps)(S:aI N ps (av st))(len:∀vs H Q E,sp vs H Q E->vs.length=ps.length)
  (cX:∀(f:Addr) (cy:Value) (A:Around) (outer:List Env) (s:Shared) (H:Hp) (vs:List V) (Q:VK) (E:XK),bR k (A.deeper (envOfC qual (av st) s.heap.objs.size f cy))->sp vs H Q E->
   ∃t,kr (fz (kg P w) P w K mg base N qual (av st) f cy A outer s H E) (bq st) t/\t {nx:=λ_ H'=>Q .bb H',rt:=Q} (start N vs) H):DefX P w K mg base x (k + 1) ps sp:=by
 obtain⟨f,fd,F,hm,hb⟩:=T.ex
 exact⟨f,fd,F.yh S len (cX f),hm,F.kp,hb⟩
theorem rh.yh{C:Addr}{N ps:List Str}{k:Nat}{sp:Sp}(T:rh K mg x C qual st ps)(S:aI N ps (av st))(len:∀vs H Q E,sp vs H Q E->vs.length=ps.length)
  (cX:∀(f:Addr) (cy:Value) (A:Around) (outer:List Env) (s:Shared) (H:Hp) (vs:List V) (Q:VK) (E:XK),bR k (A.deeper (envOfC qual (av st) s.heap.objs.size f cy))->sp vs H Q E->
   ∃t,kr (fz (kg P w) P w K mg base N qual (av st) f cy A outer s H E) (bq st) t/\t {nx:=λ_ H'=>Q .bb H',rt:=Q} (start N vs) H):mH P w K mg base x C (k + 1) ps sp:=by
 obtain⟨f,fd,M,F,hb⟩:=T.ex
 exact⟨⟨f,fd,M,F.yh S len (cX f),hb⟩,T.mg⟩
end
section
variable {X:Cx}{o e:Expr}{es:List Expr}{to:TE}{t:TA}{apos p pos:Pos}{C:Addr}{m x:Str}{k j:Nat}{ps:List Str}{sp:Sp}{E:XK}
theorem Eu (D:DefX X.prog X.w X.K X.mg X.base x k ps sp)(hx:Passes (kg X.prog X.w) X E)(hr:bR j X.A)(ha:PA X (e::es) t)(hg:Gl X x:=by rfl)(hj:k<=j:=by decide)
  (iD:(x == ("__debug__":Str))=false:=by decide) (h1:bz e=true:=by rfl) (h2:es.all bz=true:=by rfl):PE X (.Call (.Name x p) (e::es) [] pos) (ml sp [] E t):=by
 obtain⟨f,fd,F,hm,hk,hb⟩:=D.ex
 exact r0 F (hr.mono hj) hg hm hk hb .nil hx ha iD (bE h1) (cj h2)
end
structure B9 (X:Cx)(e:Expr)(t:XK->TE):Prop where
 out:∀(pins:List (Addr×Obj)) (s:Shared) (σ:St) (H:Hp) (Q:VK) (E:XK) (xe:Value->Shared->Prop),(∀H1 s1 x s',Inv X pins σ H1 s1->kg X.prog X.w X.stack H1 s1 E x s'->xe x s')->Inv X pins σ H s->t E σ H Q->
  wpAny (model X.prog X.w) X.A (eval e X.env) (EP X pins σ Q) xe s
section
variable {X:Cx}{k j:Nat}{f C:Addr}{fd:FuncData}{ps:List Str}{sp:Sp}{E:XK}{x m:Str}{p pos apos:Pos}{e o:Expr}{es:List Expr}{ta:TE}{t:TA}
theorem PA.any(ha:PA X.lK es t){pins:List (Addr×Obj)}{s:Shared}{σ:St}{H:Hp}{Q:List V->Hp->Prop}(I:Inv X pins σ H s)(h:t σ H Q)(pos:Pos):
  wpAny (model X.prog X.w) X.A (spliced (backTo pos (starEach es X.env))) (AP X pins σ Q) xe s:=
 wpAny_mono (ha.out pos pins s σ H Q (I.gJ _) h) (λ_ _ ⟨vs,H',I',r,q⟩=>⟨vs,H',I'.cO,r,q⟩) λ_ _ z=>False.elim z
theorem AW {pins:List (Addr×Obj)}{σ:St}{H:Hp}{s:Shared}{Q:VK}{us:List Value}{vs:List V}{xe:Value->Shared->Prop}(F:dU X.prog X.w X.K X.mg X.base (kg X.prog X.w) k f fd ps sp)(hr:bR k X.A)(hb:Binds X.K fd ps [])
  (hx:∀H1 s1 x s',Inv X pins σ H1 s1->kg X.prog X.w X.stack H1 s1 E x s'->xe x s') (I:Inv X pins σ H s) (r:Vals vs us) (h:sp vs H Q E):wpAny (model X.prog X.w) X.A (call (.ref f) us) (EP X pins σ Q) xe s:=by
 have hl:(us++[]).length=ps.length:=by rw[List.append_nil,<-r.length];exact F.len _ _ _ _ h
 have r2:Vals vs (us++[]):=by rw[List.append_nil];exact r
 refine wpAny_call (codeAny_mono (F.run X.A X.stack s H ⟨us,[]⟩ (us++[]) vs Q E hr I.Ao (hb s us I.dP hl) r2 h) λr s' hq=>?_)
 cases r with
 | error e=>exact hx H s e s' I hq
 | ok fl=>
  cases fl with
  | ret u=>exact I.after hq
  | next=>exact False.elim hq
  | brk=>exact False.elim hq
  | cont=>exact False.elim hq
theorem uU {pins:List (Addr×Obj)}{σ:St}{H:Hp}{s:Shared}{Q:VK}{us:List Value}{vs:List V}(M:Mk X.K C f)(F:dU X.prog X.w X.K X.mg X.base (kg X.prog X.w) k f fd ps sp)(hr:bR (k + 1) X.A)(hb:Binds X.K fd ps [])
  (hx:∀H1 s1 x s',Inv X pins σ H1 s1->kg X.prog X.w X.stack H1 s1 E x s'->xe x s') (I:Inv X pins σ H s) (r:Vals vs us)
  (h:∀x dx,H x=none->H dx=none->dx≠x->sp (.ref x::vs) (upd (upd H dx (.own x)) x (.ins C dx [])) (λv H2=>v=.bb/\Q (.ref x) H2) E):
  wpAny (model X.prog X.w) X.A (call (.ref C) us) (EP X pins σ Q) xe s:=by
 have hq:=h (s.heap.objs.size + 1) s.heap.objs.size (I.ba.fresh (Nat.le_succ _)) (I.ba.fresh (Nat.le_refl _)) (Nat.ne_of_lt (Nat.lt_succ_self _))
 have I2:=Inv.made (C:=C) I
 have r2:Vals (V.ref (s.heap.objs.size + 1)::vs) ((Value.ref (s.heap.objs.size + 1)::us)++[]):=by rw[List.append_nil];exact .cons rfl r
 have hl:((Value.ref (s.heap.objs.size + 1)::us)++[]).length=ps.length:=by
  have e:=r2.length
  rw[F.len _ _ _ _ hq] at e
  exact e.symm
 refine wpAny_call (oE (f:=f) I.dP M.makes M.init (beq_iff_eq.mp M.fn) (codeAny_mono (F.run _ X.stack _ _ ⟨Value.ref (s.heap.objs.size + 1)::us,[]⟩ ((Value.ref (s.heap.objs.size + 1)::us)++[]) _ _ E (hr.make C us [])
  (I2.Ao.make C us []) (hb _ (Value.ref (s.heap.objs.size + 1)::us) I2.dP hl) r2 hq) λr s' wQ=>?_))
 cases r with
 | error e=>exact hx _ _ e s' I2 wQ
 | ok fl=>
  cases fl with
  | ret u=>
   obtain⟨v,H',I3,rv,ev,q3⟩:=I2.after wQ
   subst ev
   exact⟨rv,⟨V.ref (s.heap.objs.size + 1),H',I3,rfl,q3⟩⟩
  | next=>exact False.elim wQ
  | brk=>exact False.elim wQ
  | cont=>exact False.elim wQ
theorem Ew (D:mH X.prog X.w X.K X.mg X.base x C k ps sp)(hr:bR j X.A)(ha:PA X.lK (e::es) t)(hg:Gl X x:=by rfl)(hj:k + 1<=j:=by decide)(iD:(x == ("__debug__":Str))=false:=by decide)
  (h1:bz e=true:=by rfl) (h2:es.all bz=true:=by rfl):B9 X (.Call (.Name x p) (e::es) [] pos) (λE=>mm C sp [] E t):=by
 obtain⟨f,fd,M,F,hb⟩:=D.ex
 refine⟨λpins s σ H Q E xe hx I h=>?_⟩
 refine wpAny_Call_Name_kw (fI I hg D.mg ?_ iD)
 refine W.callWith_K (h₀:=X.base) I.ok.mod.og M.kp (bU (ha.any I h pos) λus s1 ⟨vs,H1,I1,r,q⟩=>⟨I1.dP,?_⟩) (bE h1) (cj h2)
 exact uU M F (hr.mono hj) hb hx I1 r (λx dx a b c=>by have:=q x dx a b c;rwa [List.append_nil] at this)
end
structure Om (X:Cx)(st:Stmt)(t:XK->TS):Prop where
 out:∀(pins:List (Addr×Obj)) (s:Shared) (σ:St) (H:Hp) (D:Ends) (E:XK) (xe:Value->Shared->Prop),(∀H1 s1 x s',Inv X pins σ H1 s1->kg X.prog X.w X.stack H1 s1 E x s'->xe x s')->Inv X pins σ H s->t E D σ H->
  wpAny (model X.prog X.w) X.A (exec st X.env) (SP X pins D) xe s
section
variable {X:Cx}{e:Expr}{t:XK->TE}{pos pos':Pos}{x:Str}{i:Nat}
theorem o6 (he:B9 X e t)(hs:swapsWith e none pos.line X.env=pure false:=by rfl):Om X (.Expr e pos) (λE=>oy (t E)):=
 ⟨λpins s σ H D E xe hx I h=>wpAny_Expr_any (bU (he.out pins s σ H _ E xe hx I h) λv s1 ⟨x,H1,I1,r1,q1⟩=>⟨σ,H1,I1,q1⟩) I.quiet hs⟩
end
end
section
structure XBase (K:W.Frag)(B:Addr):Prop where
 ob:∃nm q N bs sn sub ab col dd k0 k1 k2 k3 k5,K.lookup B=some (excClassObj nm q B N bs ka true sn sub ab col dd k0 k1 k2 k3 k5 "ValueError.__new__")
section
variable {M:Model}{A:Around}{E:Value->Shared->Prop}{K:W.Frag}
theorem LK {s:Shared}{e C B:Addr}{d:Option Addr}{vs:Array Value}{sl:Array (Option Value)}{Q:Bool->Shared->Prop}(og:K.In s.heap)(cl:dY K C B)(xb:XBase K B)(he:s.heap.get? e=some (⟨.ref C,d,.fields vs,sl⟩:Obj))
  (hq:Q true s):wpAny M A (excMatches (.ref e) (.ref B)) Q E s:=by
 obtain⟨nm,q,N,bs,sn,sub,ab,col,dd,k0,k1,k2,k3,k5,ho⟩:=cl.ob
 have hC:=og _ _ ho
 obtain⟨TV,q',N',TY,TZ,QH,T1,QI,QJ,T2,T3,T4,T5,T6,kC⟩:=xb.ob
 have hB:=og _ _ kC
 obtain⟨h,g,d',t,os⟩:=s
 have AI:(Value.ref B::ka).contains (.type "BaseException")=true:=rfl
 have Hu:(Value.ref C::.ref B::ka).contains (.ref B)=true:=by simp
 have f:=tc_notTuple
 unfold excMatches
 repeat (first | with_reducible refine wpAny_loadPart_at he ?_ | with_reducible refine wpAny_loadPart_at hC ?_ | with_reducible refine wpAny_loadPart_at hB ?_ | (with_reducible refine wpAny_isSubtype_exc hC ?_;rw[Hu]) | (with_reducible refine wpAny_isSubtype_exc hB ?_;rw[AI]) | wp_step)
 exact hq
end
abbrev Cx.ji(X:Cx)(a:Addr):Cx:={X with A:=X.A.mark (some (.ref a)),calm:=false,xe:=λ_ _=>False}
section
variable {X:Cx}{pins:List (Addr×Obj)}{σ:St}{H:Hp}{s:Shared}{a:Addr}
theorem Cx.Ok.ji(ok:X.Ok)(a:Addr):(X.ji a).Ok:=
 ⟨ok.mod,ok.kind,ok.glob,ok.blt,ok.above,ok.inj,ok.has,ok.De,(λz=>nomatch z),ok.frames,ok.FI,ok.GC,ok.bs,ok.t5,ok.oq,ok.qk,ok.iz,ok.Ac⟩
theorem Inv.ji(I:Inv X pins σ H s)(a:Addr):Inv (X.ji a) pins σ H s:=⟨I.ok.ji a,I.os,I.bare,I.base,I.loc,I.cell,I.free,I.eG,I.pin,I.ba,I.len⟩
theorem Inv.nJ(ok:X.Ok)(I:Inv (X.ji a) pins σ H s):Inv X pins σ H s:=⟨ok,I.os,I.bare,I.base,I.loc,I.cell,I.free,I.eG,I.pin,I.ba,I.len⟩
theorem ky {M:Model}{A:Around}{E:Value->Shared->Prop}{i:Nat}{n:Str}{pos:Pos}{Q:Unit->Shared->Prop}(I:Inv X pins σ H s)(hN:X.N.Nodup)(hi:X.N[i]?=some n)(hk:X.env.scope.names.lookup n=some .local)
  (h:∀s',Inv X pins (σ.set i none) H s'->Q () s'):wpAny M A (do bindName X.env n .none;unbindBehindTheSuite X.env n pos) Q E s:=by
 refine wpAny_bind (wpAny_bindName (fY I hN hi (.inl hk) (v:=.bb) (u:=.none) rfl (λs1 I1=>?_) (.inr hk)))
 have GF:i < σ.length:=by rw[I.len];exact(List.getElem?_eq_some_iff.mp hi).1
 obtain⟨m,hn,hl⟩:=id I1.loc
 have LL:X.env.kindOf n=some .local:=hk
 have hp:(X.env.scope.kind == .class || (X.env.scope.kind == .module && X.env.locals != X.env.globals))=false:=by rw[I.ok.kind];rfl
 have LM:∃u,m n=some u:=by
  obtain⟨u,_,q⟩:=hl i n .bb hi (List.getElem?_set_self GF) (.inl hk)
  rcases q with⟨_,e⟩ | ⟨k,_⟩
  ·exact⟨u,e⟩
  ·rcases k with k | k <;> (rw[LL] at k;cases k)
 obtain⟨um,LM⟩:=LM
 have wk:=I1.wk
 obtain⟨oL,_,_,NG,_⟩:=id hn
 unfold unbindBehindTheSuite
 refine wpAny_onRaise ?_
 unfold unbindName
 refine wpAny_bind (wpAny_point (wpAny_bind ?_))
 unfold deleteName
 simp only[LL,hp]
 rw[if_neg (by decide)]
 refine wpAny_bind (wpAny_nsDel_keeps hn λh' v Kp hs=>?_)
 rw[LM]
 simp only[if_true,Option.isSome_some,Bool.not_true,Bool.false_eq_true,if_false]
 refine wpAny_pure (wpAny_point (h _ ⟨I1.ok,I1.os,I1.bare,⟨λb o e n hb hx=>?_,λb o e n hb hx=>?_,I1.base.free,λb o e hx=>?_,I1.base.aZ,I1.base.i3,I1.base.j5⟩,⟨_,Kp,λj y v' e1 e2 e3=>?_⟩,λy c e=>?_,I1.free,I1.eG,λp hp=>?_,λb ob e=>?_,by simpa using I.len⟩))
 ·exact(hs.2 b (Nat.ne_of_lt (Nat.lt_of_lt_of_le (Heap.lt_size e) I.ok.above))).trans (I1.base.keep b o e n hb hx)
 ·obtain⟨sl,e1⟩:=I1.base.slot b o e n hb hx
  exact⟨sl,(hs.2 b (Nat.ne_of_lt (Nat.lt_of_lt_of_le (Heap.lt_size e) I.ok.above))).trans e1⟩
 ·obtain⟨o',e1⟩:=I1.base.there b o e hx
  exact⟨o',(hs.2 b (Nat.ne_of_lt (Nat.lt_of_lt_of_le (Heap.lt_size e) I.ok.above))).trans e1⟩
 ·by_cases hj:j=i
  ·subst hj
   rw[List.getElem?_set_self GF] at e2
   cases e2
  ·rw[List.getElem?_set_ne (Ne.symm hj)] at e2
   obtain⟨u',r',q⟩:=hl j y v' e1 (by rw[List.getElem?_set_ne (Ne.symm hj)];exact e2) e3
   refine⟨u',r',?_⟩
   rcases q with⟨k,e⟩ | ⟨k,c,e,z⟩
   ·refine .inl ⟨k,?_⟩
    have:y≠n:=λe=>hj (kD hN e1 (e ▸ hi))
    simp[this,e]
   ·exact .inr ⟨k,c,e,z.sameBut hs (wk y c e)⟩
 ·obtain⟨w',z⟩:=I1.cell y c e
  exact⟨w',z.sameBut hs (wk y c e)⟩
 ·obtain⟨e,n,ne,nf,d⟩:=I1.pin p hp
  exact⟨(hs.2 p.1 ne).trans e,n,ne,nf,d⟩
 ·refine(I1.ba b ob e).aY (λc w' hc q=>(hs.2 c ?_).trans q) (λ_ q=>q) λ_ _ q=>q
  rintro rfl
  rcases hc with rfl | hc
  ·rw[I1.free] at e;cases e
  ·rw[I1.free] at hc;cases hc
end
end
section
structure o7 (k:Nat)(A:Around):Prop where
 dp:A.depth + 3 * k + 5 < recursionLimit
 un:A.units + 16 * k + 200 < cLine
theorem o7.deeper{k:Nat}{A:Around}(r:o7 (k + 1) A)(env:Env):o7 k (A.deeper env):=
 ⟨by have:=r.dp;show A.depth + 1 + 3 * k + 5 < _;omega,by have:=r.un;show A.units + 3 + 16 * k + 200 < _;omega⟩
theorem o7.units{k:Nat}{A:Around}(r:o7 k A):A.units + 64 < cLine:=by have:=r.un;omega
end
end L2
set_option maxHeartbeats 4000000
namespace DD
open PySem L2
inductive Kd (H:Hp):V->Value->Prop
 | bb:Kd H .bb (.type "NoneType")
 | bl (b:Bool):Kd H (.bl b) (.type "bool")
 | int (i:Int):Kd H (.int i) (.type "int")
 | str (x:Str):Kd H (.str x) (.type "str")
 | lst {a xs}:H a=some (.lst xs)->Kd H (.ref a) (.type "list")
 | tup {a xs}:H a=some (.tup xs)->Kd H (.ref a) (.type "tuple")
 | dK {a bD}:H a=some (.dK bD)->Kd H (.ref a) (.type "dict")
theorem Kd.ty{K:W.Frag}{H:Hp}{x:V}{t:Value}(h:Kd H x t):dm K H x t:=by
 cases h with
 | bb=>exact .bb
 | bl b=>exact .bl b
 | int i=>exact .int i
 | str x=>exact .str x
 | lst e=>exact .lst e
 | tup e=>exact .tup e
 | dK e=>exact .dK e
def LN:V->Bool
 | .int _=>true
 | _=>false
theorem Ex {K:W.Frag}{H:Hp}{x:V}{t:Value}(h:Kd H x t):∃b c,W.kitOne K t (.type "int")=some b/\W.kitOne K t (.type "bool")=some c/\LN x=(b && !c):=by
 cases h with
 | bb=>exact⟨false,false,rfl,rfl,rfl⟩
 | bl b=>exact⟨true,true,rfl,rfl,rfl⟩
 | int i=>exact⟨true,false,rfl,rfl,rfl⟩
 | str x=>exact⟨false,false,rfl,rfl,rfl⟩
 | lst e=>exact⟨false,false,rfl,rfl,rfl⟩
 | tup e=>exact⟨false,false,rfl,rfl,rfl⟩
 | dK e=>exact⟨false,false,rfl,rfl,rfl⟩
def inR (lo hi:Int):V->Bool
 | .int i=>decide (lo<=i) && decide (i < hi)
 | _=>false
theorem o8 {H:Hp}{n:Nat}{x:V}{d:DV}(h:HD H n x d):∃t,Kd H x t:=by
 cases h with
 | bb=>exact⟨_,.bb⟩
 | bl b=>exact⟨_,.bl b⟩
 | int i=>exact⟨_,.int i⟩
 | str x=>exact⟨_,.str x⟩
 | tup e=>exact⟨_,.tup e⟩
 | lst e=>exact⟨_,.lst e⟩
 | dict e=>exact⟨_,.dK e⟩
def Ey:DV->Bool
 | .int _=>true
 | _=>false
def eC (lo hi:Int):DV->Bool
 | .int i=>decide (lo<=i) && decide (i < hi)
 | _=>false
theorem Ez {H:Hp}{n:Nat}{x:V}{d:DV}(h:HD H n x d):LN x=Ey d:=by cases h <;> rfl
theorem k7 {H:Hp}{n:Nat}{x:V}{d:DV}(h:HD H n x d)(lo hi:Int):inR lo hi x=eC lo hi d:=by cases h <;> rfl
def k8:List V:=[.str "letter",.str "way",.str "first"]
def AX (w:Str)(m:Int):List DV->Bool
 | [z]=>if w="is" then Ey z else(decide (w="number") && eC 0 m z)
 | _=>false
def uV (m:Int):DV->Bool
 | .tup (.str w::r)=>if qh (.str w) k8=true then decide (r.length=0) else AX w m r
 | _=>false
inductive Val where
 | is (c:Int) | number (i:Int) | nK | way | first
def Val.dv:Val->DV
 | .is c=>.tup [.str "is",.int c]
 | .number i=>.tup [.str "number",.int i]
 | .nK=>.tup [.str "letter"]
 | .way=>.tup [.str "way"]
 | .first=>.tup [.str "first"]
def Val.ok(m:Int):Val->Prop
 | .number i=>0<=i/\i < m
 | _=>True
theorem EA {m:Int}{v:Val}(h:v.ok m):uV m v.dv=true:=by
 cases v with
 | is c=>exact rfl
 | number i=>
  obtain⟨h1,h2⟩:=h
  show(if qh (.str "number") k8=true then decide (([DV.int i]:List DV).length=0) else if ("number":Str)="is" then Ey (.int i) else(decide (("number":Str)="number") && (decide (0<=i) && decide (i < m))))=true
  rw[if_neg (by decide +kernel),if_neg (by decide +kernel)]
  simp[h1,h2]
 | nK=>exact rfl
 | way=>exact rfl
 | first=>exact rfl
abbrev Oo (ns row:List Int):DV:=.tup [.tup (ns.map .int),.tup (row.map .int)]
theorem EB {H:Hp}{n:Nat}{x:V}{d:DV}(h:HT H n x (.tup [d])):∃a u k,x=.ref a/\H a=some (.tup [u])/\HT H k u d:=by
 cases h with
 | @tup k a xs _ e l i=>
  match xs,l,e,i with
  | [u],_,e,i=>exact⟨a,u,k,rfl,e,i 0 u d rfl rfl⟩
theorem yi {H:Hp}{n:Nat}{x:V}{d d':DV}(h:HT H n x (.tup [d,d'])):∃a u v k,x=.ref a/\H a=some (.tup [u,v])/\HT H k u d/\HT H k v d':=by
 cases h with
 | @tup k a xs _ e l i=>
  match xs,l,e,i with
  | [u,v],_,e,i=>exact⟨a,u,v,k,rfl,e,i 0 u d rfl rfl,i 1 v d' rfl rfl⟩
theorem Ca {H:Hp}{n:Nat}{a:Addr}{ns:List Int}(e:H a=some (.tup (ns.map V.int))):HT H (n + 1) (.ref a) (.tup (ns.map .int)):=by
 refine .tup e (by simp) λi u d hu hd=>?_
 rw[List.getElem?_map] at hu hd
 cases hj:ns[i]? with
 | none=>rw[hj] at hu;cases hu
 | some z=>rw[hj] at hu hd;cases hu;cases hd;exact .int z
theorem k9 {H:Hp}{n:Nat}{a:Addr}{u:V}{d:DV}(e:H a=some (.tup [u]))(h:HT H n u d):HT H (n + 1) (.ref a) (.tup [d]):=by
 refine .tup e rfl λi x y hx hy=>?_
 cases i with
 | zero=>simp at hx hy;subst hx hy;exact h
 | succ i=>simp at hx
theorem eQ {H:Hp}{n:Nat}{a:Addr}{u v:V}{d d':DV}(e:H a=some (.tup [u,v]))(h:HT H n u d)(h':HT H n v d'):HT H (n + 1) (.ref a) (.tup [d,d']):=by
 refine .tup e rfl λi x y hx hy=>?_
 match i,hx,hy with
 | 0,hx,hy=>simp at hx hy;subst hx hy;exact h
 | 1,hx,hy=>simp at hx hy;subst hx hy;exact h'
theorem _root_.L2.HT.mono{H:Hp}{n:Nat}{x:V}{d:DV}(h:HT H n x d):∀{m:Nat},n<=m->HT H m x d:=by
 induction h with
 | bb=>intro m _;exact .bb
 | bl b=>intro m _;exact .bl b
 | int i=>intro m _;exact .int i
 | str x=>intro m _;exact .str x
 | tup a b c ih=>
  intro m hm
  obtain⟨k,rfl⟩:∃k,m=k + 1:=⟨m - 1,by omega⟩
  exact .tup a b λi u e p q=>ih i u e p q (by omega)
inductive b8 where
 | set (i:Int) (v:Val) | add (i:Int) (v:Val) | times (i:Int) (v:Val) | put (v:Val) | drop | send (j:Int) (v:Val) | say (v:Val) | skip (v w:Val) (k:Int)
def b8.dv:b8->DV
 | .set i v=>.tup [.str "set",.int i,v.dv]
 | .add i v=>.tup [.str "add",.int i,v.dv]
 | .times i v=>.tup [.str "times",.int i,v.dv]
 | .put v=>.tup [.str "put",v.dv]
 | .drop=>.tup [.str "drop"]
 | .send j v=>.tup [.str "send",.int j,v.dv]
 | .say v=>.tup [.str "say",v.dv]
 | .skip v w k=>.tup [.str "skip",v.dv,w.dv,.int k]
def b8.ok(m:Int):b8->Prop
 | .set i v=>0<=i/\i < m/\v.ok m
 | .add i v=>0<=i/\i < m/\v.ok m
 | .times i v=>0<=i/\i < m/\v.ok m
 | .put v=>v.ok m
 | .drop=>True
 | .send j v=>0<=j/\v.ok m
 | .say v=>v.ok m
 | .skip v w k=>v.ok m/\w.ok m/\1<=k/\k < 25
def b8.word:b8->Str
 | .set _ _=>"set"
 | .add _ _=>"add"
 | .times _ _=>"times"
 | .put _=>"put"
 | .drop=>"drop"
 | .send _ _=>"send"
 | .say _=>"say"
 | .skip _ _ _=>"skip"
def b8.lU:b8->List Str
 | .set _ _=>["number","value"]
 | .add _ _=>["number","value"]
 | .times _ _=>["number","value"]
 | .put _=>["value"]
 | .drop=>[]
 | .send _ _=>["way","value"]
 | .say _=>["value"]
 | .skip _ _ _=>["value","value","many"]
def eK:Stmt->List Stmt
 | .ClassDef _ _ _ body _ _ _ _ _ _ _=>body
 | _=>[]
theorem fB {H:Hp}{n:Nat}{x:V}{d d' uW:DV}(h:HT H n x (.tup [d,d',uW])):∃a u v w k,x=.ref a/\H a=some (.tup [u,v,w])/\HT H k u d/\HT H k v d'/\HT H k w uW:=by
 cases h with
 | @tup k a xs _ e l i=>
  match xs,l,e,i with
  | [u,v,w],_,e,i=>exact⟨a,u,v,w,k,rfl,e,i 0 u d rfl rfl,i 1 v d' rfl rfl,i 2 w uW rfl rfl⟩
theorem AY {H:Hp}{n:Nat}{x:V}{d d' uW d3:DV}(h:HT H n x (.tup [d,d',uW,d3])):∃a u v w z k,x=.ref a/\H a=some (.tup [u,v,w,z])/\HT H k u d/\HT H k v d'/\HT H k w uW/\HT H k z d3:=by
 cases h with
 | @tup k a xs _ e l i=>
  match xs,l,e,i with
  | [u,v,w,z],_,e,i=>exact⟨a,u,v,w,z,k,rfl,e,i 0 u d rfl rfl,i 1 v d' rfl rfl,i 2 w uW rfl rfl,i 3 z d3 rfl rfl⟩
theorem eR {H:Hp}{n:Nat}{a:Addr}{u v w:V}{d d' uW:DV}(e:H a=some (.tup [u,v,w]))(h:HT H n u d)(h':HT H n v d')(LO:HT H n w uW):HT H (n + 1) (.ref a) (.tup [d,d',uW]):=by
 refine .tup e rfl λi x y hx hy=>?_
 match i,hx,hy with
 | 0,hx,hy=>simp at hx hy;subst hx hy;exact h
 | 1,hx,hy=>simp at hx hy;subst hx hy;exact h'
 | 2,hx,hy=>simp at hx hy;subst hx hy;exact LO
end DD
set_option maxHeartbeats 400000
namespace L2
open PySem PySem.Spec PyProof.Rows
def HQ:R2:=λx y H Q=>match x,y with
 | .ref a,.int n=>∃v,H a=some (.lst [v])/\-1000<=n/\n<=1000/\∀p,H p=none->Q (.ref p) (upd H p (.lst (List.replicate n.toNat v)))
 | _,_=>False
theorem yj {α:Type}(n:Nat)(v:α):(List.replicate n [v]).flatten=List.replicate n v:=by
 induction n with
 | zero=>rfl
 | succ n ih=>rw[List.replicate_succ,List.flatten_cons,ih];rfl
theorem o9 {v:V}{u:Value}(r:RelV v u):∀n:Nat,Vals (List.replicate n v) (List.replicate n u)
 | 0=>.nil
 | n + 1=>.cons r (o9 r n)
section
variable {X:Cx}
theorem iO:dS X (binaryOp .Mult) HQ:=by
 intro pins s σ H x y v u Q I rx ry h
 cases x <;> cases y <;> first
  | exact(show False from h).elim
  | skip
 rename_i a n
 obtain⟨w,hw,h1,h2,q⟩:=h
 obtain rfl:v=Value.ref a:=rx
 obtain⟨tk,rfl⟩:∃tk,u=Value.int n tk:=ry
 obtain⟨_,aE,k,rv,ho⟩:=I.ba a _ hw
 obtain⟨iw,rfl,uy⟩:=rv.one
 have QK:([iw]:List Value).toArray.size * n.toNat<=1000:=by simp;omega
 refine wpAny_binaryOp_repeat_ref (T:="list") (U:="int") (by decide) ⟨_,ho,rfl⟩ (λs'=>typeIs_int s' n tk) noFill_list_mul F.fills_int_mul F.slot_int_rmul repeat_list F.slot_int_index.lookup
  (call_meets F.slot_int_rmul (typeIs_int s n tk) F.entry_int_rmul (F.args_int_rmul_2 _ _) (lm_int_rmul_list_any n tk a ([iw]:List Value).toArray k none #[])
   ⟨ho,rfl,⟨_,ho,rfl⟩,call_meets F.slot_list_mul ⟨_,ho,rfl⟩ F.entry_list_mul (F.args_list_mul_2 _ _)
    (lm_list_mul_any a ([iw]:List Value).toArray k none #[] n tk (by simp[Builtin.List.listFitsIndex];omega) (by omega) (by simp[Builtin.List.listTooLong,sizeLine];omega))
    ⟨ho,?_⟩⟩)
 rw[listMul_foldl_if,yj]
 have fr:H s.heap.objs.size=none:=I.ba.fresh (Nat.le_refl _)
 refine⟨V.ref s.heap.objs.size,_,I.laid (o:=.lst (List.replicate n.toNat w)) (a:=s.heap.objs.size) (λb o e=>Heap.get?_push_of_some _ e) (Nat.le_refl _) (show _/\_ from⟨?_,_,0,o9 uy _,Heap.get?_push_size _ rfl⟩),rfl,q _ fr⟩
 rw[List.length_replicate,sizeLine_eq]
 omega
end
def Cb (K:W.Frag):List V->Hp->VK->Prop:=λxs H Q=>∃(a C B:Addr) (d:Option Addr) (p:Addr) (cs:List Addr) (b fl:Bool),xs=[.ref a,.ref p]/\H a=some (XO a C d fl)/\(∀dx,d=some dx->∃fs,H dx=some (XD dx fs))/\dY K C B/\H p=some (.tup (cs.map V.ref))/\W.kitAny K (.ref C) (cs.map Value.ref)=some b/\Q (.bl b) H
theorem mI:∀{cs:List Addr} {us:List Value},Vals (cs.map V.ref) us->us=cs.map Value.ref
 | [],_,h=>by cases h;rfl
 | c::cs,_,h=>by
  cases h with
  | cons a b=>
   rw[mI b]
   cases(show _=Value.ref c from a)
   rfl
theorem uX {X:Cx}:cz X (.builtin "isinstance") (Cb X.K):=by
 intro pins s σ H vs us Q I r h
 obtain⟨a,C,B,d,p,cs,b,fl,rfl,ea,ed,cl,ep,k,q⟩:=h
 obtain⟨u,Es,rfl,ru,r'⟩:∃u Es,us=u::Es/\RelV (.ref a) u/\Vals [.ref p] Es:=by cases r with | cons a b=>exact⟨_,_,rfl,a,b⟩
 obtain⟨u2,rfl,FU⟩:=r'.one
 cases(show u=Value.ref a from ru)
 cases(show u2=Value.ref p from FU)
 obtain⟨_,aE,rv,ht⟩:=I.ba p _ ep
 rw[mI rv] at ht
 obtain⟨⟨cls,dd,data,sl⟩,ho,hc,n,hd⟩:=id ht
 simp only at hc hd
 subst hc hd
 refine W.kia_tup (oS cl) I.dP ?_ ho k (λz=>nomatch z) λtk=>⟨.bl b,H,I.tok _,rfl,q⟩
 obtain⟨vs,sl,qq⟩:=xM I ea
 cases d with
 | none=>exact⟨_,none,qq,rfl,rfl,True.intro⟩
 | some dx=>
  obtain⟨fs,z⟩:=ed dx rfl
  obtain⟨_,⟨o,_,_,e2,_⟩,_⟩:=xK (I.ba dx _ z)
  exact⟨_,some o,qq,rfl,rfl,e2⟩
end L2
namespace L2
open PySem
theorem gV {X:Cx}{K:W.Frag}(hK:X.K=K):cz X (.builtin "isinstance") (Cb K):=hK ▸ uX
theorem AZ:bootBuiltins "ValueError"=some (.type "ValueError"):=by kernel_rfl
structure vR (K:W.Frag)(mg:Str->Option Value)(B:Addr)(c:Nat->Addr):Prop where
 iP:mg "BadMachine"=some (.ref (c 0))
 mJ:mg "BadDeed"=some (.ref (c 1))
 pd:mg "NoText"=some (.ref (c 2))
 pf:mg "BadNet"=some (.ref (c 3))
 lg:mg "NoLetter"=some (.ref (c 4))
 lh:mg "NotFirst"=some (.ref (c 5))
 mK:mg "NoCount"=some (.ref (c 6))
 mL:mg "NoEvent"=some (.ref (c 7))
 lj:mg "Orphaned"=some (.ref (c 8))
 mM:mg "TooMany"=some (.ref (c 9))
 ph:mg "NoLine"=some (.ref (c 10))
 gh:mg "NoMachine"=some (.ref (c 11))
 pj:mg "NotRow"=some (.ref (c 12))
 yk:mg "Busy"=some (.ref (c 13))
 iQ:mg "NotReached"=some (.ref (c 14))
 pk:mg "NoMark"=some (.ref (c 15))
 sV:mg "NoRow"=some (.ref (c 16))
 pq:mg "NoName"=some (.ref (c 17))
 pw:mg "NoDeed"=some (.ref (c 18))
 gW:mg "NetError"=some (.ref B)
 nL:iL K mg "BadMachine" (c 0) B
 yl:iL K mg "NoText" (c 2) B
 iR:iL K mg "BadNet" (c 3) B
 uY:iL K mg "NoCount" (c 6) B
 uZ:iL K mg "NoEvent" (c 7) B
 va:iL K mg "TooMany" (c 9) B
 jY:iL K mg "NoMachine" (c 11) B
 EC:iL K mg "Busy" (c 13) B
 ym:iL K mg "NoMark" (c 15) B
 A0:iL K mg "NoRow" (c 16) B
 yn:iL K mg "NoName" (c 17) B
 yo:iL K mg "NoDeed" (c 18) B
 cl:∀i,i < 19->dY K (c i) B
 inj:∀i j,i < 19->j < 19->c i=c j->i=j
 nB:∀i,i < 19->c i≠B
 FV:(W.clsIn K B).isSome=true
 tyB:W.typeIn K (.ref B)=some (.type "type")
 xb:XBase K B
 c8:bY K (c 1) "at"
 cK:bY K (c 4) "at"
 cL:bY K (c 5) "at"
 bS:bY K (c 8) "letter"
 cE:bY K (c 10) "falls"
 ck:bY K (c 10) "letter"
 c9:bY K (c 12) "way"
 bA:bY K (c 14) "machine"
section
variable {K:W.Frag}{mg:Str->Option Value}{B:Addr}{c:Nat->Addr}
theorem yp (T:vR K mg B c){i j:Nat}(hi:i < 19)(hj:j < 19):W.kitOne K (.ref (c i)) (.ref (c j))=some (decide (i=j)):=by
 unfold W.kitOne
 by_cases e:i=j
 ·subst e
  rw[if_pos (by simp)]
  simp
 ·have ne:c i≠c j:=λz=>e (T.inj i j hi hj z)
  have ne2:c j≠B:=T.nB j hj
  rw[if_neg (by simpa using ne)]
  obtain⟨cd,e1,e2,_⟩:=(T.cl i hi).cd
  obtain⟨nm,q,N,bs,sn,sub,ab,col,dd,k0,k1,k2,k3,k5,ho⟩:=(T.cl j hj).ob
  have h1:W.typeIn K (.ref (c j))=some (.type "type"):=by show Option.map (·.cls) (K.lookup (c j))=_;rw[ho];rfl
  have h2:(W.clsIn K (c j)).isSome=true:=by unfold W.clsIn;rw[ho];rfl
  have hm:=(T.cl i hi).mro (.ref (c j))
  show(if ((W.clsIn K (c j)).isSome && W.typeIn K (.ref (c j)) == some (.type "type"))=true then W.subIn K (.ref (c i)) (.ref (c j)) else none)=_
  rw[h1,h2]
  simp only[beq_self_eq_true,Bool.and_self,if_true]
  show W.mroIn K (c i) (.ref (c j))=_
  rw[hm]
  have z:((Value.ref (c i)::.ref B::ka).contains (.ref (c j)))=false:=by
   simp[ka,List.contains_cons,ne,ne2,Ne.symm ne]
  rw[z]
  simp[e]
theorem ED (T:vR K mg B c){i:Nat}(hi:i < 19):W.kitOne K (.ref (c i)) (.ref B)=some true:=by
 unfold W.kitOne
 rw[if_neg (by simpa using T.nB i hi)]
 show(if ((W.clsIn K B).isSome && W.typeIn K (.ref B) == some (.type "type"))=true then W.subIn K (.ref (c i)) (.ref B) else none)=_
 rw[T.FV,T.tyB]
 simp only[beq_self_eq_true,Bool.and_self,if_true]
 show W.mroIn K (c i) (.ref B)=_
 rw[(T.cl i hi).mro]
 simp[List.contains_cons]
theorem EF (T:vR K mg B c){i:Nat}(hi:i < 19):W.kitOne K (.ref (c i)) (.type "ValueError")=some true:=by
 unfold W.kitOne
 rw[if_neg (by intro z;cases z)]
 show(if W.kitMeta "ValueError"=true then W.subIn K (.ref (c i)) (.type "ValueError") else none)=_
 rw[if_pos (by decide +kernel)]
 show W.mroIn K (c i) (.type "ValueError")=_
 exact((T.cl i hi).mro _).trans rfl
theorem kz (T:vR K mg B c){i:Nat}(hi:i < 19):∀js:List Nat,(∀j ∈ js,j < 19)->W.kitAny K (.ref (c i)) ((js.map c).map Value.ref)=some (decide (i ∈ js))
 | [],_=>by simp[W.kitAny]
 | j::js,h=>by
  have ih:=kz T hi js λk hk=>h k (List.mem_cons_of_mem _ hk)
  have e:=yp T hi (h j (by simp))
  show(match W.kitOne K (.ref (c i)) (.ref (c j)) with | some true=>some true | some false=>W.kitAny K (.ref (c i)) ((js.map c).map Value.ref) | none=>none)=_
  rw[e]
  by_cases z:i=j
  ·subst z;simp
  ·rw[decide_eq_false z]
   show W.kitAny K (.ref (c i)) ((js.map c).map Value.ref)=_
   rw[ih]
   simp[z]
end
end L2
namespace L2
open PySem PySem.Spec PyProof.Rows Builtin.Str
end L2
namespace L2
open PySem PySem.Spec PyProof.Rows Builtin.Str
end L2
set_option maxHeartbeats 4000000
namespace L2
open PySem
section
variable {X:Cx}
def LP (K:W.Frag):List V->Hp->VK->Prop:=λxs H Q=>∃(x:V) (C:Addr) (t:Value) (b:Bool),xs=[x,.ref C]/\dm K H x t/\W.kitOne K t (.ref C)=some b/\Q (.bl b) H
theorem yq {K:W.Frag}(hK:X.K=K):cz X (.builtin "isinstance") (LP K):=by
 subst hK
 intro pins s σ H xs us Q I r h
 obtain⟨x,C,t,b,rfl,ty,e,q⟩:=h
 obtain⟨u,w',rfl,rx,rn⟩:=vals2 r
 cases rn
 exact mj I rx ty e λtk=>⟨.bl b,H,I.tok _,rfl,q⟩
end
end L2
namespace L2
open PySem PySem.Spec PyProof.Rows
def FW (K:W.Frag)(H:Hp):Nat->V->V->Bool->Prop
 | 0,_,_,_=>False
 | n + 1,x,y,b=>(∃a,x=.ref a/\y=.ref a/\b=true)\/(dk x=true/\dk y=true/\b=qK x y)
  \/(∃a xs,dk x=true/\y=.ref a/\(bM K H a xs\/aX K H a xs)/\b=false)\/(∃a xs,dk y=true/\x=.ref a/\(bM K H a xs\/aX K H a xs)/\b=false)
  \/(∃a c xs ys,x=.ref a/\y=.ref c/\((bM K H a xs/\aX K H c ys)\/(aX K H a xs/\bM K H c ys))/\b=false)
  \/∃a c xs ys,∃e:Nat->Bool,x=.ref a/\y=.ref c/\a≠c/\((bM K H a xs/\bM K H c ys)\/(aX K H a xs/\aX K H c ys))
   /\(∀(i:Nat) u v,xs[i]?=some u->ys[i]?=some v->FW K H n u v (e i))/\b=((List.range (min xs.length ys.length)).all e && (xs.length == ys.length))
def HR (K:W.Frag)(H:Hp)(n:Nat)(a c:Addr)(b:Bool):Prop:=∃xs ys,∃e:Nat->Bool,((bM K H a xs/\bM K H c ys)\/(aX K H a xs/\aX K H c ys))
      /\(∀(i:Nat) u v,xs[i]?=some u->ys[i]?=some v->FW K H n u v (e i))/\b=((List.range (min xs.length ys.length)).all e && (xs.length == ys.length))
section
variable {X:Cx}
theorem rk {pins:List (Addr×Obj)}{σ:St}{H:Hp}{s:Shared}(I:Inv X pins σ H s){n:Nat}(ih:∀(A:Around) {x y:V} {u v:Value} {b:Bool},FW X.K H n x y b->A.units + n < cLine->RelV x u->RelV y v->SeqAt.EqAt A s u v b)
  {A:Around} {a c:Addr} {b:Bool} (h:HR X.K H n a c b) (hu:A.units + n + 1 < cLine):SeqAt.RcAt A s (.ref a) (.ref c) b/\SeqAt.RcNeAt A s (.ref a) (.ref c) (!b):=by
 obtain⟨xs,ys,e,hq,hi,rfl⟩:=h
 rcases hq with⟨h1,h2⟩ | ⟨h1,h2⟩
 ·obtain⟨aE,r1,p1,z1⟩:=I.tuple h1
  obtain⟨bh,r2,p2,z2⟩:=I.tuple h2
  have l1:=r1.length
  have l2:=r2.length
  have items:∀j (h1:j < aE.toArray.size) (h2:j < bh.toArray.size),SeqAt.EqAt A.in1 s aE.toArray[j] bh.toArray[j] (e j):=λj uF uG=>by
   have j8:j < aE.length:=by simpa using uF
   have j9:j < bh.length:=by simpa using uG
   obtain⟨u',e1,ru⟩:=r1.get (i:=j) (x:=xs[j]'(by omega)) (by simp)
   obtain⟨v',e2,rv⟩:=r2.get (i:=j) (x:=ys[j]'(by omega)) (by simp)
   have f1:aE.toArray[j]=u':=by
    have:=dI j8
    rw[this] at e1
    simpa using Option.some.inj e1
   have f2:bh.toArray[j]=v':=by
    have:=dI j9
    rw[this] at e2
    simpa using Option.some.inj e2
   rw[f1,f2]
   exact ih A.in1 (hi j _ _ (by simp) (by simp)) (by rw[in1_units];omega) ru rv
  have k1:=SeqAt.RcAt.tuples (A:=A) (show s.heap.IsTuple a aE.toArray from p1) (show s.heap.IsTuple c bh.toArray from p2) (by omega) items
  have k2:=SeqAt.RcNeAt.tuples (A:=A) (show s.heap.IsTuple a aE.toArray from p1) (show s.heap.IsTuple c bh.toArray from p2) (by omega) items
  have z1:aE.toArray.size=xs.length:=by simp;omega
  have z2:bh.toArray.size=ys.length:=by simp;omega
  rw[z1,z2] at k1 k2
  exact⟨k1,k2⟩
 ·obtain⟨aE,r1,p1,z1⟩:=I.list h1
  obtain⟨bh,r2,p2,z2⟩:=I.list h2
  have l1:=r1.length
  have l2:=r2.length
  by_cases qz:xs.length=ys.length
  ·have sz:aE.toArray.size=bh.toArray.size:=by simp;omega
   have items:∀j (h1:j < aE.toArray.size) (h2:j < bh.toArray.size),SeqAt.EqAt A.in1 s aE.toArray[j] bh.toArray[j] (e j):=λj uF uG=>by
    have j8:j < aE.length:=by simpa using uF
    have j9:j < bh.length:=by simpa using uG
    obtain⟨u',e1,ru⟩:=r1.get (i:=j) (x:=xs[j]'(by omega)) (by simp)
    obtain⟨v',e2,rv⟩:=r2.get (i:=j) (x:=ys[j]'(by omega)) (by simp)
    have f1:aE.toArray[j]=u':=by
     have:=dI j8
     rw[this] at e1
     simpa using Option.some.inj e1
    have f2:bh.toArray[j]=v':=by
     have:=dI j9
     rw[this] at e2
     simpa using Option.some.inj e2
    rw[f1,f2]
    exact ih A.in1 (hi j _ _ (by simp) (by simp)) (by rw[in1_units];omega) ru rv
   have k1:=SeqAt.RcAt.lists (A:=A) p1.isList p2.isList sz (by omega) items
   have k2:=SeqAt.RcNeAt.lists (A:=A) p1.isList p2.isList sz (by omega) items
   have z1:aE.toArray.size=xs.length:=by simp;omega
   have e3:((List.range (min xs.length ys.length)).all e && (xs.length == ys.length))=(List.range xs.length).all e:=by rw[qz];simp
   rw[z1] at k1 k2
   rw[e3]
   exact⟨k1,k2⟩
  ·have hb:(aE.toArray.size != bh.toArray.size)=true:=by simp;omega
   have e3:((List.range (min xs.length ys.length)).all e && (xs.length == ys.length))=false:=by simp[qz]
   rw[e3]
   exact⟨SeqAt.RcAt.lists_lengths p1.isList p2.isList hb (by omega),SeqAt.RcNeAt.lists_lengths p1.isList p2.isList hb (by omega)⟩
theorem rl {pins:List (Addr×Obj)}{σ:St}{H:Hp}{s:Shared}(I:Inv X pins σ H s):∀(n:Nat) (A:Around) {x y:V} {u v:Value} {b:Bool},FW X.K H n x y b->A.units + n < cLine->RelV x u->RelV y v->SeqAt.EqAt A s u v b
 | 0,_,_,_,_,_,_,h,_,_,_=>h.elim
 | n + 1,A,x,y,u,v,b,h,hu,rx,ry=>by
  rcases h with⟨a,rfl,rfl,rfl⟩ | ⟨f,g,rfl⟩ | ⟨a,xs,f,rfl,hq,rfl⟩ | ⟨a,xs,f,rfl,hq,rfl⟩ | ⟨a,c,xs,ys,rfl,rfl,hq,rfl⟩ | ⟨a,c,xs,ys,e,rfl,rfl,kM,hq,hi,hb⟩
  ·cases rx;cases ry;exact SeqAt.EqAt.same _
  ·exact qL rx ry f g
  ·cases ry
   rcases hq with hq | hq
   ·obtain⟨aE,r1,p1,z1⟩:=I.tuple hq
    cases x <;> first | exact absurd (show false=true from f) Bool.false_ne_true | skip
    ·cases rx;exact SeqAt.EqAt.none_tuple (show s.heap.IsTuple a aE.toArray from p1) (by omega)
    ·cases rx;exact SeqAt.EqAt.bool_tuple _ (show s.heap.IsTuple a aE.toArray from p1) (by omega)
    ·obtain⟨t,rfl⟩:=rx;exact SeqAt.EqAt.int_tuple _ _ (show s.heap.IsTuple a aE.toArray from p1) (by omega)
    ·obtain⟨t,rfl⟩:=rx;exact SeqAt.EqAt.str_tuple _ _ (show s.heap.IsTuple a aE.toArray from p1) (by omega)
   ·obtain⟨aE,r1,p1,z1⟩:=I.list hq
    cases x <;> first | exact absurd (show false=true from f) Bool.false_ne_true | skip
    ·cases rx;exact SeqAt.EqAt.none_list p1.isList (by omega)
    ·cases rx;exact SeqAt.EqAt.bool_list _ p1.isList (by omega)
    ·obtain⟨t,rfl⟩:=rx;exact SeqAt.EqAt.int_list _ _ p1.isList (by omega)
    ·obtain⟨t,rfl⟩:=rx;exact SeqAt.EqAt.str_list _ _ p1.isList (by omega)
  ·cases rx
   rcases hq with hq | hq
   ·obtain⟨aE,r1,p1,z1⟩:=I.tuple hq
    cases y <;> first | exact absurd (show false=true from f) Bool.false_ne_true | skip
    ·cases ry;exact SeqAt.EqAt.tuple_none (show s.heap.IsTuple a aE.toArray from p1) (by omega)
    ·cases ry;exact SeqAt.EqAt.tuple_bool _ (show s.heap.IsTuple a aE.toArray from p1) (by omega)
    ·obtain⟨t,rfl⟩:=ry;exact SeqAt.EqAt.tuple_int _ _ (show s.heap.IsTuple a aE.toArray from p1) (by omega)
    ·obtain⟨t,rfl⟩:=ry;exact SeqAt.EqAt.tuple_str _ _ (show s.heap.IsTuple a aE.toArray from p1) (by omega)
   ·obtain⟨aE,r1,p1,z1⟩:=I.list hq
    cases y <;> first | exact absurd (show false=true from f) Bool.false_ne_true | skip
    ·cases ry;exact SeqAt.EqAt.list_none p1.isList (by omega)
    ·cases ry;exact SeqAt.EqAt.list_bool _ p1.isList (by omega)
    ·obtain⟨t,rfl⟩:=ry;exact SeqAt.EqAt.list_int _ _ p1.isList (by omega)
    ·obtain⟨t,rfl⟩:=ry;exact SeqAt.EqAt.list_str _ _ p1.isList (by omega)
  ·cases rx
   cases ry
   rcases hq with⟨h1,h2⟩ | ⟨h1,h2⟩
   ·obtain⟨aE,r1,p1,z1⟩:=I.tuple h1
    obtain⟨bh,r2,p2,z2⟩:=I.list h2
    exact SeqAt.EqAt.tuple_list (show s.heap.IsTuple a aE.toArray from p1) p2.isList (by omega)
   ·obtain⟨aE,r1,p1,z1⟩:=I.list h1
    obtain⟨bh,r2,p2,z2⟩:=I.tuple h2
    exact SeqAt.EqAt.list_tuple p1.isList (show s.heap.IsTuple c bh.toArray from p2) (by omega)
  ·cases rx
   cases ry
   exact SeqAt.EqAt.of_refs kM (rk I (λA {x y u v b}=>rl I n A) ⟨xs,ys,e,hq,hi,hb⟩ (by omega)).1
def EG (K:W.Frag):R2:=λx y H Q=>∃a c b,x=.ref a/\y=.ref c/\HR K H 19 a c b/\Q (.bl b) H
def EH (K:W.Frag):R2:=λx y H Q=>∃a c b,x=.ref a/\y=.ref c/\HR K H 19 a c b/\Q (.bl (!b)) H
theorem nM (hu:X.A.units + 64 < cLine):dS X (compareOp .Eq) (EG X.K):=by
 intro pins s σ H x y v u Q I rx ry h
 obtain⟨a,c,b,rfl,rfl,h1,q⟩:=h
 cases rx
 cases ry
 exact(rk I (λA {x y u v b}=>rl I 19 A) (A:=X.A) h1 (by omega)).1 X.prog X.w X.xe _ ⟨.bl b,H,I,rfl,q⟩
theorem kA (hu:X.A.units + 64 < cLine):dS X (compareOp .NotEq) (EH X.K):=by
 intro pins s σ H x y v u Q I rx ry h
 obtain⟨a,c,b,rfl,rfl,h1,q⟩:=h
 cases rx
 cases ry
 exact(rk I (λA {x y u v b}=>rl I 19 A) (A:=X.A) h1 (by omega)).2 X.prog X.w X.xe _ ⟨.bl (!b),H,I,rfl,q⟩
end
end L2
namespace L2
open PySem
variable {H:Hp}{σ:St}
theorem aC {t u:TS}{D:Ends}(h:∀N:St->Hp->Prop,N=u D->t {D with nx:=N} σ H):wy t u D σ H:=h _ rfl
theorem bF {c:TT}{t u:TS}{D:Ends}(h:∀T U:St->Hp->Prop,T=t D->U=u D->c σ H λb H1=>if b=true then T σ H1 else U σ H1):Af c t u D σ H:=h _ _ rfl rfl
theorem dZ {i:Nat}{v:V}{Q:St->Hp->Prop}(h:Q (σ.set i (some v)) H):eH i v σ H Q:=h
theorem az {N M:St->Hp->Prop}(e:N=M)(h:M σ H):N σ H:=e ▸ h
end L2
namespace DD
open PySem L2
variable {x:Addr}{Z:Addr->Prop}{H H' H1:Hp}{ds:List DV}{vs:List V}{n:Nat}
structure MD where
 M:Int
 ns:List Int
 row:List Int
 ds:List b8
structure Good (M:Int)(ns row:List Int)(ds:List b8):Prop where
 m2:2<=M
 QL:M<=1000000000000
 l1:1<=ns.length
 l4:ns.length<=4
 QM:row.length<=12
 bn:∀z ∈ ns,0<=z/\z < M
 br:∀z ∈ row,0<=z/\z < M
 QN:ds.length<=24
 ok:∀d ∈ ds,d.ok ns.length
abbrev MD.good(d:MD):Prop:=Good d.M d.ns d.row d.ds
instance:Inhabited MD:=⟨⟨0,[],[],[]⟩⟩
noncomputable def gK (Z:Addr->Prop) (H:Hp):Hp:=λx=> @ite _ (Z x) (Classical.propDecidable _) (some (.own 0)) (H x)
theorem yr (h:¬Z x):gK Z H x=H x:=by unfold gK;rw[if_neg h]
theorem EI (h:Z x):gK Z H x=some (.own 0):=by unfold gK;rw[if_pos h]
theorem gi {o:HO}(h:gK Z H x=some o)(ho:∀k,o≠.own k):¬Z x/\H x=some o:=by
 by_cases hz:Z x
 ·rw[EI hz] at h;cases h;exact absurd rfl (ho 0)
 ·rw[yr hz] at h;exact⟨hz,h⟩
def Cv (H H':Hp):Prop:=∀b o,H b=some o->(∀k,o≠.own k)->H' b=some o
theorem Cv.refl(H:Hp):Cv H H:=λ_ _ e _=>e
theorem Cv.trans{H2:Hp}(a:Cv H H1)(b:Cv H1 H2):Cv H H2:=λc o e n=>b c o (a c o e n) n
theorem _root_.L2.ak.cv(s:ak H H'):Cv H H':=λb o e _=>s b o e
def soft:HO->Prop
 | .lst _=>True
 | .dK _=>True
 | _=>False
def Fr (Z:Addr->Prop)(H H':Hp):Prop:=∀b o,H b=some o->(Z b->¬soft o)->H' b=some o
theorem Fr.refl:Fr Z H H:=λ_ _ e _=>e
theorem Fr.trans{H2:Hp}(a:Fr Z H H1)(b:Fr Z H1 H2):Fr Z H H2:=λc o e n=>b c o (a c o e n) n
theorem _root_.L2.ak.fr(s:ak H H'):Fr Z H H':=λb o e _=>s b o e
theorem Fr.at (a:Fr Z H H'){b:Addr}{o:HO}(e:H b=some o)(h:¬Z b):H' b=some o:=a b o e λz=>absurd z h
theorem Fr.upd(a:Fr Z H H1){x:Addr}{o u:HO}(h:Z x)(hx:H1 x=some u)(hu:soft u):Fr Z H (upd H1 x o):=λc v e n=>by
 by_cases z:c=x
 ·subst z
  have e1:=a c v e n
  rw[hx] at e1
  cases e1
  exact absurd hu (n h)
 ·rw[ay z];exact a c v e n
theorem Fr.new(a:Fr Z H H1){x:Addr}{o:HO}(h:H1 x=none):Fr Z H (L2.upd H1 x o):=a.trans (ak.new o h).fr
theorem Fr.aZ(h:Fr Z H H'):bX H H':=λb xs e=>h b _ e λ_=>id
theorem Fr.gK(h:Fr Z H H'):Cv (gK Z H) (gK Z H'):=λb o e n=>by
 obtain⟨h1,h2⟩:=gi e n
 rw[yr h1]
 exact h.at h2 h1
theorem Fr.free{Z:Addr->Prop}{H H':Hp}(h:Fr Z H H')(hz:∀b,Z b->H' b≠none){b:Addr}(e:H' b=none):H b=none:=by
 cases e1:H b with
 | none=>rfl
 | some o=>
  by_cases z:Z b
  ·exact absurd e (hz b z)
  ·rw[h.at e1 z] at e;cases e
theorem EJ:Cv (gK Z H) H:=λb o e n=>(gi e n).2
theorem Cv.aZ(h:Cv H H'):bX H H':=λb xs e=>h b _ e (λk z=>by cases z)
theorem _root_.L2.HD.cv{H H':Hp}(s:Cv H H'){n:Nat}{x:V}{d:DV}(h:HD H n x d):HD H' n x d:=by
 induction h with
 | bb=>exact .bb
 | bl b=>exact .bl b
 | int i=>exact .int i
 | str x=>exact .str x
 | tup e l i ih=>exact .tup (s _ _ e (λk z=>by cases z)) l ih
 | lst e l i ih=>exact .lst (s _ _ e (λk z=>by cases z)) l ih
 | dict e=>exact .dict (s _ _ e (λk z=>by cases z))
def d5 (H:Hp)(n:Nat)(vs:List V)(ds:List DV):Prop:=vs.length=ds.length/\∀(i:Nat) v d,vs[i]?=some v->ds[i]?=some d->HD H n v d
theorem d5.nil:d5 H n [] []:=⟨rfl,λi v d a=>by simp at a⟩
theorem d5.app{us:List V}{es:List DV}(h:d5 H n vs ds)(g:d5 H n us es):d5 H n (vs++us) (ds++es):=by
 refine⟨by simp[h.1,g.1],λi v d a b=>?_⟩
 by_cases hi:i < vs.length
 ·rw[List.getElem?_append_left hi] at a
  rw[List.getElem?_append_left (by rw[<-h.1];exact hi)] at b
  exact h.2 i _ _ a b
 ·rw[List.getElem?_append_right (by omega)] at a
  rw[List.getElem?_append_right (by rw[<-h.1];omega),<-h.1] at b
  exact g.2 _ _ _ a b
theorem d5.one{H:Hp}{n:Nat}{v:V}{d:DV}(h:HD H n v d):d5 H n [v] [d]:=by
 refine⟨rfl,λi u e a b=>?_⟩
 cases i with
 | zero=>simp at a b;subst a b;exact h
 | succ i=>simp at a
theorem d5.set{v:V}{d:DV}(h:d5 H n vs ds)(g:HD H n v d)(k:Nat):d5 H n (vs.set k v) (ds.set k d):=by
 refine⟨by simp[h.1],λi u e a b=>?_⟩
 rw[List.getElem?_set] at a b
 by_cases hk:k=i
 ·rw[if_pos hk] at a b
  split at a
  ·rw[if_pos (by rw[<-h.1];assumption)] at b;cases a;cases b;exact g
  ·cases a
 ·rw[if_neg hk] at a b;exact h.2 i u e a b
theorem d5.get(h:d5 H n vs ds){i:Nat}{d:DV}(e:ds[i]?=some d):∃v,vs[i]?=some v/\HD H n v d:=by
 have h1:i < ds.length:=(List.getElem?_eq_some_iff.mp e).1
 have h2:i < vs.length:=by rw[h.1];exact h1
 exact⟨vs[i],by simp,h.2 i _ _ (by simp) e⟩
inductive CO where
 | l (ds:List DV) | d (g:Int->Option DV) (n:Nat)
section
variable {F:Addr->Prop}{H H':Hp}{n:Nat->Nat}{ad:Nat->Nat->Addr}{ct T7:Nat->Nat->CO}
end
end DD
namespace DD
open PySem L2
end DD
namespace L2
open PySem PyProof.Rows
section
variable {X:Cx}
def isTrue:Value->Bool
 | .bool b=>b
 | _=>false
end
end L2
set_option maxHeartbeats 400000
namespace L2
open PySem PySem.Spec PyProof.Rows
section
variable {P:Program}{w:World}{K:W.Frag}{mg:Str->Option Value}{base:Heap}
theorem kS.yh{C:Addr}{m qual:Str}{st:Stmt}{N ps:List Str}{k:Nat}{sp:Sp}(T:kS K C m qual st ps)(S:aI N ps (av st))(len:∀vs H Q E,sp vs H Q E->vs.length=ps.length)
  (cX:∀(f:Addr) (cy:Value) (A:Around) (outer:List Env) (s:Shared) (H:Hp) (vs:List V) (Q:VK) (E:XK),bR k (A.deeper (envOfC qual (av st) s.heap.objs.size f cy))->sp vs H Q E->
   ∃t,kr (fz (kg P w) P w K mg base N qual (av st) f cy A outer s H E) (bq st) t/\t {nx:=λ_ H'=>Q .bb H',rt:=Q} (start N vs) H):fW P w K mg base C m (k + 1) ps sp:=by
 obtain⟨f,fd,M,F,hb⟩:=T.ex
 exact⟨f,fd,M,F.yh S len (cX f),hb⟩
end
section
variable {X:Cx}{o e:Expr}{es:List Expr}{to:TE}{t:TA}{apos p pos:Pos}{C:Addr}{m x:Str}{k j:Nat}{ps:List Str}{sp:Sp}{E:XK}
theorem nN {pl:Sem Bool}(D:fW X.prog X.w X.K X.mg X.base C m k ps sp)(hx:Passes (kg X.prog X.w) X E)(c:oF X.K C)(hr:bR j X.A)(ho:PE X o to)(ha:PA X (e::es) t)(hj:k<=j:=by decide)(h1:bz e=true:=by rfl)(h2:es.all bz=true:=by rfl)
  (ht:eval (.Call (.Attribute o m apos) (e::es) [] pos) X.env=(do
   let ov <-eval o X.env
   standAt apos.atName
   let (f,first) <-holding [ov] (getMethod ov m pl)
   callWith pos f first (backTo pos (starEach (e::es) X.env)) (backToKw pos (keywordEach [] X.env))):=by rfl):
  PE X (.Call (.Attribute o m apos) (e::es) [] pos) (jV C m sp [] E to t):=by
 obtain⟨f,fd,M,F,hb⟩:=D.ex
 exact r6 ho c M F (hr.mono hj) hb .nil hx ha (bE h1) (cj h2) ht
theorem PE.any{xe:Value->Shared->Prop}{te:TE}(he:PE X.lK e te){pins:List (Addr×Obj)}{s:Shared}{σ:St}{H:Hp}{Q:VK}(I:Inv X pins σ H s)(h:te σ H Q):
  wpAny (model X.prog X.w) X.A (eval e X.env) (EP X pins σ Q) xe s:=
 wpAny_mono (he.out pins s σ H Q (I.gJ _) h) (λ_ _ ⟨v,H',I',r,q⟩=>⟨v,H',I'.cO,r,q⟩) λ_ _ z=>False.elim z
theorem yt {pl:Sem Bool}(D:fW X.prog X.w X.K X.mg X.base C m k ps sp)(c:oF X.K C)(hr:bR j X.A)(ho:PE X.lK o to)(ha:PA X.lK (e::es) t)(hj:k<=j:=by decide)(h1:bz e=true:=by rfl)(h2:es.all bz=true:=by rfl)
  (ht:eval (.Call (.Attribute o m apos) (e::es) [] pos) X.env=(do
   let ov <-eval o X.env
   standAt apos.atName
   let (f,first) <-holding [ov] (getMethod ov m pl)
   callWith pos f first (backTo pos (starEach (e::es) X.env)) (backToKw pos (keywordEach [] X.env))):=by rfl):
  B9 X (.Call (.Attribute o m apos) (e::es) [] pos) (λE=>jV C m sp [] E to t):=by
 obtain⟨f,fd,M,F,hb⟩:=D.ex
 refine⟨λpins s σ H Q E xe hx I h=>?_⟩
 refine W.methodCall_KW (pl:=pl) (bU (ho.any I h) λu s1 ⟨x,H1,I1,rx,a,dx,fs,ex,ea,l,q⟩=>?_) ht
 subst ex
 obtain rfl:u=Value.ref a:=rx
 refine fL I1 ea c M l ?_
 refine W.callWith_K (first:=[.ref a]) (h₀:=X.base) I.ok.mod.og M.kp (bU (ha.any I1 q pos) λus s2 ⟨vs,H2,I2,r,q2⟩=>⟨I2.dP,?_⟩) (bE h1) (cj h2)
 exact AW (us:=.ref a::us) (vs:=.ref a::vs) F (hr.mono hj) hb hx I2 (.cons rfl r) (by have:=q2;simp only[List.append_nil] at this;exact this)
theorem EK {c a b:Expr}{tA:TT}{ta tb:XK->TE}(hc:PT X.lK c tA)(ha:B9 X a ta)(hb:B9 X b tb):B9 X (.IfExp c a b pos) (λE=>Kt tA (ta E) (tb E)):=by
 refine⟨λpins s σ H Q E xe hx I h=>?_⟩
 refine wpAny_IfExp (wpAny_mono (hc.out pins s σ H _ (I.gJ _) h) (λd s1 ⟨H1,I1,q1⟩=>?_) λ_ _ z=>False.elim z)
 cases d with
 | true=>exact ha.out pins s1 σ H1 Q E xe hx I1.cO q1
 | false=>exact hb.out pins s1 σ H1 Q E xe hx I1.cO q1
theorem EL {T id:String}{name:Str}{cF:Pos}{r:V->List V->Hp->VK->Prop}{te:XK->TE}(pa:PlainAttrs T)(slot:Slot T name id)(Aw:typeOf (.builtin id)=pure (.type "method_descriptor"))(hm:DP X.lK id r)(ho:PE X.lK o to)(ha:B9 X e te)
  (h1:bz e=true:=by rfl)
  (iH:attributeBase o name X.env (eval o X.env)=eval o X.env:=by rfl)
  (wZ:((backTo cF (starEach [e] X.env)).all (λx=> !x.1) && (backToKw cF (keywordEach [] X.env)).all (λx=>x.1.isSome)
   && decide ([e].length + ([]:List Keyword).length + (if ([]:List Keyword).isEmpty then 0 else 1) < 30))=true:=by rfl)
  (iI:(apos.endLine == cF.line)=true:=by rfl):
  B9 X (.Call (.Attribute o name apos) [e] [] cF) (λE=>Hb X.K T r to (iC (te E) lO)):=by
 refine⟨λpins s σ H Q E xe hx I h=>?_⟩
 have hs:starEach [e] X.env=(false,eval e X.env)::starEach [] X.env:=bE h1
 refine wpAny_Call_method_late iH wZ iI rfl (bU (ho.any I h) λv s1 ⟨x,H1,I1,r1,ty,q1⟩=>?_)
 obtain⟨h1,h2⟩:=qM I1 r1 ty
 refine⟨T,id,pa,slot,Aw,h1,h2,?_⟩
 rw[hs]
 refine Calls.callWith_builtin rfl (Calls.evalArgs_plain ?_)
 refine Calls.spliced_cons (bU (ha.out pins s1 σ H1 _ E xe hx I1 q1) λu s2 ⟨y,H2,I2,r2,q2⟩=>?_)
 refine Calls.spliced_nil ?_
 exact wpAny_mono (hm pins s2 σ H2 x [y] v [u] Q (I2.gJ _) r1 (.cons r2 .nil) q2) (λ_ _ ⟨v,H',I',r,q⟩=>⟨v,H',I'.cO,r,q⟩) λ_ _ z=>False.elim z
end
def EM (K:W.Frag)(B:Addr)(PC:Addr->Prop):Prop:=∀{M:Model} {A:Around} {E:Value->Shared->Prop} {s:Shared} {e C:Addr} {d:Option Addr} {vs:Array Value} {sl:Array (Option Value)} {Q:Bool->Shared->Prop},K.In s.heap->PC C->
 s.heap.get? e=some (⟨.ref C,d,.fields vs,sl⟩:Obj)->Q true s->wpAny M A (excMatches (.ref e) (.ref B)) Q E s
theorem vb {K:W.Frag}{B:Addr}(xb:XBase K B):EM K B (λC=>dY K C B):=λog cl he hq=>LK og cl xb he hq
theorem yu {K:W.Frag}{C B:Addr}(cl:dY K C B):EM K C (λC'=>C'=C):=by
 intro M A E s e C' d vs sl Q og QO he hq
 subst QO
 obtain⟨nm,q,N,bs,sn,sub,ab,col,dd,k0,k1,k2,k3,k5,ho⟩:=cl.ob
 have hC:=og _ _ ho
 obtain⟨h,g,d',t,os⟩:=s
 have AI:(Value.ref C'::.ref B::ka).contains (.type "BaseException")=true:=rfl
 have Hu:(Value.ref C'::.ref B::ka).contains (.ref C')=true:=by simp
 have f:=tc_notTuple
 unfold excMatches
 repeat (first | with_reducible refine wpAny_loadPart_at he ?_ | with_reducible refine wpAny_loadPart_at hC ?_ | (with_reducible refine wpAny_isSubtype_exc hC ?_;rw[Hu]) | (with_reducible refine wpAny_isSubtype_exc hC ?_;rw[AI]) | wp_step)
 exact hq
def Cc (PC:Addr->Prop)(i:Nat)(tb:XK->TS)(th:TS):TS:=λD σ H=>tb (λe _ H'=>∃a C d,e=.ref a/\H' a=some (XO a C d false)/\PC C/\
 th {nx:=λσ' H2=>D.nx (σ'.set i none) H2,rt:=D.rt,bk:=λσ' H2=>D.bk (σ'.set i none) H2,ct:=λσ' H2=>D.ct (σ'.set i none) H2} (σ.set i (some (.ref a))) H') D σ H
section
variable {X:Cx}{i:Nat}{B:Addr}{PC:Addr->Prop}{tb:XK->TS}{th:TS}{n x:Str}{st b₀:Stmt}{Cd:List Stmt}{np HS pos:Pos}
theorem sW (wz:X.stack=X.env::X.outer)(hf:X.env.frame=some X.env.locals)(hN:X.N.Nodup)(hi:X.N[i]?=some n)(hk:X.env.scope.names.lookup n=some .local)(hg:Gl X x)(hm:X.mg x=some (.ref B))(xb:EM X.K B PC)
  (hb:Om X st tb) (hs:∀a,kr (X.ji a) (b₀::Cd) th) (iD:(x == ("__debug__":Str))=false:=by decide):
  PS X (.Try [st] [.ExceptHandler (some (.Name x np)) (some n) (b₀::Cd) HS] [] [] pos) (Cc PC i tb th):=by
 walk_at "xd"
 refine wpAny_Try_except ?_
 refine wpAny_execs_cons (bU (hb.out pins s σ H D _ _ (λH1 s1 x s' I1 hx=>?_) I h) λf s1 q=>?_)
 ·obtain⟨a,C0,d0,H',t,rfl,I2,ha,tr,o,a',C,d,ea,HU,cl,q⟩:=I1.thrown hx
  cases ea
  have ba:=I2.ok
  refine o4 (T:=some t) wz hf I2 HU tr (λt' z=>by cases z;exact o) λh3 t3 I3 QP o3 _=>?_
  rw[yg HU] at I3 o3
  refine kZ (s:={s' with heap:=h3}) I3 QP o3 λh4 I4 QQ=>?_
  obtain⟨vs,sl,ho⟩:=xM I4 HU
  refine wpAny_handleBy_cons (codeAny_handlers_test (fI (X:=X.ji a) (I4.ji a) hg hm (xb (I4.ji a).dP cl ho ?_) iD)) (by intro z;cases z)
  refine codeAny_handlers_suite_as (kZ (X:=X.ji a) (s:={s' with heap:=h4}) (I4.ji a) QQ o3 λh5 I5 _=>?_)
  refine fY (X:=X.ji a) I5 hN hi (.inl hk) (v:=.ref a) (u:=.ref a) rfl (λs6 I6=>?_) (.inr hk)
  refine wpAny_mono ((hs a) pins s6 _ H' _ I6 q) (λf s7 h7=>?_) λ_ _ z=>False.elim z
  show wpAny _ X.A (do bindName X.env n .none;unbindBehindTheSuite X.env n HS) _ _ s7
  cases f with
  | next=>
   obtain⟨σ',H2,I7,q7⟩:=h7
   exact ky (I7.nJ ba) hN hi hk λs8 I8=>⟨_,H2,I8,q7⟩
  | brk=>
   obtain⟨σ',H2,I7,q7⟩:=h7
   exact ky (I7.nJ ba) hN hi hk λs8 I8=>⟨_,H2,I8,q7⟩
  | cont=>
   obtain⟨σ',H2,I7,q7⟩:=h7
   exact ky (I7.nJ ba) hN hi hk λs8 I8=>⟨_,H2,I8,q7⟩
  | ret u=>
   obtain⟨v,σ',H2,I7,r7,q7⟩:=h7
   exact ky (I7.nJ ba) hN hi hk λs8 I8=>⟨v,_,H2,I8,r7,q7⟩
 ·cases f with
  | next=>exact wpAny_execs_nil (wpAny_execs_nil q)
  | ret v=>exact q
  | brk=>exact q
  | cont=>exact q
end
theorem sX {PC:Addr->Prop}{i:Nat}{tb:XK->TS}{th:TS}{D:Ends}{σ:St}{H:Hp}(h:∀EE:XK,(∀a C d H',H' a=some (XO a C d false)->PC C->
  th {nx:=λσ' H2=>D.nx (σ'.set i none) H2,rt:=D.rt,bk:=λσ' H2=>D.bk (σ'.set i none) H2,ct:=λσ' H2=>D.ct (σ'.set i none) H2} (σ.set i (some (.ref a))) H'->EE (.ref a) none H')->tb EE D σ H):Cc PC i tb th D σ H:=
 h _ λa C d H' e cl q=>⟨a,C,d,rfl,e,cl,q⟩
end L2
set_option maxHeartbeats 4000000
namespace L2
open PySem PySem.Spec PyProof.Rows
section
variable {X:Cx}
theorem yw:Passes (kg X.prog X.w) X E0:=λ_ _ _ _ _ _ _ h=>by
 obtain⟨_,_,_,_,_,_,_,_,_,_,_,_,_,_,q⟩:=h
 exact q.elim
theorem EN {e:Expr}{es:List Expr}{t:TA}{p pos:Pos}{C:Addr}{x:Str}{k j:Nat}{ps:List Str}{sp:Sp}{E:XK}(D:mH X.prog X.w X.K X.mg X.base x C k ps sp)(hx:Passes (kg X.prog X.w) X E)(hr:bR j X.A)(ha:PA X (e::es) t)(hg:Gl X x:=by rfl)(hj:k + 1<=j:=by decide)(iD:(x == ("__debug__":Str))=false:=by decide)
  (h1:bz e=true:=by rfl) (h2:es.all bz=true:=by rfl):PE X (.Call (.Name x p) (e::es) [] pos) (mm C sp [] E t):=by
 obtain⟨f,fd,M,F,hb⟩:=D.ex
 exact r8 M F (hr.mono hj) hg D.mg hb .nil hx ha iD (bE h1) (cj h2)
theorem EO {T id:String}{name:Str}{o e:Expr}{es:List Expr}{to:TE}{t:TA}{apos cF:Pos}{r:V->List V->Hp->VK->Prop}{K:W.Frag}(hK:X.K=K)(pa:PlainAttrs T)(slot:Slot T name id)(Aw:typeOf (.builtin id)=pure (.type "method_descriptor"))(hm:DP X id r)(ho:PE X o to)(ha:PA X (e::es) t)
  (iH:attributeBase o name X.env (eval o X.env)=eval o X.env:=by rfl)
  (wZ:((backTo cF (starEach (e::es) X.env)).all (λx=> !x.1) && (backToKw cF (keywordEach [] X.env)).all (λx=>x.1.isSome)
   && decide ((e::es).length + ([]:List Keyword).length + (if ([]:List Keyword).isEmpty then 0 else 1) < 30))=true:=by rfl)
  (iI:(apos.endLine == cF.line)=true:=by rfl) (hs:starEach (e::es) X.env=(false,eval e X.env)::starEach es X.env:=by rfl) (qN:(backTo cF (starEach es X.env)).any (·.1)=false:=by rfl):
  PE X (.Call (.Attribute o name apos) (e::es) [] cF) (Hb K T r to t):=hK ▸ gO pa slot Aw hm ho ha iH wZ iI hs qN
def HV:V->List V->Hp->VK->Prop:=λx vs H Q=>match x,vs with
 | .ref l,[]=>∃xs,H l=some (.lst xs)/\Q .bb (upd H l (.lst xs.reverse))
 | _,_=>False
theorem yx {l:Addr}{H:Hp}{Q:VK}:HV (.ref l) [] H Q=∃xs,H l=some (.lst xs)/\Q .bb (upd H l (.lst xs.reverse)):=rfl
theorem A1:DP X "list.reverse" HV:=by
 intro pins s σ H x vs v us Q I rx rv h
 match x,vs,rv,h with
 | .ref l,[],rv,⟨xs,h1,h2⟩=>exact qP pins s σ H _ _ v us Q I rx rv ⟨l,xs,rfl,rfl,h1,h2⟩
def Ce:V->List V->Hp->VK->Prop:=λx vs H Q=>match x,vs with
 | .ref l,[.int z,y]=>∃(k:Nat) (xs:List V),z=k/\H l=some (.lst xs)/\k<=xs.length/\xs.length < 1000/\Q .bb (upd H l (.lst (xs.take k++y::xs.drop k)))
 | _,_=>False
theorem sY {l:Addr}{z:Int}{y:V}{H:Hp}{Q:VK}:Ce (.ref l) [.int z,y] H Q=∃(k:Nat) (xs:List V),z=k/\H l=some (.lst xs)/\k<=xs.length/\xs.length < 1000/\Q .bb (upd H l (.lst (xs.take k++y::xs.drop k))):=rfl
theorem yy:DP X "list.insert" Ce:=by
 intro pins s σ H x vs v us Q I rx rv h
 match x,vs,rv,h with
 | .ref l,[.int z,y],rv,⟨k,xs,hk,hH,LL,hz,q⟩=>
  cases rx
  subst hk
  obtain⟨u,w',rfl,ru,uy⟩:=Vals.two rv
  obtain⟨t,rfl⟩:=ru
  obtain⟨zz,aE,n,r,hl,e⟩:=I.oH hH
  have hlen:=r.length
  have LQ:∀m:Nat,m < 1000->¬(!Builtin.List.listFitsIndex (m:Int))=true:=λm hm=>by
   have e1:(-(2 ^ 63:Int)<=(m:Int)):=by omega
   have e2:((m:Int) < 2 ^ 63):=by omega
   simp[Builtin.List.listFitsIndex,e1,e2]
   omega
  have HW:=LQ k (by omega)
  have Oq:aE.toArray.size<=sizeLine:=by rw[List.size_toArray,<-hlen];exact zz
  generalize QR:(k:Int)=ki at *
  refine call_meets F.slot_list_insert ⟨_,e,rfl⟩ F.entry_list_insert (F.args_list_insert_3 _ _ _) (AutoSeq1.list_insert_list_int_val_1 l aE.toArray n ki t w' HW Oq) ⟨e,?_⟩
  subst QR
  refine⟨.bb,_,I.w4 (f6:=aE.take k++w'::aE.drop k) hH e ?_ ((r.take k).append (.cons uy (r.drop k))) ?_,rfl,q⟩
  ·have h0:¬((k:Int) < 0):=by omega
   simp only[List.size_toArray,if_neg h0]
   have h1:min (k:Int).toNat aE.length=k:=by simp;omega
   rw[h1]
   apply Array.ext'
   simp
   exact List.take_of_length_le (by simp)
  ·exact Nat.le_of_lt (aA (by simp;omega))
end
end L2
namespace vS
open PySem L2 DD
def top (i:Nat):Stmt:=PySem.Challenge.pw_cutrestore_k21_nets_made_and_refused.main.body.getD i (.Pass ⟨0,0,0,0⟩)
structure Tx (K:W.Frag)(mg:Str->Option Value)(C CN F:Addr)(FD:List (Str×V)):Prop where
 aJ:mg "isinstance"=none
 yz:mg "int"=none
 rm:mg "bool"=none
 sZ:mg "str"=none
 cG:mg "tuple"=none
 de:mg "list"=none
 bW:mg "len"=none
 df:mg "range"=none
 Cf:mg "min"=none
 Cg:mg "max"=none
 jZ:mg "all"=none
 Ci:mg "zip"=none
 gj:mg "enumerate"=none
 iS:mg "ValueError"=none
 b9:∃t,mg "MOST_DEEDS"=some (.int 24 t)
 b0:∃t,mg "MOST_MODULUS"=some (.int 1000000000000 t)
 b4:∃t,mg "MOST_NUMBERS"=some (.int 4 t)
 dq:∃t,mg "MOST_ROW"=some (.int 12 t)
 bP:∃t,mg "MOST_MACHINES"=some (.int 5 t)
 cU:∃t,mg "MOST_WAYS"=some (.int 10 t)
 b5:∃t,mg "MOST_LETTERS"=some (.int 20 t)
 cb:∃t,mg "SAID_BOUND"=some (.int 1000000000000000000000000000000000000000000000000000000000000 t)
 d6:oF K C
 mN:mg "Machine"=some (.ref C)
 FX:bY K C "own_modulus"
 FY:bY K C "own_state"
 FZ:bY K C "own_deeds"
 vd:W.findIn K (.ref C) "__class__"=some (some (.builtin "object.__class__"))
 ve:W.mroIn K C (.type "object")=some true
 bV:oF K CN
 HX:mg "Net"=some (.ref CN)
 pz:bY K CN "own_machines"
 pA:bY K CN "own_ways"
 rp:bY K CN "own_letters"
 yA:W.findIn K (.ref CN) "__class__"=some (some (.builtin "object.__class__"))
 yB:W.mroIn K CN (.type "object")=some true
 cu:W.specialIn K (.builtin "object.__class__") "__get__"=some (some (.builtin "getset_descriptor.__get__"))
 bw:W.takesIn K (.builtin "object.__class__")=some true
 Ot:W.kitOne K (.ref C) (.ref C)=some true
 vf:(W.clsIn K C).isSome=true
 vg:W.typeIn K (.ref C)=some (.type "type")
 tf:mg "FORMS"=some (.ref F)
 tj:CD K F FD
 Cj:∀d:b8,∃p,PyProof.Rows.KTD.datumAt d.word FD=some (.ref p)/\∀H,bM K H p (d.lU.map V.str)
end vS
namespace vS
open PySem L2 DD
variable {a b p:Addr}{Z:Addr->Prop}{d:DV}{o:HO}{H H' H1 H2:Hp}{M m:Int}{ws:List (Int×Int×Str)}{ls:List (Int×Int)}{ds dw:List DV}{ns row:List Int}{mv vs xs ys:List V}{σ:St}{ta tb:TE}{Q:VK}
theorem rq {X:Cx}{c:Scope}{N:List Str}:lR X c N λY=>FL Y [] iJ:=λ_ _ _ _=>AB
section
variable {P:Program}{w:World}{K:W.Frag}{mg:Str->Option Value}{base:Heap}{C CN F B:Addr}{c:Nat->Addr}{FD:List (Str×V)}
set_option hygiene false
local macro_rules | `(tactic| walk_at "s") => `(tactic| exact ⟨rfl, rfl, rfl, by decide +kernel, rfl, by decide +kernel, by decide +kernel⟩)
local macro_rules | `(tactic| nofun) => `(tactic| refine L2.fo λgZ hZ => ?_)
local macro_rules | `(tactic| ac_rfl) => `(tactic| (refine hZ ?_; clear hZ gZ))
set_option hygiene true
local macro_rules | `(tactic| walk_at "rd") => `(tactic| simp only [ou, tC, uh, Ju, rU, wI, tB, Dk, wt, Dj, Ks, wq, Dl, Kt, Af, wy, wx, Ae, BF, qm, eH, Ds, ml, DI, iC, lO, An, ur, oy, BR, He, si, BS, nr, EG, EH, qv, sy, sE, sF, xS, xT, xU, B6, xV, xW, sQ, xY, xZ, x5, x6, x8, x9, sR, yx, sY, JA, m9, wV, DE, DG, jV, mm, Hb, DT, ya, B7, GH, NJ, ql, yd, ye, id_eq, En, xR, AH, wF, BI, BX, nu, ↓sU, ↓o1, ↓kU, ↓mG, ↓kW, B1, xn, xq, xt, xA, xu, xy, xB, xC, B2, xD, xE, xF, xG, xH, B3, xI, sG, oR, iJ, qS, mF, Hs, xm, BZ, B0, L2.start, List.map_cons, List.map_nil, List.length_cons, List.length_nil, List.cons_append, List.nil_append, List.replicate, List.getElem?_cons_zero, List.getElem?_cons_succ, List.append_nil, Option.some.injEq, exists_eq_left', exists_eq_left, V.int.injEq, V.bl.injEq, V.str.injEq, V.ref.injEq, List.cons.injEq, and_true, true_and, List.set_cons_zero, List.set_cons_succ, Nat.reduceSub, Nat.reduceAdd])
local macro_rules | `(tactic| right) => `(tactic| try walk_at "rd")
local macro_rules | `(tactic| walk_at "rt") => `(tactic| simp only [ou, tC, uh, Ju, rU, wI, tB, Dk, wt, Dj, Ks, wq, Dl, Kt, Af, wy, wx, Ae, BF, qm, eH, Ds, ml, DI, iC, lO, An, ur, oy, BR, He, si, BS, nr, EG, EH, qv, sy, sE, sF, xS, xT, xU, B6, xV, xW, sQ, xY, xZ, x5, x6, x8, x9, sR, yx, sY, JA, m9, wV, DE, DG, jV, mm, Hb, DT, ya, B7, GH, NJ, ql, yd, ye, id_eq, En, xR, AH, wF, BI, BX, nu, ↓sU, ↓o1, ↓kU, ↓mG, ↓kW, B1, xn, xq, xt, xA, xu, xy, xB, xC, B2, xD, xE, xF, xG, xH, B3, sG, oR, iJ, qS, mF, Hs, xm, BZ, B0, L2.start, List.map_cons, List.map_nil, List.length_cons, List.length_nil, List.cons_append, List.nil_append, List.replicate, List.getElem?_cons_zero, List.getElem?_cons_succ, List.append_nil, Option.some.injEq, exists_eq_left', exists_eq_left, V.int.injEq, V.bl.injEq, V.str.injEq, V.ref.injEq, List.cons.injEq, and_true, true_and, List.set_cons_zero, List.set_cons_succ, Nat.reduceSub, Nat.reduceAdd])
local macro_rules | `(tactic| walk_at "go") => `(tactic| repeat (first
  | walk_at "rd"
  | refine uR (by assumption) (by first | rfl | exact aq (j := 0) rfl | exact aq (j := 1) rfl | exact aq (j := 2) rfl | exact aq (j := 3) rfl) ?_
  | refine bp (by assumption) (by first | rfl | exact aq (j := 0) rfl | exact aq (j := 1) rfl | assumption) ?_
  | rw [if_pos (by decide +kernel)]
  | rw [if_neg (by decide +kernel)]))
theorem pB {z:V}:uw (ys++[z]).length (-1)=some ys.length:=by
 unfold uw
 rw[if_neg (by decide),if_pos (by simp;omega)]
 congr 1
 simp
 omega
theorem iG {z:V}:iF (ys++[z]) (-1)=some z:=by
 unfold iF
 rw[pB]
 simp
theorem yC {α:Type}{ys:List α}{z y:α}:(ys++[z]).set ys.length y=ys++[y]:=by simp
theorem ko {o':HO}:upd (upd H a o) a o'=upd H a o':=by
 funext b
 by_cases h:b=a
 ·subst h;rw[ag,ag]
 ·rw[ay h,ay h,ay h]
def cC (H:Hp)(p:Addr):Prop:=∃xs:List Int,H p=some (.lst (xs.map V.int))/\1<=xs.length
structure Step (p:Addr)(H H':Hp):Prop where
 dj:cC H' p
 rest:∀b o,H b=some o->b≠p->H' b=some o
theorem Step.refl(h:cC H p):Step p H H:=⟨h,λ_ _ e _=>e⟩
theorem Step.trans(a:Step p H H1)(b:Step p H1 H2):Step p H H2:=⟨b.dj,λc o e n=>b.rest c o (a.rest c o e n) n⟩
theorem cC.same(s:ak H H')(h:cC H p):cC H' p:=by
 obtain⟨xs,e,h⟩:=h
 exact⟨xs,s _ _ e,h⟩
theorem Step.same(a:Step p H H1)(b:ak H1 H2):Step p H H2:=⟨a.dj.same b,λc o e n=>b _ _ (a.rest c o e n)⟩
theorem Step.set(a:Step p H H1)(xs:List Int)(h:1<=xs.length):Step p H (upd H1 p (.lst (xs.map V.int))):=
 ⟨⟨xs,ag,h⟩,λc o e n=>by rw[ay n];exact a.rest c o e n⟩
theorem Step.new{q:Addr}(a:Step p H H1){o:HO}(hn:H1 q=none):Step p H (upd H1 q o):=a.same (ak.new o hn)
theorem Step.aZ(a:Step p H H1)(hp:cC H p):bX H H1:=λb xs e=>a.rest b _ e λz=>by
 subst z
 obtain⟨a,h,_⟩:=hp
 rw[h] at e;cases e
theorem Step.ne{q:Addr}(hp:cC H p)(hn:H q=none):q≠p:=λz=>by
 subst z
 obtain⟨a,h,_⟩:=hp
 rw[h] at hn;cases hn
theorem Step.over{H0:Hp}(s:ak H0 H1)(hn:H0 p=none)(st:Step p H1 H2):ak H0 H2:=λb o e=>st.rest b o (s b o e) (ao e hn)
theorem cC.upd{q:Addr}(h:cC H p)(ne:p≠q):cC (upd H q o) p:=by
 obtain⟨a,e,h⟩:=h
 exact⟨a,by rw[ay ne];exact e,h⟩
abbrev gX:Stmt:=top 23
def eN:Sp:=λvs H Q _=>∃x t,vs=[x]/\Kd H x t/\Q (.bl (LN x)) H
theorem rA (D:cJ K mg "is_whole" "is_whole" gX ["thing"])(T:Tx K mg C CN F FD):Def P w K mg base "is_whole" 1 ["thing"] eN:=by
 have sc:aI ["thing"] ["thing"] (av gX):=by walk_at "s"
 symm
 ·obtain⟨x,t,rfl,hx,q⟩:=h
  rfl
 ·obtain⟨x,t,rfl,hx,q⟩:=h
  have hu:=hr.units
  refine⟨_,(au (aK (dR (aV bN rfl T.aJ lJ (ae (pv 0) (ae (bO (v:=.ty "int") rfl T.yz PyProof.Rows.boot_int rfl) aa))) (dJ (wu (aV bN rfl T.aJ lJ (ae (pv 0) (ae (bO (v:=.ty "bool") rfl T.rm PyProof.Rows.boot_bool rfl) aa)))))))),?_⟩
  walk_at "rd"
  obtain⟨b,c,e1,e2,e3⟩:=Ex (K:=K) hx
  refine⟨t,b,hx.ty,e1,?_⟩
  rw[e3] at q
  cases b
  ·rw[if_neg Bool.false_ne_true]
   exact q
  ·rw[if_pos rfl]
   exact⟨t,c,hx.ty,e2,q⟩
abbrev gk:Stmt:=top 24
def bT:Sp:=λvs H Q _=>∃x t lo hi,vs=[x,.int lo,.int hi]/\Kd H x t/\Q (.bl (inR lo hi x)) H
theorem pC (D:cJ K mg "is_within" "is_within" gk ["thing","low","beyond"])(T:Tx K mg C CN F FD)(cf:Def P w K mg base "is_whole" 1 ["thing"] eN):Def P w K mg base "is_within" 2 ["thing","low","beyond"] bT:=by
  have sc:aI ["thing","low","beyond"] ["thing","low","beyond"] (av gk):=by walk_at "s"
  symm
  · obtain⟨x,t,lo,hi,rfl,hx,q⟩:=h
    rfl
  · obtain⟨x,t,lo,hi,rfl,hx,q⟩:=h
    have hu:=hr.units
    refine⟨_,(au (aK (dR (aL cf hr (ae (pv 0) aa)) (dJ (oC qU gd (pv 1) (pv 0) (pv 2)))))),?_⟩
    walk_at "rd"
    refine⟨x,t,rfl,hx,?_⟩
    cases hx <;> first
      | (rename_i i
         show ∃c,V.bl true=.bl c/\_
         refine⟨true,rfl,?_⟩
         rw[if_pos rfl]
         walk_at "rd"
         by_cases h1:lo<=i
         · rw[if_pos (by simpa using h1)]
           have e:inR lo hi (.int i)=decide (i < hi):=by simp[inR,h1]
           rw[e] at q
           exact q
         · rw[if_neg (by simpa using h1)]
           have e:inR lo hi (.int i)=false:=by simp[inR,h1]
           rw[e] at q
           exact q)
      | (show ∃c,V.bl false=.bl c/\_
         refine⟨false,rfl,?_⟩
         rw[if_neg Bool.false_ne_true]
         exact q)
abbrev lp:Stmt:=top 52
def yD (K:W.Frag):Sp:=λvs H Q _=>∃(a:Addr) (ns:List Int) (k:Int),vs=[.ref a,.int k]/\aX K H a (ns.map V.int)/\0<=k/\∀c,Q (.int c) H
theorem yE (D:cJ K mg "_law_at" "_law_at" lp ["_law_script","_law_k"])(T:Tx K mg C CN F FD):Def P w K mg base "_law_at" 1 ["_law_script","_law_k"] (yD K):=by
 have sc:aI ["_law_script","_law_k"] ["_law_script","_law_k"] (av lp):=by walk_at "s"
 symm
 ·obtain⟨a,ns,k,rfl,hS,h0,q⟩:=h
  rfl
 ·obtain⟨a,ns,k,rfl,hS,h0,q⟩:=h
  have hu:=hr.units
  refine⟨_,(aj (bg (aM gd (pv 1) (aV aU rfl T.bW PySem.boot_len (ae (pv 0) aa)) (aT _)) (au (aK (aH hu (pv 0) (pv 1)))) aP)
   (au (aK af))),?_⟩
  walk_at "rd"
  refine⟨_,.inl ⟨_,hS,rfl⟩,?_⟩
  rw[List.length_map]
  by_cases h1:k < (ns.length:Int)
  ·rw[if_pos (by simpa using h1)]
   obtain⟨n,rfl⟩:=Int.eq_ofNat_of_zero_le h0
   have hn:n < ns.length:=by omega
   exact⟨_,.int ns[n],.inl hS,aq (by rw[List.getElem?_map,dI hn];rfl),q _⟩
  ·rw[if_neg (by simpa using h1)]
   exact q _
abbrev jj:Stmt:=top 53
def yF:Sp:=λvs H Q _=>∃n:Int,vs=[.int n]/\∀(p:Addr) (xs:List Int),H p=none->1<=xs.length->Q (.ref p) (upd H p (.lst (xs.map V.int)))
theorem vh (D:cJ K mg "_law_pot" "_law_pot" jj ["_law_cell"])(T:Tx K mg C CN F FD):Def P w K mg base "_law_pot" 1 ["_law_cell"] yF:=by
 have sc:aI ["_law_cell","_law_number","_law_pot_here","_law_k"] ["_law_cell"] (av jj):=by walk_at "s"
 symm
 ·obtain⟨n,rfl,q⟩:=h
  rfl
 ·obtain⟨n,rfl,q⟩:=h
  have hu:=hr.units
  refine⟨_,(aj (bj (i:=1) sc.nd rfl (by grind) (aG bL (aG bt (aG bZ (pv 0) af) af) af))
   (aj (bj (i:=2) sc.nd rfl (by grind) (aS (ae af aa)))
   (aj (eP PassesOwn.never rfl (cm rfl T.df (ae af aa)) (bf (i:=3) sc.nd rfl (by grind))
   (aj (bj (i:=1) sc.nd rfl (by grind) (aG bt (aG bL (aG bL (aG ku (pv 1) (pv 1)) (aG ku af (pv 1))) (pv 3)) af))
   (au (i6 (aG bL (aG ku (aH hu (pv 2) af) af) (pv 1)) (i5 (pv 2) af dQ)))))
   (aj (bg (PW.pt (pw_and (aM (bG hu) (aG bt (pv 0) af) af (aT _)) (pw_and1 (aM (jd hu) (aG bZ (pv 0) af) af (aT _))))) (au (dX (gO tV zK zL dE (pv 2) (ae (aG bZ (pv 0) af) aa)))) aP)
   (au (aK (pv 2))))))),?_⟩
  right
  have h2:oP n 2:=⟨by decide,by decide⟩
  refine⟨h2,by decide,?_⟩
  right
  refine⟨by show 1<=sizeLine;decide,λp hp=>?_⟩
  have g0:=Int.emod_nonneg (n / 2) (b:=2147483629) (by decide)
  have g1:=Int.emod_lt_of_pos (n / 2) (b:=2147483629) (by decide)
  refine⟨40,rfl,by decide,by decide,fu (n:=40) (λi σ H'=>∃(u a:Int) (z:Option V),0<=u/\u < 2147483648/\σ=[some (.int n),some (.int u),some (.ref p),z]/\H'=upd H p (.lst [.int a])) ?_ ?_ ?_⟩
  ·exact⟨_,0,none,by omega,by omega,rfl,rfl⟩
  ·rintro i σ H' hi ⟨u,a,z,QS,QT,rfl,rfl⟩
   right
   refine⟨.inl ⟨by omega,by omega⟩,?_⟩
   right
   refine⟨.inl ⟨by omega,by omega⟩,by decide,?_⟩
   right
   refine bp ag (aq (j:=0) rfl) ?_
   right
   refine⟨.inr ⟨by decide,by decide⟩,?_⟩
   right
   refine⟨_,0,ag,rfl,?_⟩
   right
   have k0:=Int.emod_nonneg (u * u + 48271 * u + (0 + (i:Int))) (b:=2147483647) (by decide)
   have k1:=Int.emod_lt_of_pos (u * u + 48271 * u + (0 + (i:Int))) (b:=2147483647) (by decide)
   exact⟨_,_,_,k0,by omega,⟨rfl,rfl⟩,ko⟩
  ·rintro σ H' ⟨u,a,z,QS,QT,rfl,rfl⟩
   right
   refine⟨by decide,?_⟩
   right
   split
   ·refine⟨h2,?_⟩
    right
    split
    ·refine⟨.inl ⟨rfl,_,aX.of ag⟩,h2,?_⟩
     right
     refine⟨_,ag,aA (by simp),?_⟩
     right
     rw[ko]
     exact q p [a,n / 2] hp (by simp)
    ·right
     exact q p [a] hp (by simp)
   ·right
    exact q p [a] hp (by simp)
abbrev gm:Stmt:=top 54
def fC:Sp:=λvs H Q _=>∃(p:Addr) (m:Int),vs=[.ref p,.int m]/\cC H p/\0 < m/\m.natAbs.log2 < 9000/\∀d H',0<=d->d < m->Step p H H'->Q (.int d) H'
theorem pD (D:cJ K mg "_law_digit" "_law_digit" gm ["_law_pot_here","_law_many"])(T:Tx K mg C CN F FD):Def P w K mg base "_law_digit" 1 ["_law_pot_here","_law_many"] fC:=by
 have sc:aI ["_law_pot_here","_law_many","_law_digit_here"] ["_law_pot_here","_law_many"] (av gm):=by walk_at "s"
 symm
 ·obtain⟨p,m,rfl,hp,h0,hl,q⟩:=h
  rfl
 ·obtain⟨p,m,rfl,hp,h0,hl,q⟩:=h
  have hu:=hr.units
  refine⟨_,(aj (bj (i:=2) sc.nd rfl (by grind) (aG bt (aH hu (pv 0) (jU gb af)) (pv 1)))
   (aj (i6 (aG bZ (aH hu (pv 0) (jU gb af)) (pv 1)) (i5 (pv 0) (jU gb af) dQ))
   (aj (bg (PW.pt (pw_and (aM (bG hu) (aH hu (pv 0) (jU gb af)) af (aT _)) (pw_and1 (aM D8 (aV aU rfl T.bW PySem.boot_len (ae (pv 0) aa)) af (aT _))))) (au (dX (wY tV PySem.F.slot_list_pop PySem.F.type_list_pop DU (pv 0)))) aP)
   (au (aK (pv 2)))))),?_⟩
  obtain⟨xs,vi,lL⟩:=id hp
  obtain⟨ys,z,rfl⟩:∃ys z,xs=ys++[z]:=⟨xs.dropLast,xs.getLast (by intro e;rw[e] at lL;simp at lL),(List.dropLast_concat_getLast _).symm⟩
  rw[List.map_append] at vi
  replace vi:H p=some (.lst (ys.map V.int++[.int z])):=vi
  have Ou:Step p H H:=Step.refl hp
  right
  refine⟨_,_,.inl (aX.of vi),iG,?_⟩
  right
  refine⟨h0,?_⟩
  right
  refine⟨_,_,.inl (aX.of vi),iG,?_⟩
  right
  refine⟨⟨h0,hl⟩,?_⟩
  right
  refine⟨_,_,vi,pB,?_⟩
  rw[yC]
  refine⟨_,_,.inl (aX.of ag),iG,?_⟩
  have d0:=Int.emod_nonneg z (b:=m) (by omega)
  have d1:=Int.emod_lt_of_pos z h0
  have HY:Step p H (upd H p (.lst (ys.map V.int++[.int (z / m)]))):=by
   have:=Ou.set (ys++[z / m]) (by simp)
   rw[List.map_append] at this
   exact this
  right
  split
  ·refine⟨_,.inl ⟨_,aX.of ag,rfl⟩,?_⟩
   right
   split
   ·rename_i hlen
    have hlen:1<=ys.length:=by
     simp at hlen
     omega
    refine⟨.inl ⟨rfl,_,aX.of ag⟩,?_⟩
    refine⟨p,_,.int (z / m),rfl,rfl,ag,by simp,?_⟩
    right
    rw[List.dropLast_concat,ko]
    exact q _ _ d0 d1 (Ou.set ys hlen)
   ·right
    exact q _ _ d0 d1 HY
  ·right
   exact q _ _ d0 d1 HY
theorem gY:qu 10 60:=⟨by decide,by decide,by decide +kernel⟩
theorem ER:qu 10 12:=⟨by decide,by decide,by decide +kernel⟩
theorem ES:wG 2 (10 ^ Int.toNat 60):=.inl ⟨by decide +kernel,by decide +kernel⟩
theorem HZ:(0:Int) < 2 * 10 ^ Int.toNat 60 - 1:=by decide +kernel
theorem Ia:(2 * 10 ^ Int.toNat 60 - 1:Int).natAbs.log2 < 9000:=by decide +kernel
theorem ET:(0:Int) < 10 ^ Int.toNat 60:=by decide +kernel
theorem EU:(10 ^ Int.toNat 60:Int).natAbs.log2 < 9000:=by decide +kernel
theorem Ib:(0:Int) < 10 ^ Int.toNat 12 - 1:=by decide +kernel
theorem EV:(10 ^ Int.toNat 12 - 1:Int).natAbs.log2 < 9000:=by decide +kernel
theorem dig {E:XK}(hp:cC H p)(h0:0 < m)(hl:m.natAbs.log2 < 9000)(q:∀d H',0<=d->d < m->Step p H H'->Q (.int d) H'):fC [.ref p,.int m] H Q E:=⟨p,m,rfl,hp,h0,hl,q⟩
abbrev g6:Stmt:=top 27
def yG:Sp:=λvs H Q _=>∃x m n d,vs=[x,.int m]/\HD H n x d/\∀H',ak H H'->Q (.bl (uV m d)) H'
theorem A2 {K:W.Frag}{H:Hp}{n:Nat}{x:V}{d:DV}(h:HD H n x d)(hd:∀ds,d≠.tup ds):∃t,dm K H x t/\W.kitOne K t (.type "tuple")=some false:=by
 cases h with
 | bb=>exact⟨_,.bb,rfl⟩
 | bl b=>exact⟨_,.bl b,rfl⟩
 | int i=>exact⟨_,.int i,rfl⟩
 | str x=>exact⟨_,.str x,rfl⟩
 | tup e=>exact absurd rfl (hd _)
 | lst e=>exact⟨_,.lst e,rfl⟩
 | dict e=>exact⟨_,.dK e,rfl⟩
theorem A3 {K:W.Frag}{H:Hp}{n:Nat}{x:V}{d:DV}(h:HD H n x d)(hd:∀s,d≠.str s):∃t,dm K H x t/\W.kitOne K t (.type "str")=some false:=by
 cases h with
 | bb=>exact⟨_,.bb,rfl⟩
 | bl b=>exact⟨_,.bl b,rfl⟩
 | int i=>exact⟨_,.int i,rfl⟩
 | str x=>exact absurd rfl (hd _)
 | tup e=>exact⟨_,.tup e,rfl⟩
 | lst e=>exact⟨_,.lst e,rfl⟩
 | dict e=>exact⟨_,.dK e,rfl⟩
theorem A4 {m:Int}{d:DV}(hd:∀ds,d≠.tup ds):uV m d=false:=by
 cases d with
 | tup ds=>exact absurd rfl (hd ds)
 | _=>rfl
theorem yH {m:Int}{d:DV}{r:List DV}(hd:∀s,d≠.str s):uV m (.tup (d::r))=false:=by
 cases d with
 | str s=>exact absurd rfl (hd s)
 | _=>rfl
theorem rB (D:cJ K mg "is_value" "is_value" g6 ["thing","many"])(T:Tx K mg C CN F FD)(cf:Def P w K mg base "is_whole" 1 ["thing"] eN)(aN:Def P w K mg base "is_within" 2 ["thing","low","beyond"] bT):Def P w K mg base "is_value" 3 ["thing","many"] yG:=by
 have sc:aI ["thing","many","word"] ["thing","many"] (av g6):=by walk_at "s"
 symm
 ·obtain⟨x,m,n,d,rfl,hx,q⟩:=h
  rfl
 ·obtain⟨x,m,n,d,rfl,hx,q⟩:=h
  have hu:=hr.units
  refine⟨_,(aj (bg (PW.pt (pw_or (bK (bJ (aV bN rfl T.aJ lJ (ae (pv 0) (ae (bO (v:=.ty "tuple") rfl T.cG vN rfl) aa))))) (pw_or (aM (bG hu) (aV aU rfl T.bW PySem.boot_len (ae (pv 0) aa)) af (aT _)) (pw_or1 (bK (bJ (aV bN rfl T.aJ lJ (ae (aH hu (pv 0) af) (ae (bO (v:=.ty "str") rfl T.sZ PyProof.Rows.boot_str rfl) aa))))))))) (au (aK cI)) aP)
   (aj (bj (i:=2) sc.nd rfl (by grind) (aH hu (pv 0) af))
   (aj (bg (aM xl (pv 2) (aO (ae aR (ae aR (ae aR aa)))) (by with_unfolding_all rfl)) (au (aK (fK (bG hu) (aV aU rfl T.bW PySem.boot_len (ae (pv 0) aa)) af (aT _)))) aP)
   (aj (bg (aM (jd hu) (aV aU rfl T.bW PySem.boot_len (ae (pv 0) aa)) af (aT _)) (au (aK cI)) aP)
   (aj (bg (aM (bG hu) (pv 2) aR (aT _)) (au (aK (aL cf hr (ae (aH hu (pv 0) af) aa)))) aP)
   (au (aK (dR (fK (bG hu) (pv 2) aR (aT _)) (dJ (aL aN hr (ae (aH hu (pv 0) af) (ae af (ae (pv 1) aa))))))))))))),?_⟩
  walk_at "rd"
  by_cases hd:∀ds,d≠.tup ds
  ·obtain⟨t,h1,h2⟩:=A2 (K:=K) hx hd
   refine⟨t,false,h1,h2,?_⟩
   rw[A4 hd] at q
   exact q H (ak.refl H)
  ·have:∃ds,d=.tup ds:=Classical.byContradiction λz=>hd λds e=>z ⟨ds,e⟩
   obtain⟨ds,rfl⟩:=this
   cases hx with
   | @tup n a xs _ ha hl hi=>
    refine⟨.type "tuple",true,.tup ha,rfl,?_⟩
    simp only[Bool.not_true,Bool.false_eq_true,if_false]
    refine⟨_,.inr ⟨_,bM.of ha,rfl⟩,?_⟩
    right
    rcases ds with _ | ⟨d0,dr⟩ <;> rcases xs with _ | ⟨x0,xr⟩
    ·exact q H (ak.refl H)
    ·cases hl
    ·cases hl
    ·skip
     rw[if_neg (by simp;omega)]
     refine⟨_,_,.inr (bM.of ha),aq (j:=0) rfl,?_⟩
     have h0:=hi 0 x0 d0 rfl rfl
     by_cases hs:∀s,d0≠.str s
     ·obtain⟨t,h1,h2⟩:=A3 (K:=K) h0 hs
      refine⟨t,false,h1,h2,?_⟩
      rw[yH hs] at q
      exact q H (ak.refl H)
     ·have:∃s,d0=.str s:=Classical.byContradiction λz=>hs λds e=>z ⟨ds,e⟩
      obtain⟨sw,rfl⟩:=this
      cases h0
      refine⟨.type "str",true,.str _,rfl,?_⟩
      simp only[Bool.not_true,Bool.false_eq_true,if_false]
      refine⟨_,_,.inr (bM.of ha),aq (j:=0) rfl,?_⟩
      right
      refine⟨by decide,λp hp=>?_⟩
      have s1:ak H (upd H p (.tup [.str "letter",.str "way",.str "first"])):=ak.new _ hp
      have JS:=s1 _ _ ha
      refine⟨_,.inr (bM.of ag),rfl,rfl,?_⟩
      right
      have i0:xr.length=dr.length:=by simpa using hl
      by_cases hw:qh (.str sw) k8=true
      ·have hv:uV m (.tup (.str sw::dr))=decide (dr.length=0):=by
        show(if qh (.str sw) k8=true then decide (dr.length=0) else _)=_
        rw[if_pos hw]
       rw[if_pos (show qh (.str sw) [.str "letter",.str "way",.str "first"]=true from hw)]
       refine⟨_,.inr ⟨_,bM.of JS,rfl⟩,?_⟩
       right
       have e:decide (((xr.length + 1:Nat):Int)=1)=decide (dr.length=0):=by
        rw[i0]
        by_cases z:dr.length=0
        ·rw[decide_eq_true z,decide_eq_true (by omega)]
        ·rw[decide_eq_false z,decide_eq_false (by omega)]
       rw[hv] at q
       have qq:=q _ s1
       rw[<-e] at qq
       exact qq
      ·have hv:uV m (.tup (.str sw::dr))=AX sw m dr:=by
        show(if qh (.str sw) k8=true then decide (dr.length=0) else _)=_
        rw[if_neg hw]
       rw[if_neg (show ¬qh (.str sw) [.str "letter",.str "way",.str "first"]=true from hw)]
       refine⟨_,.inr ⟨_,bM.of JS,rfl⟩,?_⟩
       right
       rw[hv] at q
       rcases dr with _ | ⟨z,_ | ⟨z',dr⟩⟩ <;> rcases xr with _ | ⟨y,_ | ⟨y',xr⟩⟩
       ·rw[if_pos (by simp)]
        exact q _ s1
       ·cases i0
       ·cases i0
       ·cases i0
       ·skip
        rw[if_neg (by simp)]
        have h1:=(hi 1 y z rfl rfl).same s1
        obtain⟨t,kt⟩:=o8 h1
        by_cases e1:sw="is"
        ·rw[if_pos (by simpa using e1)]
         refine⟨_,_,.inr (bM.of JS),rfl,y,t,rfl,kt,?_⟩
         have qq:=q _ s1
         simp only[AX,if_pos e1] at qq
         rw[Ez h1]
         exact qq
        ·rw[if_neg (by simpa using e1)]
         have qq:=q _ s1
         simp only[AX,if_neg e1] at qq
         by_cases e2:sw="number"
         ·rw[if_pos (by simpa using e2)]
          refine⟨_,_,.inr (bM.of JS),rfl,y,t,0,m,rfl,kt,?_⟩
          rw[decide_eq_true e2,Bool.true_and] at qq
          rw[k7 h1]
          exact qq
         ·rw[if_neg (by simpa using e2)]
          rw[decide_eq_false e2,Bool.false_and] at qq
          exact qq
       ·simp at i0
       ·cases i0
       ·simp at i0
       ·rw[if_pos (by simp;omega)]
        exact q _ s1
abbrev jk:Stmt:=top 25
def g9:Sp:=λvs H Q _=>∃(a:Addr) (xs:List V) (lo hi:Int),vs=[.ref a,.int lo,.int hi]/\(H a=some (.lst xs)\/H a=some (.tup xs))/\∀H',ak H H'->Q (.bl (decide (lo<=(xs.length:Int)) && decide ((xs.length:Int)<=hi))) H'
theorem vj (D:cJ K mg "is_list" "is_list" jk ["things","least","most"])(T:Tx K mg C CN F FD):Def P w K mg base "is_list" 1 ["things","least","most"] g9:=by
 have sc:aI ["things","least","most"] ["things","least","most"] (av jk):=by walk_at "s"
 symm
 ·obtain⟨a,xs,lo,hi,rfl,hx,q⟩:=h
  rfl
 ·obtain⟨a,xs,lo,hi,rfl,hx,q⟩:=h
  have hu:=hr.units
  refine⟨_,(au (aK (dR (aV bN rfl T.aJ lJ (ae (pv 0) (ae (aO (ae (bO (v:=.ty "list") rfl T.de tW rfl) (ae (bO (v:=.ty "tuple") rfl T.cG vN rfl) aa))) aa))) (dJ (oC qU qU (pv 1) (aV aU rfl T.bW PySem.boot_len (ae (pv 0) aa)) (pv 2)))))),?_⟩
  right
  refine⟨cQ,λp hp=>?_⟩
  have s1:ak H (upd H p (.tup [.ty "list",.ty "tuple"])):=ak.new _ hp
  have key:∃t,dm K (upd H p (.tup [.ty "list",.ty "tuple"])) (.ref a) t/\W.kitAny K t [.type "list",.type "tuple"]=some true/\wJ K (.ref a) (upd H p (.tup [.ty "list",.ty "tuple"])) xs.length:=by
   rcases hx with hx | hx
   ·exact⟨_,.lst (s1 _ _ hx),rfl,.inl ⟨_,aX.of (s1 _ _ hx),rfl⟩⟩
   ·exact⟨_,.tup (s1 _ _ hx),rfl,.inr ⟨_,bM.of (s1 _ _ hx),rfl⟩⟩
  obtain⟨t,h1,h2,h3⟩:=key
  refine⟨t,true,_,_,h1,ag,rfl,h2,?_⟩
  rw[if_pos rfl]
  refine⟨_,h3,?_⟩
  have qq:=q _ s1
  by_cases h:lo<=(xs.length:Int)
  ·rw[if_pos (by simpa using h)]
   rw[decide_eq_true h,Bool.true_and] at qq
   exact qq
  ·rw[if_neg (by simpa using h)]
   rw[decide_eq_false h,Bool.false_and] at qq
   exact qq
abbrev jl:Stmt:=top 31
def tm (K:W.Frag):Sp:=λvs H Q _=>∃d:b8,vs=[.str d.word]/\∀p,bM K H p (d.lU.map V.str)->Q (.ref p) H
theorem vk (D:cJ K mg "form_of" "form_of" jl ["word"])(T:Tx K mg C CN F FD):Def P w K mg base "form_of" 1 ["word"] (tm K):=by
 have sc:aI ["word"] ["word"] (av jl):=by walk_at "s"
 symm
 ·obtain⟨d,rfl,q⟩:=h
  rfl
 ·obtain⟨d,rfl,q⟩:=h
  have hu:=hr.units
  refine⟨_,(au (aK (AN T.tj rfl T.tf (ae (pv 0) aa)))),?_⟩
  obtain⟨p,h1,h2⟩:=T.Cj d
  refine⟨_,rfl,?_⟩
  show Q ((PyProof.Rows.KTD.datumAt d.word FD).getD .bb) H
  rw[h1]
  exact q p (h2 H)
abbrev jm:Stmt:=top 32
inductive fN (H:Hp)(m:Int):V->Str->Prop
 | value {n x v}:HT H n x (Val.dv v)->v.ok m->fN H m x "value"
 | number {i}:0<=i->i < m->fN H m (.int i) "number"
 | many {i}:1<=i->i < 25->fN H m (.int i) "many"
 | way {i}:0<=i->fN H m (.int i) "way"
theorem fN.same{H H':Hp}{m:Int}{x:V}{w:Str}(s:ak H H')(h:fN H m x w):fN H' m x w:=by
 cases h with
 | value h1 h2=>exact .value (h1.aY s.aZ) h2
 | number h1 h2=>exact .number h1 h2
 | many h1 h2=>exact .many h1 h2
 | way h1=>exact .way h1
def tq:Sp:=λvs H Q _=>∃x w m,vs=[x,.str w,.int m]/\fN H m x w/\∀H',ak H H'->Q (.bl true) H'
theorem vm (D:cJ K mg "is_part" "is_part" jm ["thing","sort","many"])(T:Tx K mg C CN F FD)(hJ:Def P w K mg base "is_value" 3 ["thing","many"] yG)(cf:Def P w K mg base "is_whole" 1 ["thing"] eN)(aN:Def P w K mg base "is_within" 2 ["thing","low","beyond"] bT):Def P w K mg base "is_part" 4 ["thing","sort","many"] tq:=by
 have sc:aI ["thing","sort","many"] ["thing","sort","many"] (av jm):=by walk_at "s"
 symm
 ·obtain⟨x,w,m,rfl,hx,q⟩:=h
  rfl
 ·obtain⟨x,w,m,rfl,hx,q⟩:=h
  have hu:=hr.units
  refine⟨_,(aj (bg (aM (bG hu) (pv 1) aR (aT _)) (au (aK (aL hJ hr (ae (pv 0) (ae (pv 2) aa))))) aP)
   (aj (bg (aM (bG hu) (pv 1) aR (aT _)) (au (aK (aL aN hr (ae (pv 0) (ae af (ae (pv 2) aa)))))) aP)
   (aj (bg (aM (bG hu) (pv 1) aR (aT _)) (au (aK (aL aN hr (ae (pv 0) (ae af (ae (aG bL (dF T.b9 rfl) af) aa)))))) aP)
   (au (aK (dR (aL cf hr (ae (pv 0) aa)) (dJ (fK D9 (pv 0) af (aT _))))))))),?_⟩
  right
  cases hx with
  | @value n x v h1 h2=>
   rw[if_pos (by decide +kernel)]
   refine⟨x,m,n,_,rfl,h1.hd,λH' s=>?_⟩
   rw[EA h2]
   exact q H' s
  | @number i h1 h2=>
   rw[if_neg (by decide +kernel),if_pos (by decide +kernel)]
   refine⟨.int i,_,0,m,rfl,.int i,?_⟩
   have e:inR 0 m (.int i)=true:=by simp[inR,h1,h2]
   rw[e]
   exact q H (ak.refl H)
  | @many i h1 h2=>
   rw[if_neg (by decide +kernel),if_neg (by decide +kernel),if_pos (by decide +kernel)]
   refine⟨.int i,_,1,_,rfl,.int i,?_⟩
   have e:inR 1 (24 + 1) (.int i)=true:=by simp[inR,h1];omega
   rw[e]
   exact q H (ak.refl H)
  | @way i h1=>
   rw[if_neg (by decide +kernel),if_neg (by decide +kernel),if_neg (by decide +kernel)]
   refine⟨.int i,_,rfl,.int i,true,rfl,?_⟩
   rw[if_pos rfl]
   have e:decide ((0:Int)<=i)=true:=decide_eq_true h1
   right
   rw[e]
   exact q H (ak.refl H)
abbrev jn:Stmt:=top 33
theorem LR {x:V}{ps:List V}:dM (x::ps) (some 1) none=ps:=by
 unfold dM
 have e:HT.cM (x::ps).length 0 (some 1)=1:=by
  show(if (1:Int) < 0 then((1:Int) + ((x::ps).length:Int)).toNat else min (1:Int).toNat (x::ps).length)=1
  rw[if_neg (by decide)]
  show min 1 (ps.length + 1)=1
  omega
 rw[e]
 show List.take ((x::ps).length - 1) ps=ps
 simp
theorem rC {H:Hp}{n:Nat}{x:V}{d:b8}{m:Int}(h:HT H n x d.dv)(ba:d.ok m):∃a ps,x=.ref a/\H a=some (.tup (.str d.word::ps))/\ps.length=d.lU.length/\∀(i:Nat) p s,ps[i]?=some p->d.lU[i]?=some s->fN H m p s:=by
 cases d with
 | set i v=>
  obtain⟨a,u,y,z,k,rfl,e,h1,h2,h3⟩:=fB h
  cases h1;cases h2
  refine⟨a,_,rfl,e,rfl,λj p s hp hs=>?_⟩
  match j,hp,hs with
  | 0,hp,hs=>cases hp;cases hs;exact .number ba.1 ba.2.1
  | 1,hp,hs=>cases hp;cases hs;exact .value h3 ba.2.2
 | add i v=>
  obtain⟨a,u,y,z,k,rfl,e,h1,h2,h3⟩:=fB h
  cases h1;cases h2
  refine⟨a,_,rfl,e,rfl,λj p s hp hs=>?_⟩
  match j,hp,hs with
  | 0,hp,hs=>cases hp;cases hs;exact .number ba.1 ba.2.1
  | 1,hp,hs=>cases hp;cases hs;exact .value h3 ba.2.2
 | times i v=>
  obtain⟨a,u,y,z,k,rfl,e,h1,h2,h3⟩:=fB h
  cases h1;cases h2
  refine⟨a,_,rfl,e,rfl,λj p s hp hs=>?_⟩
  match j,hp,hs with
  | 0,hp,hs=>cases hp;cases hs;exact .number ba.1 ba.2.1
  | 1,hp,hs=>cases hp;cases hs;exact .value h3 ba.2.2
 | put v=>
  obtain⟨a,u,y,k,rfl,e,h1,h2⟩:=yi h
  cases h1
  refine⟨a,_,rfl,e,rfl,λj p s hp hs=>?_⟩
  match j,hp,hs with
  | 0,hp,hs=>cases hp;cases hs;exact .value h2 ba
 | drop=>
  obtain⟨a,u,k,rfl,e,h1⟩:=EB h
  cases h1
  exact⟨a,_,rfl,e,rfl,λj p s hp hs=>by simp at hp⟩
 | send j v=>
  obtain⟨a,u,y,z,k,rfl,e,h1,h2,h3⟩:=fB h
  cases h1;cases h2
  refine⟨a,_,rfl,e,rfl,λj p s hp hs=>?_⟩
  match j,hp,hs with
  | 0,hp,hs=>cases hp;cases hs;exact .way ba.1
  | 1,hp,hs=>cases hp;cases hs;exact .value h3 ba.2
 | say v=>
  obtain⟨a,u,y,k,rfl,e,h1,h2⟩:=yi h
  cases h1
  refine⟨a,_,rfl,e,rfl,λj p s hp hs=>?_⟩
  match j,hp,hs with
  | 0,hp,hs=>cases hp;cases hs;exact .value h2 ba
 | skip v w kk=>
  obtain⟨a,u,y,z,t,k,rfl,e,h1,h2,h3,h4⟩:=AY h
  cases h1;cases h4
  refine⟨a,_,rfl,e,rfl,λj p s hp hs=>?_⟩
  match j,hp,hs with
  | 0,hp,hs=>cases hp;cases hs;exact .value h2 ba.1
  | 1,hp,hs=>cases hp;cases hs;exact .value h3 ba.2.1
  | 2,hp,hs=>cases hp;cases hs;exact .many ba.2.2.1 ba.2.2.2
theorem rD {d:b8}:d.lU.length<=3:=by cases d <;> simp[b8.lU]
def mO:Sp:=λvs H Q _=>∃x m n d,vs=[x,.int m]/\HT H n x (b8.dv d)/\d.ok m/\∀H',ak H H'->Q (.bl true) H'
theorem vn (D:cJ K mg "is_deed" "is_deed" jn ["thing","many"])(T:Tx K mg C CN F FD)(jo:Def P w K mg base "form_of" 1 ["word"] (tm K))(jq:Def P w K mg base "is_part" 4 ["thing","sort","many"] tq):Def P w K mg base "is_deed" 5 ["thing","many"] mO:=by
 have sc:aI ["thing","many","form"] ["thing","many"] (av jn):=by walk_at "s"
 symm
 ·obtain⟨x,m,n,d,rfl,hx,ba,q⟩:=h
  rfl
 ·obtain⟨x,m,n,d,rfl,hx,ba,q⟩:=h
  have hu:=hr.units
  refine⟨_,(aj (bg (PW.pt (pw_or (bK (bJ (aV bN rfl T.aJ lJ (ae (pv 0) (ae (bO (v:=.ty "tuple") rfl T.cG vN rfl) aa))))) (pw_or (aM (bG hu) (aV aU rfl T.bW PySem.boot_len (ae (pv 0) aa)) af (aT _)) (pw_or1 (bK (bJ (aV bN rfl T.aJ lJ (ae (aH hu (pv 0) af) (ae (bO (v:=.ty "str") rfl T.sZ PyProof.Rows.boot_str rfl) aa))))))))) (au (aK cI)) aP)
   (aj (bj (i:=2) sc.nd rfl (by grind) (aL jo hr (ae (aH hu (pv 0) af) aa)))
   (aj (bg (PW.pt (pw_or (aM Eb (pv 2) fZ (aT _)) (pw_or1 (aM (jd hu) (aV aU rfl T.bW PySem.boot_len (ae (pv 0) aa)) (aG bL (aV aU rfl T.bW PySem.boot_len (ae (pv 2) aa)) af) (aT _))))) (au (aK cI)) aP)
   (au (aK (aV (dn rfl) rfl T.jZ CV (ae (jX (N':=["part","sort","many"]) (ix:=[none,none,some 1]) (Eo rfl T.Ci (ae (jf (pv 0) (gG af) gF) (ae (pv 2) aa))) (λ_ _ _ _=>(sT (K:=K) rfl (i:=0) (j:=1) rfl (show(["part","sort","many"]:List Str).Nodup by decide +kernel) rfl rfl (by grind) (by grind))) rq (λ_ _ _ _=>(aL jq hr (ae (pv 0) (ae (pv 1) (ae (pv 2) aa)))))) aa))))))),?_⟩
  obtain⟨a,ps,rfl,ha,hlen,EW⟩:=rC hx ba
  have h3:=rD (d:=d)
  right
  refine⟨_,true,.tup ha,rfl,?_⟩
  simp only[Bool.not_true,Bool.false_eq_true,if_false]
  refine⟨_,.inr ⟨_,bM.of ha,rfl⟩,?_⟩
  rw[if_neg (by simp;omega)]
  refine⟨_,.str d.word,.inr (bM.of ha),aq (j:=0) rfl,_,true,.str _,rfl,?_⟩
  simp only[Bool.not_true,Bool.false_eq_true,if_false]
  refine⟨_,.str d.word,.inr (bM.of ha),aq (j:=0) rfl,d,rfl,λp hp=>?_⟩
  right
  rw[if_neg Bool.false_ne_true]
  refine⟨_,.inr ⟨_,bM.of ha,rfl⟩,_,.inr ⟨_,hp,rfl⟩,?_⟩
  rw[if_neg (by simp[hlen])]
  refine cR ?_
  right
  refine .inr ⟨_,ha,λp2 H2 s2 j6=>?_⟩
  rw[LR] at j6
  have JT:=s2.JR hp
  refine⟨false,false,_,_,Sq.t j6,JT,λD hD=>?_⟩
  refine bI (J:=Ln false false K p2 p) (n:=ps.length) (λi ys H'=>ys=List.replicate i (V.bl true)/\ak H2 H') (Nat.le_of_lt (aA (by omega))) ⟨rfl,ak.new _ hD⟩ ?_ ?_ ?_ ?_
  ·rintro i ys H' hi ⟨_,s3⟩
   exact⟨ps,d.lU.map V.str,ps[i],.str (d.lU[i]'(by omega)),Sq.t (s3 _ _ j6),s3.JR JT,dI hi,by rw[List.getElem?_map,dI (by omega)];rfl⟩
  ·rintro ys H' ⟨_,s3⟩
   exact⟨ps,d.lU.map V.str,Sq.t (s3 _ _ j6),s3.JR JT,.inl rfl⟩
  ·rintro i ys H' hi fO hl ⟨rfl,s3⟩ x H4 ⟨T,hT,rfl,hy⟩
   obtain⟨u,v,e1,e2,rfl⟩:=hy ps (d.lU.map V.str) (Sq.t (s3 _ _ j6)) (s3.JR JT)
   rw[List.getElem?_map] at e2
   obtain⟨z,ez,rfl⟩:=Option.map_eq_some_iff.mp e2
   have s4:ak H' (upd H' T (.tup [u,.str z])):=ak.new _ hT
   refine⟨T,_,rfl,bM.of ag,rfl,_,_,rfl,_,_,rfl,rfl,Ext.set (Ext.set (Ext.refl _) rfl) rfl,?_⟩
   right
   rw[if_pos trivial]
   refine⟨u,z,m,rfl,(EW i u z e1 ez).same (s2.trans (s3.trans s4)),λH5 s5=>?_⟩
   have QU:H5 D=some (.lst (List.replicate i (V.bl true))):=s5 _ _ (s4 _ _ fO)
   refine cH QU hl hi (Nat.le_of_lt (aA (by omega))) ⟨gf _ _,λb o e=>?_⟩
   rw[ay (ao e hD)]
   exact s5 _ _ (s4 _ _ (s3 _ _ e))
  ·rintro ys H' fO hl ⟨rfl,s3⟩
   right
   rw[kX] at fO
   refine⟨_,aX.of fO,?_⟩
   have e:(List.replicate ps.length true).all id=true:=by simp
   rw[e]
   exact q _ (s2.trans s3)
abbrev eS:Stmt:=top 38
def LT (H:Hp)(a:Addr)(xs:List V):Prop:=H a=some (.lst xs)\/H a=some (.tup xs)
theorem LT.same(s:ak H H')(h:LT H a xs):LT H' a xs:=h.elim (λz=>.inl (s _ _ z)) (λz=>.inr (s _ _ z))
theorem fE {K:W.Frag}(h:LT H a ys)(q:∀p H',ak H H'->H' p=some (.tup ys)->Q (.ref p) H'):qV K [.ref a] H Q:=by
 rcases h with h | h
 ·exact .inl ⟨_,aX.of h,λl hl=>q l _ (ak.new _ hl) ag⟩
 ·exact .inr ⟨_,bM.of h,q a H (ak.refl H) h⟩
def lq:Sp:=λvs H Q _=>∃(a:Addr) (ns:List Int) (lo hi M:Int),vs=[.ref a,.int lo,.int hi,.int M]/\LT H a (ns.map V.int)/\lo<=(ns.length:Int)/\(ns.length:Int)<=hi/\hi<=100/\(∀z ∈ ns,0<=z/\z < M)/\∀H',ak H H'->Q (.bl true) H'
theorem lV (D:cJ K mg "are_counted" "are_counted" eS ["things","least","most","modulus"])(T:Tx K mg C CN F FD)(cV:Def P w K mg base "is_list" 1 ["things","least","most"] g9)(aN:Def P w K mg base "is_within" 2 ["thing","low","beyond"] bT):Def P w K mg base "are_counted" 3 ["things","least","most","modulus"] lq:=by
 have sc:aI ["things","least","most","modulus"] ["things","least","most","modulus"] (av eS):=by walk_at "s"
 symm
 ·obtain⟨a,ns,lo,hi,M,rfl,ha,BV,Ov,LU,hb,q⟩:=h
  rfl
 ·obtain⟨a,ns,lo,hi,M,rfl,ha,BV,Ov,LU,hb,q⟩:=h
  have hu:=hr.units
  refine⟨_,(au (aK (dR (aL cV hr (ae (pv 0) (ae (pv 1) (ae (pv 2) aa)))) (dJ (aV (dn rfl) rfl T.jZ CV (ae (jX (N':=["thing","modulus"]) (ix:=[none,some 3]) (cZ (pv 0)) (λ_ _ _ _=>(bf (i:=0) (show(["thing","modulus"]:List Str).Nodup by decide +kernel) rfl (by grind))) rq (λ_ _ _ _=>(aL aN hr (ae (pv 0) (ae af (ae (pv 1) aa)))))) aa)))))),?_⟩
  right
  refine⟨a,_,lo,hi,rfl,ha,λH1 s1=>?_⟩
  rw[List.length_map,decide_eq_true BV,decide_eq_true Ov]
  show ∃c,V.bl true=.bl c/\_
  refine⟨true,rfl,?_⟩
  rw[if_pos rfl]
  refine cR ?_
  right
  rcases ha with ha | ha
  ·refine .inl ⟨⟨_,aX.of (s1 _ _ ha)⟩,λD hD=>?_⟩
   refine bI (J:=ud K a) (n:=ns.length) (λi ys H'=>ys=List.replicate i (V.bl true)/\ak H1 H') (Nat.le_of_lt (aA (by omega))) ⟨rfl,ak.new _ hD⟩ ?_ ?_ ?_ ?_
   ·rintro i ys H' fX ⟨_,s3⟩
    exact⟨_,.int ns[i],aX.of (s3 _ _ (s1 _ _ ha)),by rw[List.getElem?_map,dI fX];rfl⟩
   ·rintro ys H' ⟨_,s3⟩
    exact⟨_,aX.of (s3 _ _ (s1 _ _ ha)),by simp⟩
   ·rintro i ys H' fX fO hl ⟨rfl,s3⟩ x H4 ⟨rfl,hy⟩
    have ex:=hy _ (aX.of (s3 _ _ (s1 _ _ ha)))
    rw[List.getElem?_map,dI fX] at ex
    cases ex
    refine⟨Ext.set (Ext.refl _) rfl,?_⟩
    right
    rw[if_pos trivial]
    refine⟨.int ns[i],_,0,M,rfl,.int _,?_⟩
    have hz:=hb ns[i] (List.getElem_mem fX)
    have e:inR 0 M (.int ns[i])=true:=by simp[inR,hz.1,hz.2]
    rw[e]
    refine cH fO hl fX (Nat.le_of_lt (aA (by omega))) ⟨gf _ _,λb o e=>?_⟩
    rw[ay (ao e hD)]
    exact s3 _ _ e
   ·rintro ys H' fO hl ⟨rfl,s3⟩
    right
    rw[kX] at fO
    refine⟨_,aX.of fO,?_⟩
    have e:(List.replicate ns.length true).all id=true:=by simp
    rw[e]
    exact q _ (s1.trans s3)
  ·refine .inr ⟨⟨_,bM.of (s1 _ _ ha)⟩,λD hD=>?_⟩
   refine bI (J:=Kw K a) (n:=ns.length) (λi ys H'=>ys=List.replicate i (V.bl true)/\ak H1 H') (Nat.le_of_lt (aA (by omega))) ⟨rfl,ak.new _ hD⟩ ?_ ?_ ?_ ?_
   ·rintro i ys H' fX ⟨_,s3⟩
    exact⟨_,.int ns[i],bM.of (s3 _ _ (s1 _ _ ha)),by rw[List.getElem?_map,dI fX];rfl⟩
   ·rintro ys H' ⟨_,s3⟩
    exact⟨_,bM.of (s3 _ _ (s1 _ _ ha)),by simp⟩
   ·rintro i ys H' fX fO hl ⟨rfl,s3⟩ x H4 ⟨rfl,hy⟩
    have ex:=hy _ (bM.of (s3 _ _ (s1 _ _ ha)))
    rw[List.getElem?_map,dI fX] at ex
    cases ex
    refine⟨Ext.set (Ext.refl _) rfl,?_⟩
    right
    rw[if_pos trivial]
    refine⟨.int ns[i],_,0,M,rfl,.int _,?_⟩
    have hz:=hb ns[i] (List.getElem_mem fX)
    have e:inR 0 M (.int ns[i])=true:=by simp[inR,hz.1,hz.2]
    rw[e]
    refine cH fO hl fX (Nat.le_of_lt (aA (by omega))) ⟨gf _ _,λb o e=>?_⟩
    rw[ay (ao e hD)]
    exact s3 _ _ e
   ·rintro ys H' fO hl ⟨rfl,s3⟩
    right
    rw[kX] at fO
    refine⟨_,aX.of fO,?_⟩
    have e:(List.replicate ns.length true).all id=true:=by simp
    rw[e]
    exact q _ (s1.trans s3)
abbrev du:Stmt:=top 39
def tu:Sp:=λvs H Q _=>∃(M:Int) (an ar ad:Addr) (ns row:List Int) (xs:List V),vs=[.int M,.ref an,.ref ar,.ref ad]/\2<=M/\M<=1000000000000/\LT H an (ns.map V.int)/\LT H ar (row.map V.int)/\LT H ad xs/\1<=ns.length/\ns.length<=4/\row.length<=12/\(∀z ∈ ns,0<=z/\z < M)/\(∀z ∈ row,0<=z/\z < M)/\∀H',ak H H'->Q .bb H'
theorem jr (D:cJ K mg "refuse_machine" "refuse_machine" du ["modulus","numbers","row","deeds"])(T:Tx K mg C CN F FD)(dG:Def P w K mg base "are_counted" 3 ["things","least","most","modulus"] lq)(aN:Def P w K mg base "is_within" 2 ["thing","low","beyond"] bT):Def P w K mg base "refuse_machine" 4 ["modulus","numbers","row","deeds"] tu:=by
 have sc:aI ["modulus","numbers","row","deeds"] ["modulus","numbers","row","deeds"] (av du):=by walk_at "s"
 symm
 ·obtain⟨M,an,ar,ad,ns,row,xs,rfl,EX,pE,hn,F0,hd,EY,JU,A5,hb,EZ,q⟩:=h
  rfl
 ·obtain⟨M,an,ar,ad,ns,row,xs,rfl,EX,pE,hn,F0,hd,EY,JU,A5,hb,EZ,q⟩:=h
  have hu:=hr.units
  refine⟨_,(aj (bg (bK (bJ (aL aN hr (ae (pv 0) (ae af (ae (aG bL (dF T.b0 rfl) af) aa)))))) (au f7) aP)
   (aj (bg (bK (bJ (aL dG hr (ae (pv 1) (ae af (ae (dF T.b4 rfl) (ae (pv 0) aa))))))) (au f7) aP)
   (aj (bg (bK (bJ (aL dG hr (ae (pv 2) (ae af (ae (dF T.dq rfl) (ae (pv 0) aa))))))) (au f7) aP)
   (au (bg (bK (bJ (aV bN rfl T.aJ lJ (ae (pv 3) (ae (aO (ae (bO (v:=.ty "list") rfl T.de tW rfl) (ae (bO (v:=.ty "tuple") rfl T.cG vN rfl) aa))) aa))))) (au f7) aP))))),?_⟩
  right
  refine⟨.int M,_,2,_,rfl,.int M,?_⟩
  have e:inR 2 (1000000000000 + 1) (.int M)=true:=by simp[inR,EX];omega
  rw[e]
  right
  rw[if_neg (by decide)]
  refine⟨an,ns,1,4,M,rfl,hn,by omega,by omega,by decide,hb,λH1 s1=>?_⟩
  right
  rw[if_neg (by decide)]
  refine⟨ar,row,0,12,M,rfl,F0.same s1,by omega,by omega,by decide,EZ,λH2 s2=>?_⟩
  right
  rw[if_neg (by decide)]
  refine⟨cQ,λp hp=>?_⟩
  have s3:ak H2 (upd H2 p (.tup [.ty "list",.ty "tuple"])):=ak.new _ hp
  have Aw:∃t,dm K (upd H2 p (.tup [.ty "list",.ty "tuple"])) (.ref ad) t/\W.kitAny K t [.type "list",.type "tuple"]=some true:=by
   rcases hd.same (s1.trans (s2.trans s3)) with z | z
   ·exact⟨_,.lst z,rfl⟩
   ·exact⟨_,.tup z,rfl⟩
  obtain⟨t,vT,rE⟩:=Aw
  refine⟨t,true,_,_,vT,ag,rfl,rE,?_⟩
  right
  rw[if_neg (by decide)]
  exact q _ (s1.trans (s2.trans s3))
abbrev d7:Stmt:=top 40
def DL (H:Hp)(n:Nat)(xs:List V)(ds:List b8):Prop:=xs.length=ds.length/\∀(i:Nat) x d,xs[i]?=some x->ds[i]?=some d->HT H n x (b8.dv d)
theorem DL.aY{n:Nat}{ds:List b8}(s:bX H H')(h:DL H n xs ds):DL H' n xs ds:=⟨h.1,λi x d e1 e2=>(h.2 i x d e1 e2).aY s⟩
theorem DL.ht{n:Nat}{ds:List b8}(h:DL H n xs ds)(e:H a=some (.tup xs)):HT H (n + 1) (.ref a) (.tup (ds.map b8.dv)):=by
 refine .tup e (by rw[List.length_map];exact h.1) λi u d hu hd=>?_
 rw[List.getElem?_map] at hd
 obtain⟨dd,e1,rfl⟩:=Option.map_eq_some_iff.mp hd
 exact h.2 i u dd hu e1
def tw:Sp:=λvs H Q _=>∃(a:Addr) (xs:List V) (ds:List b8) (m:Int) (n:Nat),vs=[.ref a,.int m]/\LT H a xs/\DL H n xs ds/\ds.length<=24/\(∀d ∈ ds,d.ok m)/\∀H',ak H H'->Q .bb H'
theorem lu (D:cJ K mg "refuse_deeds" "refuse_deeds" d7 ["deeds","many"])(T:Tx K mg C CN F FD)(jt:Def P w K mg base "is_deed" 5 ["thing","many"] mO):Def P w K mg base "refuse_deeds" 6 ["deeds","many"] tw:=by
 have sc:aI ["deeds","many","at","deed"] ["deeds","many"] (av d7):=by walk_at "s"
 symm
 ·obtain⟨a,xs,ds,m,n,rfl,ha,vo,JV,ba,q⟩:=h
  rfl
 ·obtain⟨a,xs,ds,m,n,rfl,ha,vo,JV,ba,q⟩:=h
  have hu:=hr.units
  refine⟨_,(au (eP PassesOwn.never rfl (sM rfl T.gj (ae (pv 0) aa)) (yb (i:=2) (j:=3) rfl sc.nd rfl rfl (by grind) (by grind))
   (au (bg (PW.pt (pw_or (aM (bG hu) (pv 2) (dF T.b9 rfl) (aT _)) (pw_or1 (bK (bJ (aL jt hr (ae (pv 3) (ae (pv 1) aa)))))))) (au f7) aP)))),?_⟩
  rcases ha with ha | ha
  ·refine⟨_,rfl,true,xs,Sq.l ha,?_⟩
   refine oZ (xs:=xs) (λi σ H'=>ak H H'/\∃z1 z2,σ=[some (.ref a),some (.int m),z1,z2]) ⟨ak.refl H,none,none,rfl⟩ (λi σ H' ⟨s1,_⟩=>Sq.l (s1 _ _ ha)) ?_ ?_
   ·rintro i x σ H1 T hx ⟨s1,z1,z2,rfl⟩ hT
    have hi:i < xs.length:=(List.getElem?_eq_some_iff.mp hx).1
    have gK:i < ds.length:=by rw[<-vo.1];exact hi
    have s2:ak H1 (upd H1 T (.tup [.int i,x])):=ak.new _ hT
    refine⟨T,_,rfl,bM.of ag,rfl,_,_,rfl,_,_,rfl,rfl,?_⟩
    right
    rw[if_neg (by simp;omega)]
    refine⟨x,m,n,ds[i],rfl,(vo.2 i x ds[i] hx (dI gK)).aY (s1.trans s2).aZ,ba _ (List.getElem_mem gK),λH3 s3=>?_⟩
    right
    first | rw[if_neg (by decide)] | skip
    exact⟨s1.trans (s2.trans s3),_,_,rfl,rfl⟩
   ·rintro σ H1 ⟨s1,_⟩
    exact q _ s1
  ·refine⟨_,rfl,false,xs,Sq.t ha,?_⟩
   refine oZ (xs:=xs) (λi σ H'=>ak H H'/\∃z1 z2,σ=[some (.ref a),some (.int m),z1,z2]) ⟨ak.refl H,none,none,rfl⟩ (λi σ H' ⟨s1,_⟩=>Sq.t (s1 _ _ ha)) ?_ ?_
   ·rintro i x σ H1 T hx ⟨s1,z1,z2,rfl⟩ hT
    have hi:i < xs.length:=(List.getElem?_eq_some_iff.mp hx).1
    have gK:i < ds.length:=by rw[<-vo.1];exact hi
    have s2:ak H1 (upd H1 T (.tup [.int i,x])):=ak.new _ hT
    refine⟨T,_,rfl,bM.of ag,rfl,_,_,rfl,_,_,rfl,rfl,?_⟩
    right
    rw[if_neg (by simp;omega)]
    refine⟨x,m,n,ds[i],rfl,(vo.2 i x ds[i] hx (dI gK)).aY (s1.trans s2).aZ,ba _ (List.getElem_mem gK),λH3 s3=>?_⟩
    right
    first | rw[if_neg (by decide)] | skip
    exact⟨s1.trans (s2.trans s3),_,_,rfl,rfl⟩
   ·rintro σ H1 ⟨s1,_⟩
    exact q _ s1
abbrev ju:Stmt:=(eK (top 41)).getD 0 (.Pass ⟨0,0,0,0⟩)
def Ow (M:Int)(st dd:V):List (Str×V):=bC "own_deeds" dd (bC "own_state" st (bC "own_modulus" (.int M) []))
theorem jv {f:Str}{v:V}{fs:List (Str×V)}{n:Nat}(h:fs.length < n):(bC f v fs).length < n + 1:=by
 have:=gc f v fs
 omega
def hR (C:Addr)(H:Hp)(m:Addr)(M:Int)(ns row:List Int)(ds:List b8):Prop:=∃dx st dd,H m=some (.ins C dx (Ow M st dd))/\HT H 2 st (Oo ns row)/\HT H 4 dd (.tup (ds.map b8.dv))
theorem hR.same{C:Addr}{m:Addr}{ds:List b8}(s:ak H H')(h:hR C H m M ns row ds):hR C H' m M ns row ds:=by
 obtain⟨dx,st,dd,h1,h2,h3⟩:=h
 exact⟨dx,st,dd,s _ _ h1,h2.aY s.aZ,h3.aY s.aZ⟩
def tx (C:Addr):Sp:=λvs H Q _=>∃(x dx:Addr) (M:Int) (an ar ad:Addr) (ns row:List Int) (xs:List V) (ds:List b8) (n:Nat),vs=[.ref x,.int M,.ref an,.ref ar,.ref ad]/\H x=some (.ins C dx [])/\2<=M/\M<=1000000000000/\LT H an (ns.map V.int)/\LT H ar (row.map V.int)/\LT H ad xs/\1<=ns.length/\ns.length<=4/\row.length<=12/\
 (∀z ∈ ns,0<=z/\z < M)/\(∀z ∈ row,0<=z/\z < M)/\DL H n xs ds/\n<=3/\ds.length<=24/\(∀d ∈ ds,d.ok ns.length)/\∀H',hR C H' x M ns row ds->(∀b o,b≠x->H b=some o->H' b=some o)->Q .bb H'
theorem vp (D:rh K mg "Machine" C "Machine.__init__" ju ["self","modulus","numbers","row","deeds"])(T:Tx K mg C CN F FD)(d9:Def P w K mg base "refuse_deeds" 6 ["deeds","many"] tw)(dy:Def P w K mg base "refuse_machine" 4 ["modulus","numbers","row","deeds"] tu):AO P w K mg base "Machine" C 7 ["self","modulus","numbers","row","deeds"] (tx C):=by
 have sc:aI ["self","modulus","numbers","row","deeds"] ["self","modulus","numbers","row","deeds"] (av ju):=by walk_at "s"
 symm
 ·obtain⟨x,dx,M,an,ar,ad,ns,row,xs,ds,n,rfl,hx,EX,pE,hn,F0,hd,EY,JU,A5,hb,EZ,vo,QV,JV,ba,q⟩:=h
  rfl
 ·obtain⟨x,dx,M,an,ar,ad,ns,row,xs,ds,n,rfl,hx,EX,pE,hn,F0,hd,EY,JU,A5,hb,EZ,vo,QV,JV,ba,q⟩:=h
  have hu:=hr.units
  refine⟨_,(aj (dX (aL dy hr (ae (pv 1) (ae (pv 2) (ae (pv 3) (ae (pv 4) aa))))))
   (aj (dX (aL d9 hr (ae (pv 4) (ae (aV aU rfl T.bW PySem.boot_len (ae (pv 2) aa)) aa))))
   (aj (jc (pv 0) (pv 1) (eI rfl))
   (aj (jc (pv 0) (aO (ae (dW cS rfl T.cG vN (ae (pv 2) aa)) (ae (dW cS rfl T.cG vN (ae (pv 3) aa)) aa))) (eI rfl))
   (au (jc (pv 0) (dW cS rfl T.cG vN (ae (pv 4) aa)) (eI rfl))))))),?_⟩
  try walk_at "rt"
  refine⟨M,an,ar,ad,ns,row,xs,rfl,EX,pE,hn,F0,hd,EY,JU,A5,hb,EZ,λH1 s1=>?_⟩
  try walk_at "rt"
  have hlen:wJ K (.ref an) H1 (ns.map V.int).length:=(hn.same s1).elim (λz=>.inl ⟨_,aX.of z,rfl⟩) (λz=>.inr ⟨_,bM.of z,rfl⟩)
  refine⟨_,hlen,?_⟩
  refine⟨ad,xs,ds,_,n,rfl,hd.same s1,vo.aY s1.aZ,JV,by rw[List.length_map];exact ba,λH2 s2=>?_⟩
  have tE:=s1.trans s2
  try walk_at "rt"
  have F1:=tE _ _ hx
  refine⟨x,C,dx,[],rfl,F1,T.d6,T.FX,by decide,?_⟩
  have Ox:∀{b:Addr} {ys:List V},LT H b ys->b≠x:=λh z=>by
   subst z
   rcases h with h | h <;> (rw[hx] at h;cases h)
  have nx:∀b o,b≠x->H b=some o->upd H2 x (.ins C dx (bC "own_modulus" (.int M) [])) b=some o:=λb o ne e=>by rw[ay ne];exact tE _ _ e
  have Oy:∀{b:Addr} {ys:List V},LT H b ys->LT (upd H2 x (.ins C dx (bC "own_modulus" (.int M) []))) b ys:=λh=>by
   have kM:=Ox h
   exact h.elim (λz=>.inl (nx _ _ kM z)) (λz=>.inr (nx _ _ kM z))
  have Oz:upd H2 x (.ins C dx (bC "own_modulus" (.int M) [])) x=some (.ins C dx (bC "own_modulus" (.int M) [])):=ag
  generalize F2:upd H2 x (.ins C dx (bC "own_modulus" (.int M) []))=G2 at *
  try walk_at "rt"
  refine fE (Oy hn) λt1 H3 s3 vT=>?_
  try walk_at "rt"
  refine fE ((Oy F0).same s3) λt2 H4 s4 rE=>?_
  try walk_at "rt"
  refine⟨cQ,λt3 yI=>?_⟩
  have s5:=ak.new (.tup [.ref t1,.ref t2]) yI
  have LV:=s3.trans (s4.trans s5)
  try walk_at "rt"
  refine⟨x,C,dx,_,rfl,LV _ _ Oz,T.d6,T.FY,jv (n:=999) (by decide),?_⟩
  have QW:HT (upd H4 t3 (.tup [.ref t1,.ref t2])) 2 (.ref t3) (Oo ns row):=eQ ag (Ca (s5 _ _ (s4 _ _ vT))) (Ca (s5 _ _ rE))
  have LW:=LV _ _ Oz
  have nG:∀b o,b≠x->H b=some o->upd H4 t3 (.tup [.ref t1,.ref t2]) b=some o:=λb o ne e=>LV _ _ (nx b o ne e)
  generalize hG:upd H4 t3 (.tup [.ref t1,.ref t2])=G at *
  have tG:bX H G:=λb ys e=>nG b _ (λz=>by subst z;rw[hx] at e;cases e) e
  have t6:bX G (upd G x (.ins C dx (bC "own_state" (.ref t3) (bC "own_modulus" (.int M) [])))):=(bX.refl G).upd λys e=>by rw[LW] at e;cases e
  have e6:LT (upd G x (.ins C dx (bC "own_state" (.ref t3) (bC "own_modulus" (.int M) [])))) ad xs:=by
   have kM:=Ox hd
   exact hd.elim (λz=>.inl (by rw[ay kM];exact nG _ _ kM z)) (λz=>.inr (by rw[ay kM];exact nG _ _ kM z))
  have n6:∀b o,b≠x->H b=some o->upd G x (.ins C dx (bC "own_state" (.ref t3) (bC "own_modulus" (.int M) []))) b=some o:=λb o ne e=>by rw[ay ne];exact nG b o ne e
  have LX:upd G x (.ins C dx (bC "own_state" (.ref t3) (bC "own_modulus" (.int M) []))) x=some (.ins C dx (bC "own_state" (.ref t3) (bC "own_modulus" (.int M) []))):=ag
  generalize A6:upd G x (.ins C dx (bC "own_state" (.ref t3) (bC "own_modulus" (.int M) [])))=G6 at *
  try walk_at "rt"
  refine fE e6 λt4 H7 s7 vU=>?_
  try walk_at "rt"
  refine⟨x,C,dx,_,rfl,s7 _ _ LX,T.d6,T.FZ,jv (n:=999) (jv (n:=998) (by decide)),?_⟩
  have ne4:t4≠x:=λz=>by subst z;rw[s7 _ _ LX] at vU;cases vU
  have t8:bX H7 (upd H7 x (.ins C dx (Ow M (.ref t3) (.ref t4)))):=(bX.refl _).upd λys e=>by rw[s7 _ _ LX] at e;cases e
  refine q _ ⟨dx,.ref t3,.ref t4,ag,(QW.aY t6).aY (s7.aZ.trans t8),?_⟩ λb o ne e=>?_
  ·refine HT.mono (n:=n + 1) ?_ (by omega)
   refine DL.ht (vo.aY (tG.trans (t6.trans (s7.aZ.trans t8)))) ?_
   rw[ay ne4]
   exact vU
  ·rw[ay ne]
   exact s7 _ _ (n6 b o ne e)
def gQ (H:Hp)(n:Nat)(ys:List V)(es:List DV):Prop:=ys.length=es.length/\∀(i:Nat) y e,ys[i]?=some y->es[i]?=some e->HT H n y e
theorem gQ.nil{n:Nat}:gQ H n [] []:=⟨rfl,λi y e h=>by simp at h⟩
theorem gQ.aY{n:Nat}{es:List DV}(h:gQ H n ys es)(t:bX H H'):gQ H' n ys es:=⟨h.1,λi y e a b=>(h.2 i y e a b).aY t⟩
theorem gQ.snoc{n:Nat}{es:List DV}{y:V}{e:DV}(h:gQ H n ys es)(g:HT H n y e):gQ H n (ys++[y]) (es++[e]):=by
 refine⟨by simp[h.1],λi y' e' a b=>?_⟩
 by_cases hi:i < ys.length
 ·rw[List.getElem?_append_left hi] at a
  rw[List.getElem?_append_left (by rw[<-h.1];exact hi)] at b
  exact h.2 i _ _ a b
 ·rw[List.getElem?_append_right (by omega)] at a
  rw[List.getElem?_append_right (by rw[<-h.1];omega),<-h.1] at b
  cases hj:i - ys.length with
  | zero=>rw[hj] at a b;cases a;cases b;exact g
  | succ k=>rw[hj] at a;simp at a
theorem gQ.dl{n:Nat}{ds:List b8}(h:gQ H n xs (ds.map b8.dv)):DL H n xs ds:=⟨by simpa using h.1,λi x d hx hd=>h.2 i x _ hx (by rw[List.getElem?_map,hd];rfl)⟩
abbrev QX (C:Addr)(H:Hp)(m:Addr)(d:MD):Prop:=hR C H m d.M d.ns d.row d.ds
def dg (w:Int×Int×Str):DV:=.tup [.int w.1,.int w.2.1,.str w.2.2]
def fF (l:Int×Int):DV:=.tup [.int l.1,.int l.2]
def j0 (m:Int)(w:Int×Int×Str):Prop:=0<=w.1/\w.1 < m/\0<=w.2.1/\w.2.1 < m/\(w.2.2="row"\/w.2.2="heap")
def j1 (m:Int)(l:Int×Int):Prop:=0<=l.1/\l.1 < m/\1 - 1000000000000000000000000000000000000000000000000000000000000<=l.2/\l.2 < 1000000000000000000000000000000000000000000000000000000000000
def eD (m:Int):DV->Bool
 | .tup [a,b,.str x]=>eC 0 m a && (eC 0 m b && qh (.str x) [.str "row",.str "heap"])
 | _=>false
def dN (m:Int):DV->Bool
 | .tup [a,b]=>eC 0 m a && eC (1 - 1000000000000000000000000000000000000000000000000000000000000) 1000000000000000000000000000000000000000000000000000000000000 b
 | _=>false
theorem yJ (h:ds.length≠3):eD m (.tup ds)=false:=by
 unfold eD
 split
 ·rename_i e;cases e;exact absurd rfl h
 ·rfl
theorem yK (h:ds.length≠2):dN m (.tup ds)=false:=by
 unfold dN
 split
 ·rename_i e;cases e;exact absurd rfl h
 ·rfl
theorem nO {α:Type}{l:List α}(h:l.length=3):∃a b c,l=[a,b,c]:=by
 rcases l with _ | ⟨a,_ | ⟨b,_ | ⟨c,_ | ⟨d,r⟩⟩⟩⟩ <;> first | exact⟨_,_,_,rfl⟩ | simp at h
theorem tH {α:Type}{l:List α}(h:l.length=2):∃a b,l=[a,b]:=by
 rcases l with _ | ⟨a,_ | ⟨b,_ | ⟨c,r⟩⟩⟩ <;> first | exact⟨_,_,rfl⟩ | simp at h
theorem yL {w:Int×Int×Str}(h:j0 m w):eD m (dg w)=true:=by
 obtain⟨a,b,c⟩:=w
 obtain⟨h1,h2,h3,h4,h5⟩:0<=a/\a < m/\0<=b/\b < m/\(c="row"\/c="heap"):=h
 have e:qh (.str c) [.str "row",.str "heap"]=true:=by rcases h5 with rfl | rfl <;> decide +kernel
 simp[eD,dg,eC,h1,h2,h3,h4,e]
theorem yM {l:Int×Int}(h:j1 m l):dN m (fF l)=true:=by
 obtain⟨a,b⟩:=l
 obtain⟨h1,h2,h3,h4⟩:0<=a/\a < m/\1 - 1000000000000000000000000000000000000000000000000000000000000<=b/\b < 1000000000000000000000000000000000000000000000000000000000000:=h
 simp only[dN,fF,eC,decide_eq_true h1,decide_eq_true h2,decide_eq_true h3,decide_eq_true h4,Bool.and_self]
abbrev lx:Stmt:=top 47
def pF:Sp:=λvs H Q _=>∃(x:V) (n:Nat) (d:DV) (m:Int),vs=[x,.int m]/\HD H n x d/\∀H',ak H H'->Q (.bl (eD m d)) H'
theorem yN (D:cJ K mg "is_way" "is_way" lx ["thing","many"])(T:Tx K mg C CN F FD)(aN:Def P w K mg base "is_within" 2 ["thing","low","beyond"] bT):Def P w K mg base "is_way" 3 ["thing","many"] pF:=by
 have sc:aI ["thing","many"] ["thing","many"] (av lx):=by walk_at "s"
 symm
 ·obtain⟨x,n,d,m,rfl,hx,q⟩:=h
  rfl
 ·obtain⟨x,n,d,m,rfl,hx,q⟩:=h
  have hu:=hr.units
  refine⟨_,(aj (bg (PW.pt (pw_or (bK (bJ (aV bN rfl T.aJ lJ (ae (pv 0) (ae (bO (v:=.ty "tuple") rfl T.cG vN rfl) aa))))) (pw_or (aM (jd hu) (aV aU rfl T.bW PySem.boot_len (ae (pv 0) aa)) af (aT _)) (pw_or1 (bK (bJ (aV bN rfl T.aJ lJ (ae (aH hu (pv 0) af) (ae (bO (v:=.ty "str") rfl T.sZ PyProof.Rows.boot_str rfl) aa))))))))) (au (aK cI)) aP)
   (au (aK (dR (aL aN hr (ae (aH hu (pv 0) af) (ae af (ae (pv 1) aa)))) (dR (aL aN hr (ae (aH hu (pv 0) af) (ae af (ae (pv 1) aa)))) (dJ (fK xl (aH hu (pv 0) af) (aO (ae aR (ae aR aa))) (by with_unfolding_all rfl)))))))),?_⟩
  right
  cases hx with
  | @tup n a xs ds ha la da=>
   refine⟨_,true,.tup ha,rfl,?_⟩
   simp only[Bool.not_true,Bool.false_eq_true,if_false]
   refine⟨_,.inr ⟨_,bM.of ha,rfl⟩,?_⟩
   by_cases h3:xs.length=3
   ·rw[if_neg (by simp[h3])]
    obtain⟨x0,x1,x2,rfl⟩:=nO h3
    obtain⟨d0,d1,d2,rfl⟩:=nO (la.symm.trans h3)
    have k0:=da 0 x0 d0 rfl rfl
    have k1:=da 1 x1 d1 rfl rfl
    have k2:=da 2 x2 d2 rfl rfl
    clear da
    refine⟨_,_,.inr (bM.of ha),aq (j:=2) rfl,?_⟩
    obtain⟨t0,LY⟩:=o8 k0
    obtain⟨t1,LZ⟩:=o8 k1
    cases k2 with
    | str z=>
     refine⟨_,true,.str _,rfl,?_⟩
     simp only[Bool.not_true,Bool.false_eq_true,if_false]
     right
     refine⟨_,_,.inr (bM.of ha),aq (j:=0) rfl,?_⟩
     refine⟨x0,t0,0,m,rfl,LY,?_⟩
     rw[k7 k0]
     right
     cases e0:eC 0 m d0 with
     | false=>
      have:=q H (ak.refl H)
      simp only[eD,e0,Bool.false_and] at this
      exact this
     | true=>
     first | rw[if_pos trivial] | rw[if_pos rfl]
     refine⟨_,_,.inr (bM.of ha),aq (j:=1) rfl,?_⟩
     refine⟨x1,t1,0,m,rfl,LZ,?_⟩
     rw[k7 k1]
     right
     cases e1:eC 0 m d1 with
     | false=>
      have:=q H (ak.refl H)
      simp only[eD,e0,e1,Bool.true_and,Bool.false_and] at this
      exact this
     | true=>
     first | rw[if_pos trivial] | rw[if_pos rfl]
     refine⟨_,_,.inr (bM.of ha),aq (j:=2) rfl,cQ,λp hp=>?_⟩
     refine⟨_,.inr (bM.of ag),rfl,rfl,?_⟩
     have:=q _ (ak.new (.tup [.str "row",.str "heap"]) hp)
     simp only[eD,e0,e1,Bool.true_and] at this
     exact this
    | _=>
     first
      | refine⟨_,false,.bb,rfl,?_⟩
      | refine⟨_,false,.bl _,rfl,?_⟩
      | refine⟨_,false,.int _,rfl,?_⟩
      | refine⟨_,false,.str _,rfl,?_⟩
      | refine⟨_,false,.lst (by assumption),rfl,?_⟩
      | refine⟨_,false,.tup (by assumption),rfl,?_⟩
      | refine⟨_,false,.dK (by assumption),rfl,?_⟩
     simp only[Bool.not_false,if_true]
     right
     exact q H (ak.refl H)
   ·rw[if_pos (by simp;omega)]
    right
    have:=q H (ak.refl H)
    rw[yJ (by omega)] at this
    exact this
  | _=>
   first
    | refine⟨_,false,.bb,rfl,?_⟩
    | refine⟨_,false,.bl _,rfl,?_⟩
    | refine⟨_,false,.int _,rfl,?_⟩
    | refine⟨_,false,.str _,rfl,?_⟩
    | refine⟨_,false,.lst (by assumption),rfl,?_⟩
    | refine⟨_,false,.tup (by assumption),rfl,?_⟩
    | refine⟨_,false,.dK (by assumption),rfl,?_⟩
   simp only[Bool.not_false,if_true]
   right
   exact q H (ak.refl H)
abbrev gn:Stmt:=top 48
def pG:Sp:=λvs H Q _=>∃(x:V) (n:Nat) (d:DV) (m:Int),vs=[x,.int m]/\HD H n x d/\Q (.bl (dN m d)) H
theorem pH (D:cJ K mg "is_letter" "is_letter" gn ["thing","many"])(T:Tx K mg C CN F FD)(aN:Def P w K mg base "is_within" 2 ["thing","low","beyond"] bT):Def P w K mg base "is_letter" 3 ["thing","many"] pG:=by
 have sc:aI ["thing","many"] ["thing","many"] (av gn):=by walk_at "s"
 symm
 ·obtain⟨x,n,d,m,rfl,hx,q⟩:=h
  rfl
 ·obtain⟨x,n,d,m,rfl,hx,q⟩:=h
  have hu:=hr.units
  refine⟨_,(aj (bg (PW.pt (pw_or (bK (bJ (aV bN rfl T.aJ lJ (ae (pv 0) (ae (bO (v:=.ty "tuple") rfl T.cG vN rfl) aa))))) (pw_or1 (aM (jd hu) (aV aU rfl T.bW PySem.boot_len (ae (pv 0) aa)) af (aT _))))) (au (aK cI)) aP)
   (au (aK (dR (aL aN hr (ae (aH hu (pv 0) af) (ae af (ae (pv 1) aa)))) (dJ (aL aN hr (ae (aH hu (pv 0) af) (ae (aG cB af (dF T.cb rfl)) (ae (dF T.cb rfl) aa))))))))),?_⟩
  right
  cases hx with
  | @tup n a xs ds ha la da=>
   refine⟨_,true,.tup ha,rfl,?_⟩
   simp only[Bool.not_true,Bool.false_eq_true,if_false]
   refine⟨_,.inr ⟨_,bM.of ha,rfl⟩,?_⟩
   by_cases h3:xs.length=2
   ·rw[if_neg (by simp[h3])]
    obtain⟨x0,x1,rfl⟩:=tH h3
    obtain⟨d0,d1,rfl⟩:=tH (la.symm.trans h3)
    have k0:=da 0 x0 d0 rfl rfl
    have k1:=da 1 x1 d1 rfl rfl
    clear da
    obtain⟨t0,LY⟩:=o8 k0
    obtain⟨t1,LZ⟩:=o8 k1
    right
    refine⟨_,_,.inr (bM.of ha),aq (j:=0) rfl,?_⟩
    refine⟨x0,t0,0,m,rfl,LY,?_⟩
    rw[k7 k0]
    right
    cases e0:eC 0 m d0 with
    | false=>
     have:=q
     simp only[dN,e0,Bool.false_and] at this
     exact this
    | true=>
    first | rw[if_pos trivial] | rw[if_pos rfl]
    refine⟨_,_,.inr (bM.of ha),aq (j:=1) rfl,?_⟩
    refine⟨x1,t1,_,_,rfl,LZ,?_⟩
    rw[k7 k1]
    have:=q
    simp only[dN,e0,Bool.true_and] at this
    exact this
   ·rw[if_pos (by simp;omega)]
    right
    have:=q
    rw[yK (by omega)] at this
    exact this
  | _=>
   first
    | refine⟨_,false,.bb,rfl,?_⟩
    | refine⟨_,false,.bl _,rfl,?_⟩
    | refine⟨_,false,.int _,rfl,?_⟩
    | refine⟨_,false,.str _,rfl,?_⟩
    | refine⟨_,false,.lst (by assumption),rfl,?_⟩
    | refine⟨_,false,.tup (by assumption),rfl,?_⟩
    | refine⟨_,false,.dK (by assumption),rfl,?_⟩
   simp only[Bool.not_false,if_true]
   right
   exact q
abbrev gp:Stmt:=top 55
def pI:Sp:=λvs H Q _=>∃p m,vs=[.ref p,.int m]/\cC H p/\0 < m/\m<=4/\∀x v H',Step p H H'->HT H' 1 x (Val.dv v)->v.ok m->Q x H'
theorem pJ (D:cJ K mg "_law_value" "_law_value" gp ["_law_pot_here","_law_many"])(T:Tx K mg C CN F FD)(aD:Def P w K mg base "_law_digit" 1 ["_law_pot_here","_law_many"] fC):Def P w K mg base "_law_value" 2 ["_law_pot_here","_law_many"] pI:=by
 have sc:aI ["_law_pot_here","_law_many","_law_kind"] ["_law_pot_here","_law_many"] (av gp):=by walk_at "s"
 symm
 ·obtain⟨p,m,rfl,hp,h0,h4,q⟩:=h
  rfl
 ·obtain⟨p,m,rfl,hp,h0,h4,q⟩:=h
  have hu:=hr.units
  refine⟨_,(aj (bj (i:=2) sc.nd rfl (by grind) (aL aD hr (ae (pv 0) (ae af aa))))
   (aj (bg (aM gd (pv 2) af (aT _)) (au (aK (aO (ae aR (ae (aH hu (aS (ae (aG cB (aL aD hr (ae (pv 0) (ae af aa))) af) (ae (aG cB (aL aD hr (ae (pv 0) (ae (aG cB (aG ku af (aG dD af af)) af) aa))) (aG cB (aG dD af af) af)) aa))) (pv 2)) aa))))) aP)
   (aj (bg (aM gd (pv 2) af (aT _)) (au (aK (aO (ae aR (ae (aL aD hr (ae (pv 0) (ae (pv 1) aa))) aa))))) aP)
   (au (aK (aH hu (aS (ae (aO (ae aR aa)) (ae (aO (ae aR aa)) (ae (aO (ae aR aa)) (ae (aO (ae aR aa)) aa))))) (aG cB (pv 2) af))))))),?_⟩
  right
  refine⟨p,8,rfl,hp,by decide +kernel,by decide +kernel,λd H1 h1 h2 st=>?_⟩
  right
  split
  ·rename_i hd
   have hd:d < 2:=by simpa using hd
   refine⟨p,9,rfl,st.dj,by decide +kernel,by decide +kernel,λd1 H2 h3 h4 rV=>?_⟩
   right
   refine⟨gY,ES,dig rV.dj HZ Ia λd2 H3 h5 h6 iZ=>?_⟩
   right
   refine⟨gY,by decide,λl hl=>?_⟩
   have mh:d=0\/d=1:=by omega
   rcases mh with rfl | rfl
   ·exact⟨_,_,.inl (aX.of ag),rfl,by decide,λt ht=>q _ (.is _) _ ((((st.trans rV).trans iZ).new hl).new ht) (eQ ag (.str _) (.int _)) trivial⟩
   ·exact⟨_,_,.inl (aX.of ag),rfl,by decide,λt ht=>q _ (.is _) _ ((((st.trans rV).trans iZ).new hl).new ht) (eQ ag (.str _) (.int _)) trivial⟩
  ·rename_i hd
   have hd:¬d < 2:=by simpa using hd
   split
   ·refine⟨p,m,rfl,st.dj,h0,?_,λd1 H2 h3 QY rV=>?_⟩
    ·have:m=1\/m=2\/m=3\/m=4:=by omega
     rcases this with rfl | rfl | rfl | rfl <;> decide +kernel
    right
    exact⟨by decide,λt ht=>q _ (.number _) _ ((st.trans rV).new ht) (eQ ag (.str _) (.int _)) ⟨h3,QY⟩⟩
   ·rename_i hd2
    have hd2:¬d < 4:=by simpa using hd2
    refine⟨by decide,λt1 vT=>⟨by decide,λt2 rE=>⟨by decide,λt3 yI=>⟨by decide,λt4 vU=>⟨by decide,λl hl=>?_⟩⟩⟩⟩⟩
    have gL:=((((st.new vT (o:=.tup [.str "letter"])).new rE (o:=.tup [.str "letter"])).new yI (o:=.tup [.str "way"])).new vU (o:=.tup [.str "first"])).new hl (o:=.lst [.ref t1,.ref t2,.ref t3,.ref t4])
    have mh:d=4\/d=5\/d=6\/d=7:=by omega
    have g1:=(ak.new (H:=upd H1 t1 (.tup [.str "letter"])) (.tup [.str "letter"]) rE) t1 _ ag
    have g2:=(ak.new (.tup [.str "way"]) yI) _ _ g1
    have g3:=(ak.new (.tup [.str "first"]) vU) _ _ g2
    have g4:=(ak.new (.lst [.ref t1,.ref t2,.ref t3,.ref t4]) hl) _ _ g3
    have k2:=(ak.new (H:=upd (upd H1 t1 (.tup [.str "letter"])) t2 (.tup [.str "letter"])) (.tup [.str "way"]) yI) t2 _ ag
    have k3:=(ak.new (.tup [.str "first"]) vU) _ _ k2
    have k4:=(ak.new (.lst [.ref t1,.ref t2,.ref t3,.ref t4]) hl) _ _ k3
    have l3:=(ak.new (H:=upd (upd (upd H1 t1 (.tup [.str "letter"])) t2 (.tup [.str "letter"])) t3 (.tup [.str "way"])) (.tup [.str "first"]) vU) t3 _ ag
    have l4:=(ak.new (.lst [.ref t1,.ref t2,.ref t3,.ref t4]) hl) _ _ l3
    have m4:=(ak.new (H:=upd (upd (upd (upd H1 t1 (.tup [.str "letter"])) t2 (.tup [.str "letter"])) t3 (.tup [.str "way"])) t4 (.tup [.str "first"])) (.lst [.ref t1,.ref t2,.ref t3,.ref t4]) hl) t4 _ ag
    rcases mh with rfl | rfl | rfl | rfl
    ·exact⟨_,_,.inl (aX.of ag),rfl,q _ .nK _ gL (k9 g4 (.str _)) trivial⟩
    ·exact⟨_,_,.inl (aX.of ag),rfl,q _ .nK _ gL (k9 k4 (.str _)) trivial⟩
    ·exact⟨_,_,.inl (aX.of ag),rfl,q _ .way _ gL (k9 l4 (.str _)) trivial⟩
    ·exact⟨_,_,.inl (aX.of ag),rfl,q _ .first _ gL (k9 m4 (.str _)) trivial⟩
theorem L3 {d:Int}(h0:0<=d)(h:d < 10):d=0\/d=1\/d=2\/d=3\/d=4\/d=5\/d=6\/d=7\/d=8\/d=9:=by
 have:∀n:Fin 10,((n.1:Nat):Int)=0\/((n.1:Nat):Int)=1\/((n.1:Nat):Int)=2\/((n.1:Nat):Int)=3\/((n.1:Nat):Int)=4\/((n.1:Nat):Int)=5\/((n.1:Nat):Int)=6\/((n.1:Nat):Int)=7\/((n.1:Nat):Int)=8\/((n.1:Nat):Int)=9:=by decide
 rw[<-Int.toNat_of_nonneg h0]
 exact this ⟨d.toNat,by omega⟩
abbrev hV:Stmt:=top 56
theorem E2 {H:Hp}{n:Nat}{a:Addr}{u v w z:V}{d d' uW d3:DV}(e:H a=some (.tup [u,v,w,z]))(h:HT H n u d)(h':HT H n v d')(LO:HT H n w uW)(h3:HT H n z d3):HT H (n + 1) (.ref a) (.tup [d,d',uW,d3]):=by
 refine .tup e rfl λi x y hx hy=>?_
 match i,hx,hy with
 | 0,hx,hy=>simp at hx hy;subst hx hy;exact h
 | 1,hx,hy=>simp at hx hy;subst hx hy;exact h'
 | 2,hx,hy=>simp at hx hy;subst hx hy;exact LO
 | 3,hx,hy=>simp at hx hy;subst hx hy;exact h3
def pK:Sp:=λvs H Q _=>∃p m,vs=[.ref p,.int m]/\cC H p/\0 < m/\m<=4/\∀x d H',Step p H H'->HT H' 2 x (b8.dv d)->d.ok m->Q x H'
theorem rF (D:cJ K mg "_law_deed" "_law_deed" hV ["_law_pot_here","_law_many"])(T:Tx K mg C CN F FD)(aD:Def P w K mg base "_law_digit" 1 ["_law_pot_here","_law_many"] fC)(b7:Def P w K mg base "_law_value" 2 ["_law_pot_here","_law_many"] pI):Def P w K mg base "_law_deed" 3 ["_law_pot_here","_law_many"] pK:=by
 have sc:aI ["_law_pot_here","_law_many","_law_kind"] ["_law_pot_here","_law_many"] (av hV):=by walk_at "s"
 symm
 ·obtain⟨p,m,rfl,hp,h0,h4,q⟩:=h
  rfl
 ·obtain⟨p,m,rfl,hp,h0,h4,q⟩:=h
  have hu:=hr.units
  refine⟨_,(aj (bj (i:=2) sc.nd rfl (by grind) (aL aD hr (ae (pv 0) (ae af aa))))
   (aj (bg (aM gd (pv 2) af (aT _)) (au (aK (aO (ae (aH hu (aS (ae aR (ae aR (ae aR aa)))) (pv 2)) (ae (aL aD hr (ae (pv 0) (ae (pv 1) aa))) (ae (aL b7 hr (ae (pv 0) (ae (pv 1) aa))) aa)))))) aP)
   (aj (bg (aM gd (pv 2) af (aT _)) (au (aK (aO (ae aR (ae (aL aD hr (ae (pv 0) (ae af aa))) (ae (aL b7 hr (ae (pv 0) (ae (pv 1) aa))) aa)))))) aP)
   (aj (bg (aM (bG hu) (pv 2) af (aT _)) (au (aK (aO (ae aR (ae (aL b7 hr (ae (pv 0) (ae (pv 1) aa))) aa))))) aP)
   (aj (bg (aM (bG hu) (pv 2) af (aT _)) (au (aK (aO (ae aR (ae (aL b7 hr (ae (pv 0) (ae (pv 1) aa))) aa))))) aP)
   (aj (bg (aM (bG hu) (pv 2) af (aT _)) (au (aK (aO (ae aR aa)))) aP)
   (au (aK (aO (ae aR (ae (aL b7 hr (ae (pv 0) (ae (pv 1) aa))) (ae (aL b7 hr (ae (pv 0) (ae (pv 1) aa))) (ae (aG bL af (aL aD hr (ae (pv 0) (ae af aa)))) aa))))))))))))),?_⟩
  right
  refine⟨p,10,rfl,hp,by decide +kernel,by decide +kernel,λd H1 h1 h2 st=>?_⟩
  have A7:m.natAbs.log2 < 9000:=by
   have:m=1\/m=2\/m=3\/m=4:=by omega
   rcases this with rfl | rfl | rfl | rfl <;> decide +kernel
  have mh:d=0\/d=1\/d=2\/d=3\/d=4\/d=5\/d=6\/d=7\/d=8\/d=9:=L3 (by assumption) (by assumption)
  rcases mh with rfl | rfl | rfl | rfl | rfl | rfl | rfl | rfl | rfl | rfl
  ·walk_at "go"
   refine⟨by decide,λl hl=>?_⟩
   have iZ:=st.new (o:=.lst [.str "set",.str "add",.str "times"]) hl
   refine bp ag rfl ?_
   refine dig iZ.dj h0 A7 λe H4 vV A8 pL=>?_
   have gq:=iZ.trans pL
   walk_at "go"
   refine⟨p,m,rfl,gq.dj,h0,h4,λvx v H5 gL hv gr=>?_⟩
   walk_at "go"
   exact⟨by decide,λt ht=>q _ (.set e v) _ ((gq.trans gL).new ht) (eR ag (.str _) (.int _) (hv.aY (ak.new _ ht).aZ)) ⟨vV,A8,gr⟩⟩
  ·walk_at "go"
   refine⟨by decide,λl hl=>?_⟩
   have iZ:=st.new (o:=.lst [.str "set",.str "add",.str "times"]) hl
   refine bp ag rfl ?_
   refine dig iZ.dj h0 A7 λe H4 vV A8 pL=>?_
   have gq:=iZ.trans pL
   walk_at "go"
   refine⟨p,m,rfl,gq.dj,h0,h4,λvx v H5 gL hv gr=>?_⟩
   walk_at "go"
   exact⟨by decide,λt ht=>q _ (.add e v) _ ((gq.trans gL).new ht) (eR ag (.str _) (.int _) (hv.aY (ak.new _ ht).aZ)) ⟨vV,A8,gr⟩⟩
  ·walk_at "go"
   refine⟨by decide,λl hl=>?_⟩
   have iZ:=st.new (o:=.lst [.str "set",.str "add",.str "times"]) hl
   refine bp ag rfl ?_
   refine dig iZ.dj h0 A7 λe H4 vV A8 pL=>?_
   have gq:=iZ.trans pL
   walk_at "go"
   refine⟨p,m,rfl,gq.dj,h0,h4,λvx v H5 gL hv gr=>?_⟩
   walk_at "go"
   exact⟨by decide,λt ht=>q _ (.times e v) _ ((gq.trans gL).new ht) (eR ag (.str _) (.int _) (hv.aY (ak.new _ ht).aZ)) ⟨vV,A8,gr⟩⟩
  ·walk_at "go"
   refine dig st.dj (by decide) (by decide +kernel) λe H4 vV A8 pL=>?_
   have gq:=st.trans pL
   right
   refine⟨p,m,rfl,gq.dj,h0,h4,λvx v H5 gL hv gr=>?_⟩
   right
   exact⟨by decide,λt ht=>q _ (.send e v) _ ((gq.trans gL).new ht) (eR ag (.str _) (.int _) (hv.aY (ak.new _ ht).aZ)) ⟨vV,gr⟩⟩
  ·walk_at "go"
   refine dig st.dj (by decide) (by decide +kernel) λe H4 vV A8 pL=>?_
   have gq:=st.trans pL
   right
   refine⟨p,m,rfl,gq.dj,h0,h4,λvx v H5 gL hv gr=>?_⟩
   right
   exact⟨by decide,λt ht=>q _ (.send e v) _ ((gq.trans gL).new ht) (eR ag (.str _) (.int _) (hv.aY (ak.new _ ht).aZ)) ⟨vV,gr⟩⟩
  ·walk_at "go"
   refine dig st.dj (by decide) (by decide +kernel) λe H4 vV A8 pL=>?_
   have gq:=st.trans pL
   right
   refine⟨p,m,rfl,gq.dj,h0,h4,λvx v H5 gL hv gr=>?_⟩
   right
   exact⟨by decide,λt ht=>q _ (.send e v) _ ((gq.trans gL).new ht) (eR ag (.str _) (.int _) (hv.aY (ak.new _ ht).aZ)) ⟨vV,gr⟩⟩
  ·walk_at "go"
   refine⟨p,m,rfl,st.dj,h0,h4,λvx v H5 gL hv gr=>?_⟩
   walk_at "go"
   exact⟨by decide,λt ht=>q _ (.say v) _ ((st.trans gL).new ht) (eQ ag (.str _) (hv.aY (ak.new _ ht).aZ)) gr⟩
  ·walk_at "go"
   refine⟨p,m,rfl,st.dj,h0,h4,λvx v H5 gL hv gr=>?_⟩
   walk_at "go"
   exact⟨by decide,λt ht=>q _ (.put v) _ ((st.trans gL).new ht) (eQ ag (.str _) (hv.aY (ak.new _ ht).aZ)) gr⟩
  ·walk_at "go"
   exact⟨by decide,λt ht=>q _ .drop _ (st.new ht) (k9 (n:=1) ag (.str _)) trivial⟩
  ·walk_at "go"
   refine⟨p,m,rfl,st.dj,h0,h4,λvx v H5 gL hv gr=>?_⟩
   walk_at "go"
   have vq:=st.trans gL
   refine⟨p,m,rfl,vq.dj,h0,h4,λvy v2 H6 Ck QZ Ic=>?_⟩
   have yO:=vq.trans Ck
   walk_at "go"
   refine dig yO.dj (by decide) (by decide +kernel) λe H7 vV A8 E3=>?_
   walk_at "go"
   refine⟨by decide,λt ht=>q _ (.skip v v2 (1 + e)) _ ((yO.trans E3).new ht) ?_ ⟨gr,Ic,by omega,by omega⟩⟩
   have tt:=(E3.aZ yO.dj).trans (ak.new (.tup [.str "skip",vx,vy,.int (1 + e)]) ht).aZ
   exact E2 ag (.str _) (hv.aY ((Ck.aZ vq.dj).trans tt)) (QZ.aY tt) (.int _)
abbrev eU:Stmt:=top 57
theorem Step.free{p b:Addr}{H H':Hp}(st:Step p H H')(h:H' b=none):H b=none:=by
 cases e:H b with
 | none=>rfl
 | some o=>
  by_cases hb:b=p
  ·subst hb
   obtain⟨x,e2,_⟩:=st.dj
   rw[h] at e2;cases e2
  ·rw[st.rest b o e hb] at h;cases h
theorem yP (h0:0 < m)(h:m<=1000000000000):m.natAbs.log2 < 9000:=(Nat.log2_lt (by omega)).mpr (Nat.lt_of_le_of_lt (show m.natAbs<=1000000000000 by omega) (by decide +kernel))
def mods (d:Int):List V:=[.int 2,.int 3,.int 7,.int 10,.int 97,.int (2 + d)]
theorem A9 {d k:Int}(h0:0<=d)(h1:d < 10 ^ Int.toNat 12 - 1)(k0:0<=k)(k1:k < 6):∃z:Int,iF (mods d) k=some (.int z)/\2<=z/\z<=1000000000000:=by
 have e:(10:Int) ^ Int.toNat 12=1000000000000:=by decide +kernel
 rw[e] at h1
 have:k=0\/k=1\/k=2\/k=3\/k=4\/k=5:=by omega
 rcases this with rfl | rfl | rfl | rfl | rfl | rfl
 ·exact⟨_,aq (j:=0) rfl,by decide,by decide⟩
 ·exact⟨_,aq (j:=1) rfl,by decide,by decide⟩
 ·exact⟨_,aq (j:=2) rfl,by decide,by decide⟩
 ·exact⟨_,aq (j:=3) rfl,by decide,by decide⟩
 ·exact⟨_,aq (j:=4) rfl,by decide,by decide⟩
 ·exact⟨_,aq (j:=5) rfl,by omega,by omega⟩
def pM:Sp:=λvs H Q _=>∃p,vs=[.ref p]/\cC H p/\∀t ln lr ld xs M ns row ds H',Step p H H'->H' t=some (.tup [.int M,.ref ln,.ref lr,.ref ld])->H' ln=some (.lst (ns.map V.int))->H' lr=some (.lst (row.map V.int))->H' ld=some (.lst xs)->gQ H' 2 xs (ds.map b8.dv)->H ln=none->H lr=none->H ld=none->Good M ns row ds->Q (.ref t) H'
theorem lW (D:cJ K mg "_law_machine" "_law_machine" eU ["_law_pot_here"])(T:Tx K mg C CN F FD)(hX:Def P w K mg base "_law_deed" 3 ["_law_pot_here","_law_many"] pK)(aD:Def P w K mg base "_law_digit" 1 ["_law_pot_here","_law_many"] fC):Def P w K mg base "_law_machine" 4 ["_law_pot_here"] pM:=by
 have sc:aI ["_law_pot_here","_law_modulus","_law_many","_law_numbers","_law_row","_law_deeds"] ["_law_pot_here"] (av eU):=by walk_at "s"
 symm
 ·obtain⟨p,rfl,hp,q⟩:=h
  rfl
 ·obtain⟨p,rfl,hp,q⟩:=h
  have hu:=hr.units
  refine⟨_,(aj (bj (i:=1) sc.nd rfl (by grind) (aH hu (aS (ae af (ae af (ae af (ae af (ae af (ae (aG bL af (aL aD hr (ae (pv 0) (ae (aG cB (aG dD af af) af) aa)))) aa))))))) (aL aD hr (ae (pv 0) (ae af aa)))))
   (aj (bj (i:=2) sc.nd rfl (by grind) (aG bL af (aL aD hr (ae (pv 0) (ae af aa)))))
   (aj (cY (i:=3) sc.nd rfl (by grind) (N':=["_law_k","_law_pot_here","_law_modulus"]) (ix:=[none,some 0,some 1]) (cm rfl T.df (ae (pv 2) aa)) (λ_ _ _ _=>(bf (i:=0) (show(["_law_k","_law_pot_here","_law_modulus"]:List Str).Nodup by decide +kernel) rfl (by grind))) rq (λ_ _ _ _=>(aL aD hr (ae (pv 1) (ae (pv 2) aa)))))
   (aj (cY (i:=4) sc.nd rfl (by grind) (N':=["_law_k","_law_pot_here","_law_modulus"]) (ix:=[none,some 0,some 1]) (cm rfl T.df (ae (aL aD hr (ae (pv 0) (ae af aa))) aa)) (λ_ _ _ _=>(bf (i:=0) (show(["_law_k","_law_pot_here","_law_modulus"]:List Str).Nodup by decide +kernel) rfl (by grind))) rq (λ_ _ _ _=>(aL aD hr (ae (pv 1) (ae (pv 2) aa)))))
   (aj (cY (i:=5) sc.nd rfl (by grind) (N':=["_law_k","_law_pot_here","_law_many"]) (ix:=[none,some 0,some 2]) (cm rfl T.df (ae (aL aD hr (ae (pv 0) (ae af aa))) aa)) (λ_ _ _ _=>(bf (i:=0) (show(["_law_k","_law_pot_here","_law_many"]:List Str).Nodup by decide +kernel) rfl (by grind))) rq (λ_ _ _ _=>(aL hX hr (ae (pv 1) (ae (pv 2) aa)))))
   (au (aK (aO (ae (pv 1) (ae (pv 3) (ae (pv 4) (ae (pv 5) aa)))))))))))),?_⟩
  right
  refine⟨ER,?_⟩
  refine dig hp Ib EV λd0 H1 qi L4 HY=>?_
  right
  refine⟨by decide,λl hl=>?_⟩
  have rV:=HY.new (o:=.lst (mods d0)) hl
  have L5:l≠p:=Step.ne HY.dj hl
  refine dig rV.dj (by decide) (by decide +kernel) λk H3 L6 L7 iZ=>?_
  have Ie:=rV.trans iZ
  obtain⟨M,eM,EX,pE⟩:=A9 qi L4 L6 L7
  right
  refine bp (iZ.rest _ _ ag L5) eM ?_
  right
  refine dig Ie.dj (by decide) (by decide +kernel) λm H4 L8 F3 pL=>?_
  have Ba:=Ie.trans pL
  right
  refine cR ?_
  right
  refine⟨by omega,by omega,λD hD=>?_⟩
  have F4:D≠p:=Step.ne Ba.dj hD
  refine bI (J:=vO 0 (1 + m).toNat) (n:=(1 + m).toNat) (λi ys H'=>∃ns:List Int,ys=ns.map V.int/\ns.length=i/\Step p H4 H'/\(∀z ∈ ns,0<=z/\z < M)) (Nat.le_of_lt (aA (by omega))) ⟨[],rfl,rfl,(Step.refl Ba.dj).new hD,λz hz=>by simp at hz⟩ (λi ys H' hi _=>hi) (λys H' _=>Nat.le_refl _) ?_ ?_
  ·rintro i ys H' hi fO hl ⟨ns,rfl,hn,st,hb⟩ x H2 ⟨rfl,rfl⟩
   refine⟨Ext.set (Ext.refl _) rfl,?_⟩
   right
   rw[if_pos trivial]
   refine dig st.dj (by omega) (yP (by omega) pE) λd H3 h3 h4 iZ=>?_
   refine cH (iZ.rest _ _ fO F4) hl hi (Nat.le_of_lt (aA (by omega))) ⟨ns++[d],by simp,by simp[hn],?_,λz hz=>?_⟩
   ·exact⟨iZ.dj.upd (Ne.symm F4),λb o e ne=>by rw[ay (ao e hD)];exact iZ.rest _ _ (st.rest _ _ e ne) ne⟩
   ·rcases List.mem_append.mp hz with z1 | z1
    ·exact hb z z1
    ·simp at z1;subst z1;exact⟨h3,h4⟩
  rintro ys H5 en T8 ⟨ns,rfl,hn,gL,Q0⟩
  have fD:H D=none:=Ba.free hD
  have Ig:=Ba.trans gL
  refine cR ?_
  right
  refine dig Ig.dj (by decide) (by decide +kernel) λm6 H6 OA OB Ck=>?_
  have Bb:=Ig.trans Ck
  have Q8:=Ck.rest _ _ en F4
  right
  refine⟨by omega,by omega,λD2 E4=>?_⟩
  have Bc:D2≠p:=Step.ne Bb.dj E4
  refine bI (J:=vO 0 m6.toNat) (n:=m6.toNat) (λi ys H'=>∃ns:List Int,ys=ns.map V.int/\ns.length=i/\Step p H6 H'/\(∀z ∈ ns,0<=z/\z < M)) (Nat.le_of_lt (aA (by omega))) ⟨[],rfl,rfl,(Step.refl Bb.dj).new E4,λz hz=>by simp at hz⟩ (λi ys H' hi _=>hi) (λys H' _=>Nat.le_refl _) ?_ ?_
  ·rintro i ys H' hi fO hl ⟨ns,rfl,hn,st,hb⟩ x H2 ⟨rfl,rfl⟩
   refine⟨Ext.set (Ext.refl _) rfl,?_⟩
   right
   rw[if_pos trivial]
   refine dig st.dj (by omega) (yP (by omega) pE) λd H3 h3 h4 iZ=>?_
   refine cH (iZ.rest _ _ fO Bc) hl hi (Nat.le_of_lt (aA (by omega))) ⟨ns++[d],by simp,by simp[hn],?_,λz hz=>?_⟩
   ·exact⟨iZ.dj.upd (Ne.symm Bc),λb o e ne=>by rw[ay (ao e E4)];exact iZ.rest _ _ (st.rest _ _ e ne) ne⟩
   ·rcases List.mem_append.mp hz with z1 | z1
    ·exact hb z z1
    ·simp at z1;subst z1;exact⟨h3,h4⟩
  rintro ys H7 er T9 ⟨row,rfl,Ua,E3,EZ⟩
  have Q9:H D2=none:=Bb.free E4
  have Ih:=Bb.trans E3
  have Ra:=E3.rest _ _ Q8 F4
  refine cR ?_
  right
  refine dig Ih.dj (by decide) (by decide +kernel) λm8 H8 Ub Uc zS=>?_
  have Bd:=Ih.trans zS
  have Rb:=zS.rest _ _ Ra F4
  have Rc:=zS.rest _ _ er Bc
  right
  refine⟨by omega,by omega,λD3 JW=>?_⟩
  have Ii:D3≠p:=Step.ne Bd.dj JW
  have Rf:H D3=none:=Bd.free JW
  refine bI (J:=vO 0 m8.toNat) (n:=m8.toNat) (λi ys H'=>∃ds:List b8,gQ H' 2 ys (ds.map b8.dv)/\ds.length=i/\(∀d' ∈ ds,d'.ok (1 + m))/\Step p H8 H') (Nat.le_of_lt (aA (by omega))) ⟨[],gQ.nil,rfl,λd' mh=>by simp at mh,(Step.refl Bd.dj).new JW⟩ (λi ys H' hi _=>hi) (λys H' _=>Nat.le_refl _) ?_ ?_
  ·rintro i ys H' hi fO Ij ⟨ds,vo,OC,E5,zT⟩ x H9 ⟨rfl,rfl⟩
   refine⟨Ext.set (Ext.refl _) rfl,?_⟩
   right
   rw[if_pos trivial]
   refine⟨p,1 + m,rfl,zT.dj,by omega,by omega,λdx dd OD Be yQ Ik=>?_⟩
   have Il:=Be.rest _ _ fO Ii
   have Rg:bX OD (upd OD D3 (.lst (ys++[dx]))):=(bX.refl _).upd λzs e=>by rw[Il] at e;cases e
   refine cH Il Ij hi (Nat.le_of_lt (aA (by omega))) ⟨ds++[dd],?_,by simp[OC],?_,?_⟩
   ·rw[List.map_append]
    exact((vo.aY (Be.aZ zT.dj)).snoc yQ).aY Rg
   ·intro d' mh
    rcases List.mem_append.mp mh with z | z
    ·exact E5 d' z
    ·simp at z;subst z;exact Ik
   ·exact⟨Be.dj.upd (Ne.symm Ii),λb o e ne=>by rw[ay (ao e JW)];exact Be.rest _ _ (zT.rest _ _ e ne) ne⟩
  rintro ys H9 ed Ud ⟨ds,vo,OC,E5,zT⟩
  have L9:=Bd.trans zT
  right
  refine⟨by show 4<=sizeLine;decide,λt ht=>?_⟩
  have oi:=ak.new (.tup [.int M,.ref D,.ref D2,.ref D3]) ht
  refine q t D D2 D3 ys M ns row ds _ (L9.new ht) ag (oi _ _ (zT.rest _ _ Rb F4)) (oi _ _ (zT.rest _ _ Rc Bc)) (oi _ _ ed) (vo.aY oi.aZ) fD Q9 Rf ⟨EX,pE,by omega,by omega,by omega,Q0,EZ,by omega,λd hd=>?_⟩
  rw[hn]
  have e:(((1 + m).toNat:Nat):Int)=1 + m:=by omega
  rw[e]
  exact E5 d hd
def eV (H:Hp)(x:V)(M:Int)(ns row:List Int)(ds:List b8):Prop:=∃t ln lr ld xs,x=.ref t/\H t=some (.tup [.int M,.ref ln,.ref lr,.ref ld])/\H ln=some (.lst (ns.map V.int))/\H lr=some (.lst (row.map V.int))/\H ld=some (.lst xs)/\gQ H 2 xs (ds.map b8.dv)
theorem eV.cv{x:V}{ds:List b8}(s:Cv H H')(h:eV H x M ns row ds):eV H' x M ns row ds:=by
 obtain⟨t,ln,lr,ld,xs,e,h1,h2,h3,h4,h5⟩:=h
 exact⟨t,ln,lr,ld,xs,e,s _ _ h1 (λk z=>by cases z),s _ _ h2 (λk z=>by cases z),s _ _ h3 (λk z=>by cases z),s _ _ h4 (λk z=>by cases z),h5.aY s.aZ⟩
def yR (H:Hp)(mv:List V)(gR:List MD):Prop:=mv.length=gR.length/\∀(i:Nat) v d,mv[i]?=some v->gR[i]?=some d->eV H v d.M d.ns d.row d.ds
def vt (H H':Hp):Prop:=∀b o,H b=some o->(∀k,o≠.own k)->H' b=some o
theorem vt.aZ(h:vt H H'):bX H H':=λb xs e=>h b _ e (λk z=>by cases z)
theorem _root_.L2.ak.zU(s:ak H H'):vt H H':=λb o e _=>s b o e
theorem vt.trans(a:vt H H1)(b:vt H1 H2):vt H H2:=λc o e n=>b c o (a c o e n) n
theorem eV.zU{x:V}{ds:List b8}(s:vt H H')(h:eV H x M ns row ds):eV H' x M ns row ds:=by
 obtain⟨t,ln,lr,ld,xs,e,h1,h2,h3,h4,h5⟩:=h
 exact⟨t,ln,lr,ld,xs,e,s _ _ h1 (λk z=>by cases z),s _ _ h2 (λk z=>by cases z),s _ _ h3 (λk z=>by cases z),s _ _ h4 (λk z=>by cases z),h5.aY s.aZ⟩
theorem yR.zU{gR:List MD}(s:vt H H')(h:yR H mv gR):yR H' mv gR:=⟨h.1,λi v d a b=>(h.2 i v d a b).zU s⟩
theorem yR.nil:yR H [] []:=⟨rfl,λi v d a=>by simp at a⟩
theorem yR.snoc{gR:List MD}{v:V}{d:MD}(h:yR H mv gR)(g:eV H v d.M d.ns d.row d.ds):yR H (mv++[v]) (gR++[d]):=by
 refine⟨by simp[h.1],λi y e a b=>?_⟩
 by_cases hi:i < mv.length
 ·rw[List.getElem?_append_left hi] at a
  rw[List.getElem?_append_left (by rw[<-h.1];exact hi)] at b
  exact h.2 i _ _ a b
 ·rw[List.getElem?_append_right (by omega)] at a
  rw[List.getElem?_append_right (by rw[<-h.1];omega),<-h.1] at b
  cases hj:i - mv.length with
  | zero=>rw[hj] at a b;cases a;cases b;exact g
  | succ k=>rw[hj] at a;simp at a
def mask (a b c:Addr)(H:Hp):Hp:=λx=>if x=a\/x=b\/x=c then some (.own 0) else H x
theorem iT {c x:Addr}(h1:x≠a)(h2:x≠b)(h3:x≠c):mask a b c H x=H x:=by unfold mask;rw[if_neg (by simp[h1,h2,h3])]
theorem mP {c x:Addr}(h:mask a b c H x=some o)(ho:∀k,o≠.own k):x≠a/\x≠b/\x≠c/\H x=some o:=by
 unfold mask at h
 split at h
 ·cases h;exact absurd rfl (ho 0)
 ·rename_i hn
  simp only[not_or] at hn
  exact⟨hn.1,hn.2.1,hn.2.2,h⟩
theorem yS {c:Addr}:vt (mask a b c H) H:=λx o e n=>(mP e n).2.2.2
theorem pN {c:Addr}(h:∀x o,x≠a->x≠b->x≠c->H x=some o->H' x=some o):vt (mask a b c H) (mask a b c H'):=λx o e n=>by
 obtain⟨h1,h2,h3,h4⟩:=mP e n
 rw[iT h1 h2 h3]
 exact h x o h1 h2 h3 h4
theorem vv {c t ln lr ld:Addr}{ds:List b8}(h1:H t=some (.tup [.int M,.ref ln,.ref lr,.ref ld]))(h2:H ln=some (.lst (ns.map V.int)))(h3:H lr=some (.lst (row.map V.int)))(h4:H ld=some (.lst xs))(h5:gQ H 2 xs (ds.map b8.dv))
  (l1:∃ys,H a=some (.lst ys)) (l2:∃ys,H b=some (.lst ys)) (l3:∃ys,H c=some (.lst ys)) (n1:ln≠a/\ln≠b/\ln≠c) (n2:lr≠a/\lr≠b/\lr≠c) (n3:ld≠a/\ld≠b/\ld≠c):eV (mask a b c H) (.ref t) M ns row ds:=by
 obtain⟨y1,l1⟩:=l1
 obtain⟨y2,l2⟩:=l2
 obtain⟨y3,l3⟩:=l3
 have tk:bX H (mask a b c H):=λx ys e=>by
  rw[iT (λz=>by rw[z,l1] at e;cases e) (λz=>by rw[z,l2] at e;cases e) (λz=>by rw[z,l3] at e;cases e)]
  exact e
 exact⟨t,ln,lr,ld,xs,rfl,tk _ _ h1,by rw[iT n1.1 n1.2.1 n1.2.2];exact h2,by rw[iT n2.1 n2.2.1 n2.2.2];exact h3,by rw[iT n3.1 n3.2.1 n3.2.2];exact h4,h5.aY tk⟩
structure Im (gR:List MD)(ws:List (Int×Int×Str))(ls:List (Int×Int)):Prop where
 m1:1<=gR.length
 m5:gR.length<=5
 zQ:ws.length<=10
 Cm:ls.length<=20
 mg:∀d ∈ gR,d.good
 wo:∀w ∈ ws,j0 gR.length w
 lo:∀l ∈ ls,j1 ws.length l
abbrev jw:Stmt:=top 58
def tI (K:W.Frag):Sp:=λvs H Q _=>∃(a:Addr) (ns:List Int),vs=[.ref a]/\aX K H a (ns.map V.int)/\ns.length<=63/\∀t am aw al mv wv lv gR ws ls H',ak H H'->H' t=some (.tup [.ref am,.ref aw,.ref al])->H' am=some (.lst mv)->H' aw=some (.lst wv)->H' al=some (.lst lv)->yR H' mv gR->gQ H' 1 wv (ws.map dg)->gQ H' 1 lv (ls.map fF)->Im gR ws ls->Q (.ref t) H'
theorem vw (D:cJ K mg "_law_net" "_law_net" jw ["_law_script"])(T:Tx K mg C CN F FD)(dh:Def P w K mg base "_law_at" 1 ["_law_script","_law_k"] (yD K))(aD:Def P w K mg base "_law_digit" 1 ["_law_pot_here","_law_many"] fC)(eW:Def P w K mg base "_law_machine" 4 ["_law_pot_here"] pM)(fG:Def P w K mg base "_law_pot" 1 ["_law_cell"] yF):Def P w K mg base "_law_net" 5 ["_law_script"] (tI K):=by
 have sc:aI ["_law_script","_law_many","_law_machines","_law_pot_here","_law_ways","_law_k","_law_letters","_law_said"] ["_law_script"] (av jw):=by walk_at "s"
 symm
 ·obtain⟨a,ns,rfl,hS,Rh,q⟩:=h
  rfl
 ·obtain⟨a,ns,rfl,hS,Rh,q⟩:=h
  have hu:=hr.units
  refine⟨_,(aj (bj (i:=1) sc.nd rfl (by grind) (aG bL af (aG bt (aL dh hr (ae (pv 0) (ae af aa))) af)))
   (aj (cY (i:=2) sc.nd rfl (by grind) (N':=["_law_k","_law_script"]) (ix:=[none,some 0]) (cm rfl T.df (ae (pv 1) aa)) (λ_ _ _ _=>(bf (i:=0) (show(["_law_k","_law_script"]:List Str).Nodup by decide +kernel) rfl (by grind))) rq (λ_ _ _ _=>(aL eW hr (ae (aL fG hr (ae (aL dh hr (ae (pv 1) (ae (aG bL af (pv 0)) aa))) aa)) aa))))
   (aj (bj (i:=3) sc.nd rfl (by grind) (aL fG hr (ae (aL dh hr (ae (pv 0) (ae af aa))) aa)))
   (aj (bj (i:=4) sc.nd rfl (by grind) (aS aa))
   (aj (eP PassesOwn.never rfl (cm rfl T.df (ae (aL aD hr (ae (pv 3) (ae af aa))) aa)) (bf (i:=5) sc.nd rfl (by grind))
   (au (dX (gO tV zK zL dE (pv 4) (ae (aO (ae (aL aD hr (ae (pv 3) (ae (pv 1) aa))) (ae (aL aD hr (ae (pv 3) (ae (pv 1) aa))) (ae (aH hu (aS (ae aR (ae aR aa))) (aL aD hr (ae (pv 3) (ae af aa)))) aa)))) aa)))))
   (aj (bj (i:=3) sc.nd rfl (by grind) (aL fG hr (ae (aL dh hr (ae (pv 0) (ae af aa))) aa)))
   (aj (bj (i:=6) sc.nd rfl (by grind) (aS aa))
   (aj (eP PassesOwn.never rfl (cm rfl T.df (ae (aL aD hr (ae (pv 3) (ae af aa))) aa)) (bf (i:=5) sc.nd rfl (by grind))
   (au (bg (aM (jd hu) (pv 4) (aS aa) (aT _)) (aj (bj (i:=7) sc.nd rfl (by grind) (aH hu (aS (ae (aL aD hr (ae (pv 3) (ae af aa))) (ae (aL aD hr (ae (pv 3) (ae (aG dD af af) aa))) aa))) (aL aD hr (ae (pv 3) (ae af aa)))))
   (au (dX (gO tV zK zL dE (pv 6) (ae (aO (ae (aL aD hr (ae (pv 3) (ae (aV aU rfl T.bW PySem.boot_len (ae (pv 4) aa)) aa))) (ae (pv 7) aa))) aa))))) aP)))
   (au (aK (aO (ae (pv 2) (ae (pv 4) (ae (pv 6) aa)))))))))))))),?_⟩
  right
  refine⟨a,ns,_,rfl,hS,by omega,λc0=>⟨(by decide:(0:Int) < 5),?_⟩⟩
  have Ue:=Int.emod_nonneg c0 (b:=5) (by decide)
  have Ug:=Int.emod_lt_of_pos c0 (b:=5) (by decide)
  right
  refine cR ?_
  right
  refine⟨by omega,by omega,λD hD=>?_⟩
  refine bI (J:=vO 0 (1 + c0 % 5).toNat) (n:=(1 + c0 % 5).toNat) (λi ys H'=>ak H H'/\∃gR,gR.length=i/\yR (mask D D D H') ys gR/\∀d ∈ gR,d.good) (Nat.le_of_lt (aA (by omega))) ⟨ak.new _ hD,[],rfl,yR.nil,λd hd=>by simp at hd⟩ (λi ys H' hi _=>hi) (λys H' _=>Nat.le_refl _) ?_ ?_
  ·rintro i ys H1 hi fO hl ⟨s1,gR,A7,hM,Ma⟩ x H2 ⟨rfl,rfl⟩
   refine⟨Ext.set (Ext.refl _) rfl,?_⟩
   right
   rw[if_pos trivial]
   refine⟨a,ns,_,rfl,s1.seq hS,by omega,λc1=>⟨c1,rfl,λp F5 hp lL=>⟨p,rfl,⟨_,ag,lL⟩,λt ln lr ld xs M Ri row ds H3 st h1 h2 h3 h4 h5 f1 f2 f3 hg=>?_⟩⟩⟩
   have q3:∀b o,H2 b=some o->H3 b=some o:=λb o e=>st.rest b o ((ak.new _ hp) _ _ e) (ao e hp)
   have JX:=q3 _ _ fO
   have p1:=(ak.new (.lst (F5.map V.int)) hp) _ _ fO
   have nD:∀{b:Addr},upd H2 p (.lst (F5.map V.int)) b=none->b≠D:=λf=>Ne.symm (ao p1 f)
   refine cH JX hl hi (Nat.le_of_lt (aA (by omega))) ⟨λb o e=>by rw[ay (ao e hD)];exact q3 _ _ (s1 _ _ e),gR++[⟨M,Ri,row,ds⟩],by simp[A7],?_,λd hd=>?_⟩
   ·have c4:vt (mask D D D H2) (mask D D D (upd H3 D (.lst (ys++[.ref t])))):=pN λb o b1 b2 b3 e=>by rw[ay b1];exact q3 _ _ e
    have c5:vt (mask D D D H3) (mask D D D (upd H3 D (.lst (ys++[.ref t])))):=pN λb o b1 b2 b3 e=>by rw[ay b1];exact e
    exact(hM.zU c4).snoc (eV.zU c5 (vv h1 h2 h3 h4 h5 ⟨_,JX⟩ ⟨_,JX⟩ ⟨_,JX⟩ ⟨nD f1,nD f1,nD f1⟩ ⟨nD f2,nD f2,nD f2⟩ ⟨nD f3,nD f3,nD f3⟩))
   ·rcases List.mem_append.mp hd with hd | hd
    ·exact Ma d hd
    ·simp only[List.mem_singleton] at hd;subst hd;exact hg
  rintro mv H1 Bf hl ⟨s1,gR,A7,Rj,Ma⟩
  have hM:=Rj.zU yS
  generalize Uh:D=am at *
  right
  refine⟨a,ns,_,rfl,s1.seq hS,by omega,λc6=>⟨c6,rfl,λp F5 hp lL=>?_⟩⟩
  have s2:=ak.new (.lst (F5.map V.int)) hp
  have j6:cC (upd H1 p (.lst (F5.map V.int))) p:=⟨_,ag,lL⟩
  generalize F2:upd H1 p (.lst (F5.map V.int))=G2 at *
  right
  refine⟨Nat.zero_le _,λaw pO=>?_⟩
  have s3:=ak.new (.lst []) pO
  have zV:aw≠p:=Step.ne j6 pO
  have pP:=j6.same s3
  have Rk:upd G2 aw (.lst []) aw=some (.lst []):=ag
  have Rl:H1 aw=none:=s2.free pO
  have Rm:=s2.trans s3
  generalize F6:upd G2 aw (.lst [])=G3 at *
  refine⟨_,rfl,p,11,rfl,pP,by decide,by decide +kernel,λd4 H4 Ui Uj pL=>?_⟩
  refine⟨d4,rfl,by omega,by omega,fu (n:=d4.toNat) (λi σ H'=>(∃z5,σ=[some (.ref a),some (.int (1 + c0 % 5)),some (.ref am),some (.ref p),some (.ref aw),z5,none,none])/\cC H' p/\ak H1 H'/\∃(wv:List V) (ws:List (Int×Int×Str)),H' aw=some (.lst wv)/\gQ H' 1 wv (ws.map dg)/\ws.length=i/\∀w ∈ ws,j0 (1 + c0 % 5) w) ?_ ?_ ?_⟩
  ·exact⟨⟨_,rfl⟩,pL.dj,pL.over Rm hp,[],[],pL.rest _ _ Rk zV,gQ.nil,rfl,λw hw=>by simp at hw⟩
  ·rintro i σ H5 hi ⟨⟨z5,rfl⟩,pQ,s5,wv,ws,zW,hW,uC,Mb⟩
   have yT:wv.length=i:=by have:=hW.1;simp at this;omega
   right
   refine⟨.inl ⟨rfl,_,aX.of zW⟩,?_⟩
   have l5:(1 + c0 % 5).natAbs.log2 < 9000:=by
    have:1 + c0 % 5=1\/1 + c0 % 5=2\/1 + c0 % 5=3\/1 + c0 % 5=4\/1 + c0 % 5=5:=by omega
    rcases this with e | e | e | e | e <;> (rw[e];decide +kernel)
   refine dig pQ (by omega) l5 λe1 H6 OA OB Ck=>?_
   right
   refine dig Ck.dj (by omega) l5 λe2 H7 Rn Ro E3=>?_
   have Io:=Ck.trans E3
   right
   refine⟨cQ,λl hl=>?_⟩
   have zS:=Io.new (o:=.lst [.str "row",.str "heap"]) hl
   have L5:l≠p:=Step.ne Io.dj hl
   refine dig zS.dj (by decide) (by decide +kernel) λk H9 L6 L7 zT=>?_
   have Mc:=zS.trans zT
   obtain⟨w3,F7,Rp⟩:∃w3:Str,iF [V.str "row",V.str "heap"] k=some (.str w3)/\(w3="row"\/w3="heap"):=by
    have:k=0\/k=1:=by omega
    rcases this with rfl | rfl
    ·exact⟨_,aq (j:=0) rfl,.inl rfl⟩
    ·exact⟨_,aq (j:=1) rfl,.inr rfl⟩
   right
   refine bp (zT.rest _ _ ag L5) F7 ?_
   right
   refine⟨by show 3<=sizeLine;decide,λt ht=>?_⟩
   have Bg:=Mc.new (o:=.tup [.int e1,.int e2,.str w3]) ht
   have Ip:=Bg.rest _ _ zW zV
   have eT:upd H9 t (.tup [.int e1,.int e2,.str w3]) t=some (.tup [.int e1,.int e2,.str w3]):=ag
   have Md:=Bg.dj
   have tA:=Bg.aZ pQ
   have sA:ak H1 (upd H9 t (.tup [.int e1,.int e2,.str w3])):=Bg.over s5 hp
   generalize Rq:upd H9 t (.tup [.int e1,.int e2,.str w3])=GA at *
   have tB:bX GA (upd GA aw (.lst (wv++[.ref t]))):=(bX.refl _).upd λys e=>by rw[Ip] at e;cases e
   refine⟨_,Ip,aA (by omega),⟨_,rfl⟩,Md.upd (Ne.symm zV),λb o e=>by rw[ay (ao e Rl)];exact sA _ _ e,wv++[.ref t],ws++[(e1,e2,w3)],ag,?_,by simp[uC],λw hw=>?_⟩
   ·have h6:=((hW.aY tA).snoc (eR (n:=0) eT (.int e1) (.int e2) (.str w3))).aY tB
    simpa[dg] using h6
   ·rcases List.mem_append.mp hw with hw | hw
    ·exact Mb w hw
    ·simp only[List.mem_singleton] at hw;subst hw;exact⟨OA,OB,Rn,Ro,Rp⟩
  rintro σ H5 ⟨⟨z5,rfl⟩,pQ,s5,wv,ws,zW,hW,uC,Mb⟩
  have yT:wv.length=ws.length:=by have:=hW.1;simpa using this
  have Iq:=s5 _ _ Bf
  have Rr:=hM.zU s5.zU
  right
  refine⟨a,ns,_,rfl,(s1.trans s5).seq hS,by omega,λc7=>⟨c7,rfl,λp' Me sP Mf=>?_⟩⟩
  have s6:=ak.new (.lst (Me.map V.int)) sP
  have zX:cC (upd H5 p' (.lst (Me.map V.int))) p':=⟨_,ag,Mf⟩
  generalize A6:upd H5 p' (.lst (Me.map V.int))=G6 at *
  right
  refine⟨Nat.zero_le _,λal qj=>?_⟩
  have s7:=ak.new (.lst []) qj
  have yU:al≠p':=Step.ne zX qj
  have JY:=zX.same s7
  have Rt:upd G6 al (.lst []) al=some (.lst []):=ag
  have Ru:H5 al=none:=s6.free qj
  have JZ:=s6.trans s7
  generalize J0:upd G6 al (.lst [])=G7 at *
  refine⟨_,rfl,p',13,rfl,JY,by decide,by decide +kernel,λd8 H8 Rv Rw zS=>?_⟩
  refine⟨d8,rfl,by omega,by omega,fu (n:=d8.toNat) (λi σ H'=>(∃z5 z8,σ=[some (.ref a),some (.int (1 + c0 % 5)),some (.ref am),some (.ref p'),some (.ref aw),z5,some (.ref al),z8])/\cC H' p'/\ak H5 H'/\∃(lv:List V) (ls:List (Int×Int)),H' al=some (.lst lv)/\gQ H' 1 lv (ls.map fF)/\ls.length<=i/\∀l ∈ ls,j1 ws.length l) ?_ ?_ ?_⟩
  ·exact⟨⟨_,_,rfl⟩,zS.dj,zS.over JZ sP,[],[],zS.rest _ _ Rt yU,gQ.nil,Nat.le_refl _,λw hw=>by simp at hw⟩
  ·rintro i σ H9 hi ⟨⟨z5,z8,rfl⟩,tJ,s9,lv,ls,F8,hL,Ij,BV⟩
   have Rx:lv.length=ls.length:=by have:=hL.1;simpa using this
   have Mg:=s9 _ _ zW
   right
   refine⟨Nat.zero_le _,λl0 Ry=>?_⟩
   have oi:=ak.new (.lst []) Ry
   have yV:=oi _ _ Mg
   have OE:upd H9 l0 (.lst []) l0=some (.lst []):=ag
   have yW:=oi _ _ F8
   have E6:=tJ.same oi
   have Ir:=s9.trans oi
   have Iu:=hL.aY oi.aZ
   generalize Rz:upd H9 l0 (.lst [])=Uk at *
   cases ws with
   | nil=>
    have RA:wv=[]:=by simpa using yT
    subst RA
    refine .inl ⟨.inr ⟨_,_,_,_,rfl,rfl,.inr ⟨aX.of yV,aX.of OE⟩,rfl,λj u v hu=>by simp at hu⟩,?_⟩
    right
    try rw[if_neg Bool.false_ne_true]
    exact⟨⟨_,_,rfl,rfl⟩,E6,Ir,lv,ls,yW,Iu,by omega,BV⟩
   | cons w0 wr=>
    have OF:0 < (wv.length:Int):=by rw[yT];simp
    have RB:wv.length<=10:=by omega
    refine .inr ⟨⟨_,_,by simp[yT],.inl ⟨aX.of yV,aX.of OE⟩⟩,?_⟩
    right
    try rw[if_pos trivial]
    have lw:((wv.length:Nat):Int).natAbs.log2 < 9000:=yP OF (by omega)
    refine dig E6 (by decide) (by decide +kernel) λe2 Ul RC RD Iv=>?_
    right
    refine⟨gY,dig Iv.dj ET EU λe3 Um RE Mh Mi=>?_⟩
    have yX:=Iv.trans Mi
    right
    refine⟨cQ,λRF Iw=>?_⟩
    have Iy:=yX.new (o:=.lst [.int e2,.int e3]) Iw
    have Mj:RF≠p':=Step.ne yX.dj Iw
    refine dig Iy.dj (by decide) (by decide +kernel) λk Uo L6 L7 vq=>?_
    have nP:=Iy.trans vq
    have F9:(10:Int) ^ Int.toNat 60=1000000000000000000000000000000000000000000000000000000000000:=by decide +kernel
    rw[F9] at Mh
    obtain⟨z,ez,Ml,uM⟩:∃z:Int,iF [V.int e2,V.int e3] k=some (.int z)/\1 - 1000000000000000000000000000000000000000000000000000000000000<=z/\z < 1000000000000000000000000000000000000000000000000000000000000:=by
     have:k=0\/k=1:=by omega
     rcases this with rfl | rfl
     ·exact⟨_,aq (j:=0) rfl,by omega,by omega⟩
     ·exact⟨_,aq (j:=1) rfl,by omega,by omega⟩
    right
    refine bp (vq.rest _ _ ag Mj) ez ?_
    right
    have Iz:=nP.rest _ _ yW yU
    have IA:=nP.rest _ _ yV (λz=>by rw[z,sP] at zW;cases zW)
    refine⟨.inl ⟨rfl,_,aX.of Iz⟩,?_⟩
    refine⟨_,.inl ⟨_,aX.of IA,rfl⟩,?_⟩
    refine dig nP.dj OF lw λe1 Mm Mn Mo yO=>?_
    have E7:=nP.trans yO
    right
    refine⟨cQ,λt ht=>?_⟩
    have Bg:=E7.new (o:=.tup [.int e1,.int z]) ht
    have IB:=Bg.rest _ _ yW yU
    have eT:upd Mm t (.tup [.int e1,.int z]) t=some (.tup [.int e1,.int z]):=ag
    have Md:=Bg.dj
    have tA:=Bg.aZ E6
    have sA:ak H5 (upd Mm t (.tup [.int e1,.int z])):=Bg.over Ir sP
    generalize Rq:upd Mm t (.tup [.int e1,.int z])=GA at *
    have tB:bX GA (upd GA al (.lst (lv++[.ref t]))):=(bX.refl _).upd λys e=>by rw[IB] at e;cases e
    refine⟨_,IB,aA (by omega),⟨_,_,rfl,rfl⟩,Md.upd (Ne.symm yU),λb o e=>by rw[ay (ao e Ru)];exact sA _ _ e,lv++[.ref t],ls++[(e1,z)],ag,?_,by simp;omega,λl hl=>?_⟩
    ·have h6:=((Iu.aY tA).snoc (eQ (n:=0) eT (.int e1) (.int z))).aY tB
     simpa[fF] using h6
    ·rcases List.mem_append.mp hl with hl | hl
     ·exact BV l hl
     ·simp only[List.mem_singleton] at hl;subst hl;exact⟨Mn,by have:=Mo;rw[yT] at this;exact this,Ml,uM⟩
  rintro σ H9 ⟨⟨z5,z8,rfl⟩,tJ,s9,lv,ls,F8,hL,Ij,BV⟩
  right
  refine⟨by show 3<=sizeLine;decide,λt ht=>?_⟩
  have oi:=ak.new (.tup [.ref am,.ref aw,.ref al]) ht
  refine q t am aw al mv wv lv gR ws ls _ (s1.trans (s5.trans (s9.trans oi))) ag (oi _ _ (s9 _ _ Iq)) (oi _ _ (s9 _ _ zW)) (oi _ _ F8) (Rr.zU (s9.trans oi).zU) (hW.aY (s9.trans oi).aZ) (hL.aY oi.aZ) ⟨by omega,by omega,by omega,by omega,Ma,λw hw=>?_,BV⟩
  have e:((gR.length:Nat):Int)=1 + c0 % 5:=by omega
  rw[e]
  exact Mb w hw
def ME (C:Addr)(H:Hp)(v:V)(b:Bool):Prop:=(b=true/\∃m dx fs,v=.ref m/\H m=some (.ins C dx fs))\/(b=false/\∃d,HD H 4 v d)
theorem ME.same{C:Addr}{v:V}{b:Bool}(s:ak H H')(h:ME C H v b):ME C H' v b:=by
 rcases h with⟨e,m,dx,fs,e1,e2⟩ | ⟨e,d,h⟩
 ·exact .inl ⟨e,m,dx,fs,e1,s _ _ e2⟩
 ·exact .inr ⟨e,d,h.same s⟩
def zY (C:Addr)(H:Hp)(mv:List V)(bs:List Bool):Prop:=mv.length=bs.length/\∀(i:Nat) v b,mv[i]?=some v->bs[i]?=some b->ME C H v b
theorem zY.same{C:Addr}{bs:List Bool}(s:ak H H')(h:zY C H mv bs):zY C H' mv bs:=⟨h.1,λi v b x y=>(h.2 i v b x y).same s⟩
theorem _root_.L2.d5.same{n:Nat}(s:ak H H')(h:d5 H n vs ds):d5 H' n vs ds:=⟨h.1,λi v d a b=>(h.2 i v d a b).same s⟩
theorem E8 {K:W.Frag}{C:Addr}{n:Nat}{x:V}(h1:(W.clsIn K C).isSome=true)(h2:W.typeIn K (.ref C)=some (.type "type"))(h:HD H n x d):∃t,dm K H x t/\W.kitOne K t (.ref C)=some false:=by
 have key:∀T:String,W.subIn K (.type T) (.ref C)=some false->W.kitOne K (.type T) (.ref C)=some false:=λT e=>by
  unfold W.kitOne
  rw[if_neg (by intro z;cases z)]
  show(if ((W.clsIn K C).isSome && W.typeIn K (.ref C) == some (.type "type"))=true then W.subIn K (.type T) (.ref C) else none)=_
  rw[h1,h2]
  simp only[beq_self_eq_true,Bool.and_self,if_true]
  exact e
 cases h with
 | bb=>exact⟨_,.bb,key _ (by kernel_rfl)⟩
 | bl b=>exact⟨_,.bl b,key _ (by kernel_rfl)⟩
 | int i=>exact⟨_,.int i,key _ (by kernel_rfl)⟩
 | str z=>exact⟨_,.str z,key _ (by kernel_rfl)⟩
 | lst e _ _=>exact⟨_,.lst e,key _ (by kernel_rfl)⟩
 | tup e _ _=>exact⟨_,.tup e,key _ (by kernel_rfl)⟩
 | dict e=>exact⟨_,.dK e,key _ (by kernel_rfl)⟩
def kh (lo hi n:Int):Bool:=decide (lo<=n) && decide (n<=hi)
def okN (bs:List Bool)(dw dl:List DV):Bool:=(kh 1 5 bs.length && bs.all id) && ((kh 0 10 dw.length && (dw.map (eD bs.length)).all id) && (kh 0 20 dl.length && (dl.map (dN dw.length)).all id))
theorem take_snoc {α:Type}{xs:List α}{i:Nat}{x:α}(h:xs[i]?=some x):xs.take (i + 1)=xs.take i++[x]:=by
 rw[List.take_add_one,h];rfl
theorem lz {o':HO}(ha:H a=none):ak H (upd (upd H a o) a o'):=λb p e=>by
 rw[ay (ao e ha),ay (ao e ha)];exact e
theorem pR {K:W.Frag}{E:XK}{C B:Addr}{z:Str}{D:Ends}(cl:dY K C B)(q:∀a,H a=none->E (.ref a) none (upd (upd H a (XO a C none true)) a (XO a C none false))):rj K E (Lj C (iC (tC (.str z)) lO)) D σ H:=
 ⟨Nat.le_refl _,λa ha=>⟨a,C,B,none,rfl,ag,cl,q a ha⟩⟩
abbrev fP:Stmt:=top 49
def tK (C:Addr)(c:Nat->Addr):Sp:=λvs H Q E=>∃(am aw al:Addr) (mv wv lv:List V) (bs:List Bool) (dw dl:List DV),vs=[.ref am,.ref aw,.ref al]/\H am=some (.lst mv)/\H aw=some (.lst wv)/\H al=some (.lst lv)/\zY C H mv bs/\d5 H 4 wv dw/\d5 H 4 lv dl/\(okN bs dw dl=true->∀H',ak H H'->Q .bb H')/\(okN bs dw dl=false->∀a H',ak H H'->H' a=some (XO a (c 3) none false)->E (.ref a) none H')
theorem nQ (D:cJ K mg "refuse_net" "refuse_net" fP ["machines","ways","letters"])(T:Tx K mg C CN F FD)(TX:vR K mg B c)(gs:Def P w K mg base "is_letter" 3 ["thing","many"] pG)(cV:Def P w K mg base "is_list" 1 ["things","least","most"] g9)(lA:Def P w K mg base "is_way" 3 ["thing","many"] pF):DefX P w K mg base "refuse_net" 4 ["machines","ways","letters"] (tK C c):=by
 have sc:aI ["machines","ways","letters"] ["machines","ways","letters"] (av fP):=by walk_at "s"
 refine D.yh sc (λvs H Q E h=>?_) (λf cy A outer s H vs Q E hr h=>?_)
 ·obtain⟨am,aw,al,mv,wv,lv,bs,dw,dl,rfl,vz,pO,qj,vW,vX,vY,q,qe⟩:=h
  rfl
 ·obtain⟨am,aw,al,mv,wv,lv,bs,dw,dl,rfl,vz,pO,qj,vW,vX,vY,q,qe⟩:=h
  have hu:=hr.units
  refine⟨_,(aj (bg (PW.pt (pw_or (bK (bJ (aL cV hr (ae (pv 0) (ae af (ae (dF T.bP rfl) aa)))))) (pw_or1 (bK (bJ (aV (dn rfl) rfl T.jZ CV (ae (jX (N':=["one"]) (ix:=[none]) (cZ (pv 0)) (λ_ _ _ _=>(bf (i:=0) (show(["one"]:List Str).Nodup by decide +kernel) rfl (by grind))) rq (λ_ _ _ _=>(aV (yq (K:=K) rfl) rfl T.aJ lJ (ae (pv 0) (ae (bu (v:=.ref C) rfl T.mN rfl) aa))))) aa))))))) (au (iN rfl kx (sI TX.iR (ae aR aa)))) aP)
   (aj (bg (PW.pt (pw_or (bK (bJ (aL cV hr (ae (pv 1) (ae af (ae (dF T.cU rfl) aa)))))) (pw_or1 (bK (bJ (aV (dn rfl) rfl T.jZ CV (ae (jX (N':=["way","machines"]) (ix:=[none,some 0]) (cZ (pv 1)) (λ_ _ _ _=>(bf (i:=0) (show(["way","machines"]:List Str).Nodup by decide +kernel) rfl (by grind))) rq (λ_ _ _ _=>(aL lA hr (ae (pv 0) (ae (aV (kT (K:=K) rfl) rfl T.bW PySem.boot_len (ae (pv 1) aa)) aa))))) aa))))))) (au (iN rfl kx (sI TX.iR (ae aR aa)))) aP)
   (au (bg (PW.pt (pw_or (bK (bJ (aL cV hr (ae (pv 2) (ae af (ae (dF T.b5 rfl) aa)))))) (pw_or1 (bK (bJ (aV (dn rfl) rfl T.jZ CV (ae (jX (N':=["letter","ways"]) (ix:=[none,some 1]) (cZ (pv 2)) (λ_ _ _ _=>(bf (i:=0) (show(["letter","ways"]:List Str).Nodup by decide +kernel) rfl (by grind))) rq (λ_ _ _ _=>(aL gs hr (ae (pv 0) (ae (aV (kT (K:=K) rfl) rfl T.bW PySem.boot_len (ae (pv 1) aa)) aa))))) aa))))))) (au (iN rfl kx (sI TX.iR (ae aR aa)))) aP)))),?_⟩
  have J1:=vW.1
  have zV:=vX.1
  have yU:=vY.1
  have throw:∀(z:Str) (H1:Hp) (σ:St),ak H H1->okN bs dw dl=false->rj K E (Lj (c 3) (iC (tC (.str z)) lO)) ⟨λ_ _=>True,λ_ _=>True,λ_ _=>True,λ_ _=>True⟩ σ H1:=λz H1 σ s1 e=>pR (TX.cl 3 (by decide)) λa ha=>qe e a _ (s1.trans (lz ha)) ag
  have OG:=ak.refl H
  right
  refine⟨am,_,1,_,rfl,.inl (OG _ _ vz),λRG nR=>?_⟩
  have u1:=OG.trans nR
  rw[show(decide ((1:Int)<=(mv.length:Int)) && decide ((mv.length:Int)<=5))=kh 1 5 (bs.length:Nat) by rw[J1];rfl]
  right
  cases g1:kh 1 5 (bs.length:Nat) with
  | false=>
   first | rw[if_pos (by simp)] | skip
   right
   exact throw _ _ [] u1 (by simp only[okN,g1,Bool.and_false,Bool.false_and,Bool.true_and,Bool.and_true])
  | true=>
  first | rw[if_neg (by simp)] | skip
  right
  have Bh:=u1 _ _ vz
  have z1:mv.length<=20:=by
   rw[J1]
   have:=g1
   simp only[kh,Bool.and_eq_true,decide_eq_true_eq] at this
   omega
  refine cR ?_
  right
  refine .inl ⟨⟨_,aX.of Bh⟩,λD hD=>?_⟩
  refine bI (J:=ud K am) (n:=mv.length) (λi zs H'=>zs=(bs.take i).map V.bl/\ak RG H') (Nat.le_of_lt (aA (by omega))) ⟨rfl,ak.new _ hD⟩ ?_ ?_ ?_ ?_
  ·rintro i zs H' fX ⟨_,s2⟩
   exact⟨_,mv[i],aX.of (s2 _ _ Bh),dI fX⟩
  ·rintro zs H' ⟨_,s2⟩
   exact⟨_,aX.of (s2 _ _ Bh),Nat.le_refl _⟩
  ·rintro i zs H' fX iU i0 ⟨rfl,s2⟩ x Cn ⟨rfl,hy⟩
   have ex:=hy _ (aX.of (s2 _ _ Bh))
   refine⟨Ext.set (Ext.refl _) rfl,?_⟩
   right
   first | rw[if_pos trivial] | rw[if_pos rfl]
   have t2:=u1.trans s2
   have E9:i < bs.length:=by omega
   have eb:=dI E9
   have me:=(vW.2 i x bs[i] ex eb).same t2
   have s9:=ak.refl Cn
   obtain⟨ty,ht,hk⟩:∃ty,dm K Cn x ty/\W.kitOne K ty (.ref C)=some bs[i]:=by
    rcases me with⟨e,m,dx,fs,rfl,e2⟩ | ⟨e,d,hd⟩
    ·exact⟨_,.ins e2 T.d6 T.vd T.cu T.bw T.ve,by rw[e];exact T.Ot⟩
    ·rw[e];exact E8 T.vf T.vg hd
   refine⟨_,C,_,bs[i],rfl,ht,hk,?_⟩
   refine cH (s9 _ _ iU) i0 fX (Nat.le_of_lt (aA (by omega))) ⟨by rw[take_snoc eb,List.map_append];rfl,λb o e=>?_⟩
   rw[ay (ao e hD)]
   exact s9 _ _ (s2 _ _ e)
  rintro zs Up iU i0 ⟨rfl,RH⟩
  have v1:=u1.trans RH
  right
  rw[List.take_of_length_le (by omega)] at iU
  refine⟨_,aX.of iU,?_⟩
  clear iU i0
  right
  cases f1:bs.all id with
  | false=>
   first | rw[if_pos (by simp)] | skip
   right
   exact throw _ _ [] v1 (by simp only[okN,g1,f1,Bool.and_false,Bool.false_and,Bool.true_and,Bool.and_true])
  | true=>
  first | rw[if_neg (by simp)] | skip
  right
  refine⟨aw,_,0,_,rfl,.inl (v1 _ _ pO),λRI RJ=>?_⟩
  have u2:=v1.trans RJ
  rw[show(decide ((0:Int)<=(wv.length:Int)) && decide ((wv.length:Int)<=10))=kh 0 10 (dw.length:Nat) by rw[zV];rfl]
  right
  cases g2:kh 0 10 (dw.length:Nat) with
  | false=>
   first | rw[if_pos (by simp)] | skip
   right
   exact throw _ _ [] u2 (by simp only[okN,g1,f1,g2,Bool.and_false,Bool.false_and,Bool.true_and,Bool.and_true])
  | true=>
  first | rw[if_neg (by simp)] | skip
  right
  have Bi:=u2 _ _ pO
  have z2:wv.length<=20:=by
   rw[zV]
   have:=g2
   simp only[kh,Bool.and_eq_true,decide_eq_true_eq] at this
   omega
  refine cR ?_
  right
  refine .inl ⟨⟨_,aX.of Bi⟩,λD hD=>?_⟩
  refine bI (J:=ud K aw) (n:=wv.length) (λi zs H'=>zs=((dw.map (eD (bs.length:Nat))).take i).map V.bl/\ak RI H') (Nat.le_of_lt (aA (by omega))) ⟨rfl,ak.new _ hD⟩ ?_ ?_ ?_ ?_
  ·rintro i zs H' fX ⟨_,s2⟩
   exact⟨_,wv[i],aX.of (s2 _ _ Bi),dI fX⟩
  ·rintro zs H' ⟨_,s2⟩
   exact⟨_,aX.of (s2 _ _ Bi),Nat.le_refl _⟩
  ·rintro i zs H' fX iU i0 ⟨rfl,s2⟩ x Cn ⟨rfl,hy⟩
   have ex:=hy _ (aX.of (s2 _ _ Bi))
   refine⟨Ext.set (Ext.refl _) rfl,?_⟩
   right
   first | rw[if_pos trivial] | rw[if_pos rfl]
   have t2:=u2.trans s2
   have E9:i < dw.length:=by omega
   have eb:(dw.map (eD (bs.length:Nat)))[i]?=some (eD (bs.length:Nat) dw[i]):=by rw[List.getElem?_map,dI E9];rfl
   have yQ:=(vX.2 i x dw[i] ex (dI E9)).same t2
   refine⟨_,.inl ⟨_,aX.of (t2 _ _ vz),rfl⟩,?_⟩
   refine⟨x,4,dw[i],_,rfl,yQ,λH9 s9=>?_⟩
   rw[J1]
   refine cH (s9 _ _ iU) i0 fX (Nat.le_of_lt (aA (by omega))) ⟨by rw[take_snoc eb,List.map_append];rfl,λb o e=>?_⟩
   rw[ay (ao e hD)]
   exact s9 _ _ (s2 _ _ e)
  rintro zs Uq iU i0 ⟨rfl,RK⟩
  have v2:=u2.trans RK
  right
  rw[List.take_of_length_le (by rw[List.length_map,<-zV];exact Nat.le_refl _)] at iU
  refine⟨_,aX.of iU,?_⟩
  clear iU i0
  right
  cases f2:(dw.map (eD (bs.length:Nat))).all id with
  | false=>
   first | rw[if_pos (by simp)] | skip
   right
   exact throw _ _ [] v2 (by simp only[okN,g1,f1,g2,f2,Bool.and_false,Bool.false_and,Bool.true_and,Bool.and_true])
  | true=>
  first | rw[if_neg (by simp)] | skip
  right
  refine⟨al,_,0,_,rfl,.inl (v2 _ _ qj),λRL RM=>?_⟩
  have u3:=v2.trans RM
  rw[show(decide ((0:Int)<=(lv.length:Int)) && decide ((lv.length:Int)<=20))=kh 0 20 (dl.length:Nat) by rw[yU];rfl]
  right
  cases g3:kh 0 20 (dl.length:Nat) with
  | false=>
   first | rw[if_pos (by simp)] | skip
   right
   exact throw _ _ [] u3 (by simp only[okN,g1,f1,g2,f2,g3,Bool.and_false,Bool.false_and,Bool.true_and,Bool.and_true])
  | true=>
  first | rw[if_neg (by simp)] | skip
  right
  have Bj:=u3 _ _ qj
  have z3:lv.length<=20:=by
   rw[yU]
   have:=g3
   simp only[kh,Bool.and_eq_true,decide_eq_true_eq] at this
   omega
  refine cR ?_
  right
  refine .inl ⟨⟨_,aX.of Bj⟩,λD hD=>?_⟩
  refine bI (J:=ud K al) (n:=lv.length) (λi zs H'=>zs=((dl.map (dN (dw.length:Nat))).take i).map V.bl/\ak RL H') (Nat.le_of_lt (aA (by omega))) ⟨rfl,ak.new _ hD⟩ ?_ ?_ ?_ ?_
  ·rintro i zs H' fX ⟨_,s2⟩
   exact⟨_,lv[i],aX.of (s2 _ _ Bj),dI fX⟩
  ·rintro zs H' ⟨_,s2⟩
   exact⟨_,aX.of (s2 _ _ Bj),Nat.le_refl _⟩
  ·rintro i zs H' fX iU i0 ⟨rfl,s2⟩ x Cn ⟨rfl,hy⟩
   have ex:=hy _ (aX.of (s2 _ _ Bj))
   refine⟨Ext.set (Ext.refl _) rfl,?_⟩
   right
   first | rw[if_pos trivial] | rw[if_pos rfl]
   have t2:=u3.trans s2
   have E9:i < dl.length:=by omega
   have eb:(dl.map (dN (dw.length:Nat)))[i]?=some (dN (dw.length:Nat) dl[i]):=by rw[List.getElem?_map,dI E9];rfl
   have yQ:=(vY.2 i x dl[i] ex (dI E9)).same t2
   refine⟨_,.inl ⟨_,aX.of (t2 _ _ pO),rfl⟩,?_⟩
   refine⟨x,4,dl[i],_,rfl,yQ,?_⟩
   have s9:=ak.refl Cn
   rw[zV]
   refine cH (s9 _ _ iU) i0 fX (Nat.le_of_lt (aA (by omega))) ⟨by rw[take_snoc eb,List.map_append];rfl,λb o e=>?_⟩
   rw[ay (ao e hD)]
   exact s9 _ _ (s2 _ _ e)
  rintro zs Ur iU i0 ⟨rfl,RN⟩
  have v3:=u3.trans RN
  right
  rw[List.take_of_length_le (by rw[List.length_map,<-yU];exact Nat.le_refl _)] at iU
  refine⟨_,aX.of iU,?_⟩
  clear iU i0
  right
  cases f3:(dl.map (dN (dw.length:Nat))).all id with
  | false=>
   first | rw[if_pos (by simp)] | skip
   right
   exact throw _ _ [] v3 (by simp only[okN,g1,f1,g2,f2,g3,f3,Bool.and_false,Bool.false_and,Bool.true_and,Bool.and_true])
  | true=>
  first | rw[if_neg (by simp)] | skip
  right
  exact q (by simp only[okN,g1,f1,g2,f2,g3,f3,Bool.and_self]) _ v3
def Bk (a b c:V):List (Str×V):=bC "own_letters" c (bC "own_ways" b (bC "own_machines" a []))
theorem IC {a b c:V}:(Bk a b c).lookup ("own_machines":Str)=some a:=by
 unfold Bk
 rw[bx,if_neg (by decide +kernel),bx,if_neg (by decide +kernel),bx,if_pos rfl]
theorem ID {a b c:V}:(Bk a b c).lookup ("own_ways":Str)=some b:=by
 unfold Bk
 rw[bx,if_neg (by decide +kernel),bx,if_pos rfl]
theorem Mp {a b c:V}:(Bk a b c).lookup ("own_letters":Str)=some c:=by
 unfold Bk
 rw[bx,if_pos rfl]
theorem cN {a b c:V}{f:Str}(h1:f≠"own_machines")(h2:f≠"own_ways")(h3:f≠"own_letters"):(Bk a b c).lookup f=none:=by
 unfold Bk
 rw[bx,if_neg h3,bx,if_neg h2,bx,if_neg h1]
 rfl
def iV (CN:Addr)(H:Hp)(x:Addr)(ms:List V)(wv lv:List V):Prop:=∃dx a b c,H x=some (.ins CN dx (Bk (.ref a) (.ref b) (.ref c)))/\H a=some (.tup (ms))/\H b=some (.tup wv)/\H c=some (.tup lv)
theorem iV.same{CN:Addr}{x:Addr}{ms:List V}{wv lv:List V}(s:ak H H')(h:iV CN H x ms wv lv):iV CN H' x ms wv lv:=by
 obtain⟨dx,a,b,c,h1,h2,h3,h4⟩:=h
 exact⟨dx,a,b,c,s _ _ h1,s _ _ h2,s _ _ h3,s _ _ h4⟩
abbrev yY:Stmt:=(eK (top 50)).getD 0 (.Pass ⟨0,0,0,0⟩)
def lB (C CN:Addr)(c:Nat->Addr):Sp:=λvs H Q E=>∃(x dx am aw al:Addr) (ms wv lv:List V) (bs:List Bool) (dw dl:List DV),vs=[.ref x,.ref am,.ref aw,.ref al]/\H x=some (.ins CN dx [])/\H am=some (.lst ms)/\H aw=some (.lst wv)/\H al=some (.lst lv)/\zY C H ms bs/\d5 H 4 wv dw/\d5 H 4 lv dl/\(okN bs dw dl=true->∀H',iV CN H' x ms wv lv->(∀b o,b≠x->H b=some o->H' b=some o)->Q .bb H')/\(okN bs dw dl=false->∀a H',ak H H'->H' a=some (XO a (c 3) none false)->E (.ref a) none H')
theorem IE (D:rh K mg "Net" CN "Net.__init__" yY ["self","machines","ways","letters"])(T:Tx K mg C CN F FD)(TX:vR K mg B c)(fQ:DefX P w K mg base "refuse_net" 4 ["machines","ways","letters"] (tK C c)):mH P w K mg base "Net" CN 5 ["self","machines","ways","letters"] (lB C CN c):=by
 have sc:aI ["self","machines","ways","letters"] ["self","machines","ways","letters"] (av yY):=by walk_at "s"
 refine D.yh sc (λvs H Q E h=>?_) (λf cy A outer s H vs Q E hr h=>?_)
 ·obtain⟨x,dx,am,aw,al,ms,wv,lv,bs,dw,dl,rfl,hx,vz,pO,qj,vW,vX,vY,q,qe⟩:=h
  rfl
 ·obtain⟨x,dx,am,aw,al,ms,wv,lv,bs,dw,dl,rfl,hx,vz,pO,qj,vW,vX,vY,q,qe⟩:=h
  have hu:=hr.units
  refine⟨_,(aj (dX (Eu fQ nI hr (ae (pv 1) (ae (pv 2) (ae (pv 3) aa)))))
   (aj (jc (pv 0) (dW cS rfl T.cG vN (ae (pv 1) aa)) (eI rfl))
   (aj (jc (pv 0) (dW cS rfl T.cG vN (ae (pv 2) aa)) (eI rfl))
   (au (jc (pv 0) (dW cS rfl T.cG vN (ae (pv 3) aa)) (eI rfl)))))),?_⟩
  try walk_at "rt"
  refine⟨am,aw,al,ms,wv,lv,bs,dw,dl,rfl,vz,pO,qj,vW,vX,vY,λok H1 s1=>?_,λbad a H' s' e=>qe bad a H' s' e⟩
  have lL:=s1 _ _ hx
  have J1:am≠x:=λz=>by subst z;rw[hx] at vz;cases vz
  have zV:aw≠x:=λz=>by subst z;rw[hx] at pO;cases pO
  have yU:al≠x:=λz=>by subst z;rw[hx] at qj;cases qj
  try walk_at "rt"
  refine fE (.inl (s1 _ _ vz)) λt1 H2 s2 vT=>?_
  try walk_at "rt"
  have tE:=s1.trans s2
  have F1:=tE _ _ hx
  refine⟨x,CN,dx,[],rfl,F1,T.bV,T.pz,by decide,?_⟩
  have n1:t1≠x:=λz=>by subst z;rw[F1] at vT;cases vT
  have k3:∀b o,b≠x->H2 b=some o->upd H2 x (.ins CN dx (bC "own_machines" (.ref t1) [])) b=some o:=λb o ne e=>by rw[ay ne];exact e
  have Fb:upd H2 x (.ins CN dx (bC "own_machines" (.ref t1) [])) x=some (.ins CN dx (bC "own_machines" (.ref t1) [])):=ag
  generalize F6:upd H2 x (.ins CN dx (bC "own_machines" (.ref t1) []))=G3 at *
  have Mq:=k3 _ _ n1 vT
  have Mr:=k3 _ _ zV (tE _ _ pO)
  have Ms:=k3 _ _ yU (tE _ _ qj)
  try walk_at "rt"
  refine fE (.inl Mr) λt2 H4 s4 rE=>?_
  try walk_at "rt"
  have OH:=s4 _ _ Fb
  refine⟨x,CN,dx,_,rfl,OH,T.bV,T.pA,jv (n:=999) (by decide),?_⟩
  have n2:t2≠x:=λz=>by subst z;rw[OH] at rE;cases rE
  have k5:∀b o,b≠x->H4 b=some o->upd H4 x (.ins CN dx (bC "own_ways" (.ref t2) (bC "own_machines" (.ref t1) []))) b=some o:=λb o ne e=>by rw[ay ne];exact e
  have RO:upd H4 x (.ins CN dx (bC "own_ways" (.ref t2) (bC "own_machines" (.ref t1) []))) x=some (.ins CN dx (bC "own_ways" (.ref t2) (bC "own_machines" (.ref t1) []))):=ag
  generalize Gg:upd H4 x (.ins CN dx (bC "own_ways" (.ref t2) (bC "own_machines" (.ref t1) [])))=G5 at *
  have Mt:=k5 _ _ n1 (s4 _ _ Mq)
  have Mu:=k5 _ _ n2 rE
  have Mv:=k5 _ _ yU (s4 _ _ Ms)
  try walk_at "rt"
  refine fE (.inl Mv) λt3 H6 s6 yI=>?_
  try walk_at "rt"
  have OI:=s6 _ _ RO
  refine⟨x,CN,dx,_,rfl,OI,T.bV,T.rp,jv (n:=999) (jv (n:=998) (by decide)),?_⟩
  have n3:t3≠x:=λz=>by subst z;rw[OI] at yI;cases yI
  refine q ok _ ⟨dx,t1,t2,t3,ag,?_,?_,?_⟩ λb o ne e=>?_
  ·rw[ay n1];exact s6 _ _ Mt
  ·rw[ay n2];exact s6 _ _ Mu
  ·rw[ay n3];exact yI
  ·rw[ay ne];exact s6 _ _ (k5 _ _ ne (s4 _ _ (k3 _ _ ne (tE _ _ e))))
abbrev eg:Stmt:=(eK (top 50)).getD 1 (.Pass ⟨0,0,0,0⟩)
def iW (CN:Addr):Sp:=λvs H Q _=>∃(x:Addr) (ms:List V) (wv lv:List V),vs=[.ref x]/\iV CN H x ms wv lv/\∀l,H l=none->Q (.ref l) (upd H l (.lst (ms)))
theorem lC (D:kS K CN "machines" "Net.machines" eg ["self"])(T:Tx K mg C CN F FD):nH P w K mg base CN "machines" 1 ["self"] (iW CN):=by
 have sc:aI ["self"] ["self"] (av eg):=by walk_at "s"
 symm
 ·obtain⟨x,ms,wv,lv,rfl,⟨dx,a,b,cc,h1,h2,h3,h4⟩,q⟩:=h
  rfl
 ·obtain⟨x,ms,wv,lv,rfl,⟨dx,a,b,cc,h1,h2,h3,h4⟩,q⟩:=h
  have hu:=hr.units
  refine⟨_,(au (aK (dW fM rfl T.de tW (ae (kF (pv 0) rfl) aa)))),?_⟩
  refine⟨_,rfl,x,CN,dx,_,_,rfl,h1,T.bV,T.pz,IC,?_⟩
  right
  exact⟨_,.inr (bM.of h2),λl hl=>q l hl⟩
abbrev ia:Stmt:=(eK (top 50)).getD 2 (.Pass ⟨0,0,0,0⟩)
def pS (CN:Addr):Sp:=λvs H Q _=>∃(x:Addr) (ms:List V) (wv lv:List V),vs=[.ref x]/\iV CN H x ms wv lv/\∀l,H l=none->Q (.ref l) (upd H l (.lst wv))
theorem rG (D:kS K CN "ways" "Net.ways" ia ["self"])(T:Tx K mg C CN F FD):nH P w K mg base CN "ways" 1 ["self"] (pS CN):=by
 have sc:aI ["self"] ["self"] (av ia):=by walk_at "s"
 symm
 ·obtain⟨x,ms,wv,lv,rfl,⟨dx,a,b,cc,h1,h2,h3,h4⟩,q⟩:=h
  rfl
 ·obtain⟨x,ms,wv,lv,rfl,⟨dx,a,b,cc,h1,h2,h3,h4⟩,q⟩:=h
  have hu:=hr.units
  refine⟨_,(au (aK (dW fM rfl T.de tW (ae (kF (pv 0) rfl) aa)))),?_⟩
  refine⟨_,rfl,x,CN,dx,_,_,rfl,h1,T.bV,T.pA,ID,?_⟩
  right
  exact⟨_,.inr (bM.of h3),λl hl=>q l hl⟩
abbrev eX:Stmt:=(eK (top 50)).getD 3 (.Pass ⟨0,0,0,0⟩)
def j2 (CN:Addr):Sp:=λvs H Q _=>∃(x:Addr) (ms:List V) (wv lv:List V),vs=[.ref x]/\iV CN H x ms wv lv/\∀l,H l=none->Q (.ref l) (upd H l (.lst lv))
theorem lX (D:kS K CN "letters" "Net.letters" eX ["self"])(T:Tx K mg C CN F FD):nH P w K mg base CN "letters" 1 ["self"] (j2 CN):=by
 have sc:aI ["self"] ["self"] (av eX):=by walk_at "s"
 symm
 ·obtain⟨x,ms,wv,lv,rfl,⟨dx,a,b,cc,h1,h2,h3,h4⟩,q⟩:=h
  rfl
 ·obtain⟨x,ms,wv,lv,rfl,⟨dx,a,b,cc,h1,h2,h3,h4⟩,q⟩:=h
  have hu:=hr.units
  refine⟨_,(au (aK (dW fM rfl T.de tW (ae (kF (pv 0) rfl) aa)))),?_⟩
  refine⟨_,rfl,x,CN,dx,_,_,rfl,h1,T.bV,T.rp,Mp,?_⟩
  right
  exact⟨_,.inr (bM.of h4),λl hl=>q l hl⟩
def ib (ws:List (Int×Int×Str))(e j:Nat):Int:=if e=0 then(ws.getD j (0,0,"")).1 else(ws.getD j (0,0,"")).2.1
def pT (ws:List (Int×Int×Str))(e:Nat)(m:Int):List Nat:=(List.range ws.length).filter λj=>decide (ib ws e j=m)
abbrev eY:Stmt:=(eK (top 50)).getD 6 (.Pass ⟨0,0,0,0⟩)
def rH (CN:Addr)(c:Nat->Addr):Sp:=λvs H Q E=>∃(x:Addr) (ms wv lv:List V) (ws:List (Int×Int×Str)) (m:Int) (e:Nat),vs=[.ref x,.int m,.int e]/\iV CN H x ms wv lv/\gQ H 1 wv (ws.map dg)/\e < 2/\wv.length<=10/\(0<=m/\m < (ms.length:Int)->∀l H',ak H H'->H l=none->H' l=some (.lst ((pT ws e m).map λi=>.int (i:Nat)))->Q (.ref l) H')/\(¬(0<=m/\m < (ms.length:Int))->∀a H',ak H H'->H' a=some (XO a (c 11) none false)->E (.ref a) none H')
theorem lY (D:kS K CN "ways_at" "Net.ways_at" eY ["self","m","end"])(T:Tx K mg C CN F FD)(TX:vR K mg B c)(aN:Def P w K mg base "is_within" 2 ["thing","low","beyond"] bT):fW P w K mg base CN "ways_at" 3 ["self","m","end"] (rH CN c):=by
 have sc:aI ["self","m","end"] ["self","m","end"] (av eY):=by walk_at "s"
 refine D.yh sc (λvs H Q E h=>?_) (λf cy A outer s H vs Q E hr h=>?_)
 ·obtain⟨x,ms,wv,lv,ws,m,e,rfl,hf,hw,he,qi,q,qe⟩:=h
  rfl
 ·obtain⟨x,ms,wv,lv,ws,m,e,rfl,hf,hw,he,qi,q,qe⟩:=h
  have hu:=hr.units
  refine⟨_,(aj (bg (bK (bJ (aL aN hr (ae (pv 1) (ae af (ae (aV aU rfl T.bW PySem.boot_len (ae (kF (pv 0) rfl) aa)) aa)))))) (au (iN rfl kx (sI TX.jY (ae aR aa)))) aP)
   (au (aK (jX (N':=["number","way","m","end"]) (ix:=[none,none,some 1,some 2]) (sM rfl T.gj (ae (kF (pv 0) rfl) aa)) (λ_ _ _ _=>(sT (K:=K) rfl (i:=0) (j:=1) rfl (show(["number","way","m","end"]:List Str).Nodup by decide +kernel) rfl rfl (by grind) (by grind))) (λ_ _ _ _=>(so (aM (sS (K:=K) rfl hu) (eJ (K:=K) rfl hu (pv 1) (pv 3)) (pv 2) (aT _)))) (λ_ _ _ _=>(pv 0)))))),?_⟩
  obtain⟨dx,a,b,cc,h1,h2,h3,h4⟩:=id hf
  right
  refine⟨x,CN,dx,_,_,rfl,h1,T.bV,T.pz,IC,_,.inr ⟨_,bM.of h2,rfl⟩,?_⟩
  refine⟨.int m,_,0,_,rfl,.int _,?_⟩
  by_cases hm:0<=m/\m < (ms.length:Int)
  ·rw[show inR 0 ((ms.length:Nat):Int) (.int m)=true by simp[inR,hm.1,hm.2]]
   refine⟨true,rfl,?_⟩
   rw[if_neg (by decide)]
   replace q:=q hm
   right
   refine cR ?_
   right
   refine⟨x,CN,dx,_,_,rfl,h1,T.bV,T.pA,ID,?_⟩
   right
   refine⟨false,wv,Sq.t h3,λD hD=>?_⟩
   have uC:wv.length=ws.length:=by simpa using hw.1
   refine bI (J:=FQ false K b) (n:=wv.length) (λi ys H'=>ak H H'/\ys=((List.range i).filter λj=>decide (ib ws e j=m)).map λj=>V.int (j:Nat)) (Nat.le_of_lt (aA (by omega))) ⟨ak.new _ hD,rfl⟩ ?_ ?_ ?_ ?_
   ·rintro i ys H' hi ⟨s1,_⟩
    exact⟨wv,wv[i],Sq.t (s1 _ _ h3),dI hi⟩
   ·rintro ys H' ⟨s1,_⟩
    exact⟨wv,Sq.t (s1 _ _ h3),rfl⟩
   ·rintro i ys H' hi fO hl ⟨s1,rfl⟩ xx H4 ⟨t,ht,rfl,y⟩
    obtain⟨xw,ex,rfl⟩:=y wv (Sq.t (s1 _ _ h3))
    have Mw:i < ws.length:=by omega
    have IF:=(hw.2 i xw (dg (ws.getD i (0,0,""))) ex (by rw[List.getElem?_map,show ws[i]?=some (ws.getD i (0,0,"")) by rw[List.getD_eq_getElem?_getD,dI Mw];rfl];rfl)).aY s1.aZ
    have s2:=ak.new (.tup [.int (i:Nat),xw]) ht
    replace IF:=IF.aY s2.aZ
    have rE:upd H' t (.tup [.int (i:Nat),xw]) t=some (.tup [.int (i:Nat),xw]):=ag
    have IG:=s2 _ _ fO
    have J2:=s1.trans s2
    generalize hG:upd H' t (.tup [.int (i:Nat),xw])=G at *
    obtain⟨ta,u1,u2,u3,kk,rfl,Mx,g1,g2,g3⟩:=fB IF
    cases g1;cases g2;cases g3
    refine⟨t,_,rfl,bM.of rE,rfl,_,_,rfl,_,_,rfl,rfl,Ext.set (Ext.set (Ext.refl _) rfl) rfl,?_⟩
    right
    have My:iF [V.int (ws.getD i (0,0,"")).1,V.int (ws.getD i (0,0,"")).2.1,V.str (ws.getD i (0,0,"")).2.2] (e:Int)=some (.int (ib ws e i)):=by
     have:e=0\/e=1:=by omega
     rcases this with rfl | rfl
     ·exact aq (j:=0) rfl
     ·exact aq (j:=1) rfl
    refine uR Mx My ?_
    right
    have ef:(List.range (i + 1)).filter (λj=>decide (ib ws e j=m))=(List.range i).filter (λj=>decide (ib ws e j=m))++(if ib ws e i=m then[i] else[]):=by
     rw[List.range_succ,List.filter_append]
     congr 1
     by_cases z:ib ws e i=m <;> simp[z]
    by_cases z:ib ws e i=m
    ·rw[if_pos (by simp[z])]
     refine cH IG hl hi (Nat.le_of_lt (aA (by omega))) ⟨λc o e=>by rw[ay (ao e hD)];exact J2 _ _ e,?_⟩
     rw[ef,if_pos z,List.map_append];rfl
    ·rw[if_neg (by simp[z])]
     exact⟨_,IG,by omega,J2,by rw[ef,if_neg z,List.append_nil]⟩
   ·rintro ys H' fO hl ⟨s1,rfl⟩
    rw[uC] at fO
    exact q _ _ s1 hD fO
  ·rw[show inR 0 ((ms.length:Nat):Int) (.int m)=false by
    simp only[inR]
    rw[<-Bool.not_eq_true,Bool.and_eq_true,decide_eq_true_eq,decide_eq_true_eq]
    exact hm]
   refine⟨false,rfl,?_⟩
   rw[if_pos (by decide)]
   right
   exact pR (D:=⟨λ_ _=>True,λ_ _=>True,λ_ _=>True,λ_ _=>True⟩) (σ:=[]) (TX.cl 11 (by decide)) λa ha=>qe hm a _ (lz ha) ag
abbrev eh:Stmt:=(eK (top 50)).getD 4 (.Pass ⟨0,0,0,0⟩)
def gu (CN:Addr)(c:Nat->Addr):Sp:=λvs H Q E=>∃(x:Addr) (ms wv lv:List V) (ws:List (Int×Int×Str)) (m:Int),vs=[.ref x,.int m]/\iV CN H x ms wv lv/\gQ H 1 wv (ws.map dg)/\wv.length<=10/\(0<=m/\m < (ms.length:Int)->∀l H',ak H H'->H l=none->H' l=some (.lst ((pT ws 0 m).map λi=>.int (i:Nat)))->Q (.ref l) H')/\(¬(0<=m/\m < (ms.length:Int))->∀a H',ak H H'->H' a=some (XO a (c 11) none false)->E (.ref a) none H')
theorem lD (D:kS K CN "ways_out" "Net.ways_out" eh ["self","m"])(T:Tx K mg C CN F FD)(TX:vR K mg B c)(cn:fW P w K mg base CN "ways_at" 3 ["self","m","end"] (rH CN c)):fW P w K mg base CN "ways_out" 4 ["self","m"] (gu CN c):=by
 have sc:aI ["self","m"] ["self","m"] (av eh):=by walk_at "s"
 refine D.yh sc (λvs H Q E h=>?_) (λf cy A outer s H vs Q E hr h=>?_)
 ·obtain⟨x,ms,wv,lv,ws,m,rfl,hf,hw,qi,q,qe⟩:=h
  rfl
 ·obtain⟨x,ms,wv,lv,ws,m,rfl,hf,hw,qi,q,qe⟩:=h
  have hu:=hr.units
  refine⟨_,(au (aK (nN cn nI T.bV hr (pv 0) (ae (pv 1) (ae af aa))))),?_⟩
  obtain⟨dx,a,b,cc,h1,h2,h3,h4⟩:=id hf
  right
  refine⟨x,dx,_,rfl,h1,cN (by decide +kernel) (by decide +kernel) (by decide +kernel),?_⟩
  exact⟨x,ms,wv,lv,ws,m,0,rfl,hf,hw,by decide,qi,q,qe⟩
abbrev eZ:Stmt:=(eK (top 50)).getD 5 (.Pass ⟨0,0,0,0⟩)
def ic (CN:Addr)(c:Nat->Addr):Sp:=λvs H Q E=>∃(x:Addr) (ms wv lv:List V) (ws:List (Int×Int×Str)) (m:Int),vs=[.ref x,.int m]/\iV CN H x ms wv lv/\gQ H 1 wv (ws.map dg)/\wv.length<=10/\(0<=m/\m < (ms.length:Int)->∀l H',ak H H'->H l=none->H' l=some (.lst ((pT ws 1 m).map λi=>.int (i:Nat)))->Q (.ref l) H')/\(¬(0<=m/\m < (ms.length:Int))->∀a H',ak H H'->H' a=some (XO a (c 11) none false)->E (.ref a) none H')
theorem lZ (D:kS K CN "ways_in" "Net.ways_in" eZ ["self","m"])(T:Tx K mg C CN F FD)(TX:vR K mg B c)(cn:fW P w K mg base CN "ways_at" 3 ["self","m","end"] (rH CN c)):fW P w K mg base CN "ways_in" 4 ["self","m"] (ic CN c):=by
 have sc:aI ["self","m"] ["self","m"] (av eZ):=by walk_at "s"
 refine D.yh sc (λvs H Q E h=>?_) (λf cy A outer s H vs Q E hr h=>?_)
 ·obtain⟨x,ms,wv,lv,ws,m,rfl,hf,hw,qi,q,qe⟩:=h
  rfl
 ·obtain⟨x,ms,wv,lv,ws,m,rfl,hf,hw,qi,q,qe⟩:=h
  have hu:=hr.units
  refine⟨_,(au (aK (nN cn nI T.bV hr (pv 0) (ae (pv 1) (ae af aa))))),?_⟩
  obtain⟨dx,a,b,cc,h1,h2,h3,h4⟩:=id hf
  right
  refine⟨x,dx,_,rfl,h1,cN (by decide +kernel) (by decide +kernel) (by decide +kernel),?_⟩
  exact⟨x,ms,wv,lv,ws,m,1,rfl,hf,hw,by decide,qi,q,qe⟩
structure LS (C:Addr)(H:Hp)(L am aw al:Addr)(mv wv lv:List V)(ws:List (Int×Int×Str))(ls:List (Int×Int)):Prop where
 l:H L=some (.lst [.ref am,.ref aw,.ref al])
 m:H am=some (.lst mv)
 w:H aw=some (.lst wv)
 k:H al=some (.lst lv)
 ms:∀v ∈ mv,∃m dx fs,v=.ref m/\H m=some (.ins C dx fs)
 hw:gQ H 1 wv (ws.map dg)
 hl:gQ H 1 lv (ls.map fF)
 m1:1<=mv.length
 m5:mv.length<=5
 zQ:wv.length<=10
 Cm:lv.length<=20
 wo:∀w ∈ ws,j0 mv.length w
 lo:∀l ∈ ls,j1 wv.length l
theorem LS.same{C:Addr}{L am aw al:Addr}{wv lv:List V}(s:ak H H')(h:LS C H L am aw al mv wv lv ws ls):LS C H' L am aw al mv wv lv ws ls:=
 ⟨s _ _ h.l,s _ _ h.m,s _ _ h.w,s _ _ h.k,λv hv=>by obtain⟨m,dx,fs,e,g⟩:=h.ms v hv;exact⟨m,dx,fs,e,s _ _ g⟩,h.hw.aY s.aZ,h.hl.aY s.aZ,h.m1,h.m5,h.zQ,h.Cm,h.wo,h.lo⟩
theorem gQ.gM{n m:Nat}(h:gQ H n vs ds)(hm:n<=m):d5 H m vs ds:=⟨h.1,λi v d a b=>(h.2 i v d a b).hd.mono hm⟩
theorem LS.me{C:Addr}(h:∀v ∈ mv,∃m dx fs,v=.ref m/\H m=some (.ins C dx fs)):zY C H mv (List.replicate mv.length true):=
 ⟨by simp,λi v b a e=>by
  have hi:i < mv.length:=(List.getElem?_eq_some_iff.mp a).1
  rw[List.getElem?_replicate,if_pos hi] at e
  cases e
  exact .inl ⟨rfl,h v (List.mem_of_getElem? a)⟩⟩
theorem j0.mono{m':Int}{w:Int×Int×Str}(h:j0 m w)(hm:m<=m'):j0 m' w:=by
 obtain⟨h1,h2,h3,h4,h5⟩:=h
 exact⟨h1,by omega,h3,by omega,h5⟩
theorem j1.mono{m':Int}{l:Int×Int}(h:j1 m l)(hm:m<=m'):j1 m' l:=by
 obtain⟨h1,h2,h3,h4⟩:=h
 exact⟨h1,by omega,h3,h4⟩
theorem fR {k:Nat}:dM xs none (some (k:Int))=xs.take k:=by
 unfold dM
 have e0:HT.cM xs.length 0 none=0:=rfl
 have e1:HT.cM xs.length xs.length (some (k:Int))=min k xs.length:=by
  show(if (k:Int) < 0 then((k:Int) + (xs.length:Int)).toNat else min (k:Int).toNat xs.length)=_
  rw[if_neg (by omega)];rfl
 rw[e0,e1,List.drop_zero,Nat.sub_zero]
 by_cases h:k<=xs.length
 ·rw[Nat.min_eq_left h]
 ·rw[Nat.min_eq_right (by omega),List.take_of_length_le (Nat.le_refl _),List.take_of_length_le (by omega)]
theorem cp {H H':Hp}{p:Addr}(s:ak H H')(h:H' p=none):H p=none:=by
 cases e:H p with
 | none=>rfl
 | some o=>rw[s _ _ e] at h;cases h
theorem take1 {α:Type}{xs:List α}(h:1<=xs.length):∃x r,xs=x::r:=by
 cases xs with
 | nil=>simp at h
 | cons x r=>exact⟨x,r,rfl⟩
abbrev gv:Stmt:=top 59
def pU:Sp:=λvs H Q _=>∃(i:Int),vs=[.int i]/\Q (.bl true) H
theorem pV (D:cJ K mg "_law_plain" "_law_plain" gv ["_law_found"])(T:Tx K mg C CN F FD):Def P w K mg base "_law_plain" 1 ["_law_found"] pU:=by
 have sc:aI ["_law_found"] ["_law_found"] (av gv):=by walk_at "s"
 symm
 ·obtain⟨i,rfl,q⟩:=h
  rfl
 ·obtain⟨i,rfl,q⟩:=h
  have hu:=hr.units
  refine⟨_,(au (aK (dR (aV bN rfl T.aJ lJ (ae (pv 0) (ae (bO (v:=.ty "int") rfl T.yz PyProof.Rows.boot_int rfl) aa))) (dJ (wu (aV bN rfl T.aJ lJ (ae (pv 0) (ae (bO (v:=.ty "bool") rfl T.rm PyProof.Rows.boot_bool rfl) aa)))))))),?_⟩
  right
  refine⟨_,true,.int _,rfl,?_⟩
  rw[if_pos rfl]
  exact⟨_,false,.int _,rfl,q⟩
abbrev ie:Stmt:=top 60
def tL (C:Addr):Sp:=λvs H Q _=>∃(L am aw al:Addr) (mv wv lv:List V) (ws:List (Int×Int×Str)) (ls:List (Int×Int)) (z:Int),vs=[.ref L,.int z]/\LS C H L am aw al mv wv lv ws ls/\∀L' OJ OK OL oj j3 iX Co Cp H',ak H H'->LS C H' L' OJ OK OL oj j3 iX Co Cp->Q (.ref L') H'
theorem rJ (D:cJ K mg "_law_full" "_law_full" ie ["_law_lists","_law_cell"])(T:Tx K mg C CN F FD):Def P w K mg base "_law_full" 1 ["_law_lists","_law_cell"] (tL C):=by
 have sc:aI ["_law_lists","_law_cell","_law_found"] ["_law_lists","_law_cell"] (av ie):=by walk_at "s"
 symm
 ·obtain⟨L,am,aw,al,mv,wv,lv,ws,ls,z,rfl,h,q⟩:=h
  rfl
 ·obtain⟨L,am,aw,al,mv,wv,lv,ws,ls,z,rfl,h,q⟩:=h
  have hu:=hr.units
  refine⟨_,(aj (bj (i:=2) sc.nd rfl (by grind) (aS (ae (jf (aG bL (aH hu (pv 0) af) (aG iO (jf (aH hu (pv 0) af) gF (gG af)) af)) gF (gG af)) (ae (aG bL (aH hu (pv 0) af) (aS aa)) (ae (aG bL (aH hu (pv 0) af) (aS aa)) aa)))))
   (aj (oB PassesOwn.never (aM gd (aV aU rfl T.bW PySem.boot_len (ae (aH hu (pv 2) af) aa)) af (aT _))
   (au (dX (gO tV zK zL dE (aH hu (pv 2) af) (ae (aO (ae (aG bt (pv 1) af) (ae (aG bt (aV aU rfl T.bW PySem.boot_len (ae (aH hu (pv 2) af) aa)) af) (ae (aH hu (aS (ae aR (ae aR aa))) (aG bt (aG bZ (pv 1) af) af)) aa)))) aa)))))
   (aj (oB PassesOwn.never (aM gd (aV aU rfl T.bW PySem.boot_len (ae (aH hu (pv 2) af) aa)) af (aT _))
   (au (dX (gO tV zK zL dE (aH hu (pv 2) af) (ae (aO (ae (aG bt (aV aU rfl T.bW PySem.boot_len (ae (aH hu (pv 2) af) aa)) af) (ae (aH hu (aS (ae (aG cB (aG dD af af) af) (ae (aG cB af (aG dD af af)) aa))) (aG bt (aV aU rfl T.bW PySem.boot_len (ae (aH hu (pv 2) af) aa)) af)) aa))) aa)))))
   (au (aK (pv 2)))))),?_⟩
  have F3:=h.m1
  have Iq:=h.m5
  obtain⟨x0,mr,rfl⟩:=take1 h.m1
  refine L2.aC λN1 h1=>?_
  right
  refine bp h.l (aq (j:=0) rfl) ?_
  refine bp h.l (aq (j:=0) rfl) ?_
  right
  refine .inl ⟨_,h.m,λp1 pW=>?_⟩
  rw[show dM (x0::mr) none (some 1)=[x0] from(fR (k:=1)).trans rfl]
  have s1:=ak.new (.lst [x0]) pW
  have e1:upd H p1 (.lst [x0]) p1=some (.lst [x0]):=ag
  generalize IH:upd H p1 (.lst [x0])=G1 at *
  refine⟨x0,e1,by decide,by decide,λp2 j6=>?_⟩
  have s2:=ak.new (.lst (List.replicate (4:Int).toNat x0)) j6
  have e2:upd G1 p2 (.lst (List.replicate (4:Int).toNat x0)) p2=some (.lst (List.replicate (4:Int).toNat x0)):=ag
  generalize F2:upd G1 p2 (.lst (List.replicate (4:Int).toNat x0))=G2 at *
  have tE:=s1.trans s2
  right
  refine .inl ⟨_,_,tE _ _ h.m,e2,Nat.le_of_lt (aA (by simp only[List.length_replicate];omega)),λp3 pP=>?_⟩
  have s3:=ak.new (.lst ((x0::mr)++List.replicate (4:Int).toNat x0)) pP
  have e3:upd G2 p3 (.lst ((x0::mr)++List.replicate (4:Int).toNat x0)) p3=some (.lst ((x0::mr)++List.replicate (4:Int).toNat x0)):=ag
  generalize F6:upd G2 p3 (.lst ((x0::mr)++List.replicate (4:Int).toNat x0))=G3 at *
  right
  refine .inl ⟨_,e3,λp4 vA=>?_⟩
  have Bf:∃oj,dM ((x0::mr)++List.replicate (4:Int).toNat x0) none (some 5)=oj/\oj.length=5/\∀v ∈ oj,v ∈ x0::mr:=by
   refine⟨_,fR (k:=5),?_,λv hv=>?_⟩
   ·rw[List.length_take,List.length_append,List.length_replicate]
    simp only[List.length_cons] at F3 ⊢
    show min 5 (mr.length + 1 + 4)=5
    omega
   ·rcases List.mem_append.mp (List.mem_of_mem_take hv) with hv | hv
    ·exact hv
    ·rw[List.eq_of_mem_replicate hv];simp
  obtain⟨oj,II,RP,AF⟩:=Bf
  rw[II]
  have s4:=ak.new (.lst oj) vA
  have e4:upd G3 p4 (.lst oj) p4=some (.lst oj):=ag
  generalize IJ:upd G3 p4 (.lst oj)=G4 at *
  have Mz:=tE.trans (s3.trans s4)
  clear IH F2 F6 IJ II
  right
  refine bp (Mz _ _ h.l) (aq (j:=1) rfl) ?_
  refine⟨Nat.zero_le _,λp5 pQ=>?_⟩
  have s5:=ak.new (.lst []) pQ
  have e5:upd G4 p5 (.lst []) p5=some (.lst []):=ag
  generalize Gg:upd G4 p5 (.lst [])=G5 at *
  have J3:=Mz.trans s5
  have rK:=h.zQ
  have Bl:=h.Cm
  right
  refine .inl ⟨_,_,J3 _ _ h.w,e5,Nat.le_of_lt (aA (by simp;omega)),λp6 zX=>?_⟩
  rw[List.append_nil]
  have s6:=ak.new (.lst wv) zX
  have e6:upd G5 p6 (.lst wv) p6=some (.lst wv):=ag
  have n6:=cp J3 zX
  generalize A6:upd G5 p6 (.lst wv)=G6 at *
  have Gh:=J3.trans s6
  right
  refine bp (Gh _ _ h.l) (aq (j:=2) rfl) ?_
  refine⟨Nat.zero_le _,λp7 JY=>?_⟩
  have s7:=ak.new (.lst []) JY
  have e7:upd G6 p7 (.lst []) p7=some (.lst []):=ag
  generalize J0:upd G6 p7 (.lst [])=G7 at *
  have J4:=Gh.trans s7
  right
  refine .inl ⟨_,_,J4 _ _ h.k,e7,Nat.le_of_lt (aA (by simp;omega)),λp8 zZ=>?_⟩
  rw[List.append_nil]
  have s8:=ak.new (.lst lv) zZ
  have e8:upd G7 p8 (.lst lv) p8=some (.lst lv):=ag
  have n8:=cp J4 zZ
  have IK:p6≠p8:=ao ((s7 _ _ e6)) zZ
  have MA:p4≠p8:=ao ((s5.trans (s6.trans s7)) _ _ e4) zZ
  have MB:p4≠p6:=ao (s5 _ _ e4) zX
  generalize J5:upd G7 p8 (.lst lv)=G8 at *
  have OM:=J4.trans s8
  right
  refine⟨by show 3<=sizeLine;decide,λp9 tJ=>?_⟩
  have s9:=ak.new (.lst [.ref p4,.ref p6,.ref p8]) tJ
  have e9:upd G8 p9 (.lst [.ref p4,.ref p6,.ref p8]) p9=some (.lst [.ref p4,.ref p6,.ref p8]):=ag
  have RQ:=((s5.trans (s6.trans (s7.trans (s8.trans s9))))) _ _ e4
  have RS:=(s7.trans (s8.trans s9)) _ _ e6
  have RT:=s9 _ _ e8
  have MC:p9≠p6:=λz=>by rw[z,(s7.trans s8) _ _ e6] at tJ;cases tJ
  have MG:p9≠p8:=λz=>by rw[z,e8] at tJ;cases tJ
  generalize MH:upd G8 p9 (.lst [.ref p4,.ref p6,.ref p8])=G9 at *
  have ON:=OM.trans s9
  clear Gg A6 J0 J5 MH s1 s2 s3 s4 s5 s6 s7 s8 s9 tE Mz J3 Gh J4 OM pW j6 pP vA pQ zX JY zZ tJ e1 e2 e3 e4 e5 e6 e7 e8
  refine L2.az h1 ?_
  clear h1
  refine L2.aC λN2 h2=>?_
  have RU:=h.hw.aY ON.aZ
  refine⟨λm σ H'=>σ=[some (.ref L),some (.int z),some (.ref p9)]/\∃j3 Co,m=10 - j3.length/\j3.length<=10/\H' p6=some (.lst j3)/\gQ H' 1 j3 (Co.map dg)/\(∀w ∈ Co,j0 5 w)/\∀b o,b≠p6->G9 b=some o->H' b=some o,⟨_,rfl,wv,ws,rfl,rK,RS,RU,λw hw=>(h.wo w hw).mono (by omega),λb o _ e=>e⟩,?_⟩
  ·rintro m σ H1 ⟨rfl,j3,Co,rfl,i0,ew,hT,ba,hk⟩
   have J6:=hk _ _ MC e9
   right
   refine bp J6 (aq (j:=1) rfl) ?_
   right
   refine⟨_,.inl ⟨_,aX.of ew,rfl⟩,?_⟩
   by_cases rW:j3.length < 10
   ·rw[if_pos (by simp;omega)]
    refine⟨_,λσ' H' z=>z,?_⟩
    refine bp J6 (aq (j:=1) rfl) ?_
    refine⟨.inl ⟨rfl,_,aX.of ew⟩,by decide,?_⟩
    refine bp J6 (aq (j:=1) rfl) ?_
    refine⟨_,.inl ⟨_,aX.of ew,rfl⟩,by decide,cQ,λpa rL=>⟨⟨by decide,by decide⟩,by decide,?_⟩⟩
    have sa:=ak.new (.lst [.str "row",.str "heap"]) rL
    have ea:upd H1 pa (.lst [.str "row",.str "heap"]) pa=some (.lst [.str "row",.str "heap"]):=ag
    generalize Bm:upd H1 pa (.lst [.str "row",.str "heap"])=Ga at *
    have Fc:∃sv:Str,iF [V.str "row",V.str "heap"] (z / 5 % 2)=some (.str sv)/\(sv="row"\/sv="heap"):=by
     have:z / 5 % 2=0\/z / 5 % 2=1:=by omega
     rcases this with e | e <;> rw[e]
     ·exact⟨_,aq (j:=0) rfl,.inl rfl⟩
     ·exact⟨_,aq (j:=1) rfl,.inr rfl⟩
    obtain⟨sv,MI,Fc⟩:=Fc
    refine bp ea MI ?_
    refine⟨by show 3<=sizeLine;decide,λpt MJ=>?_⟩
    have sb:=ak.new (.tup [.int (z % 5),.int ((j3.length:Nat) % 5),.str sv]) MJ
    have eb:upd Ga pt (.tup [.int (z % 5),.int ((j3.length:Nat) % 5),.str sv]) pt=some (.tup [.int (z % 5),.int ((j3.length:Nat) % 5),.str sv]):=ag
    generalize vB:upd Ga pt (.tup [.int (z % 5),.int ((j3.length:Nat) % 5),.str sv])=Gb at *
    have Fd:=sa.trans sb
    have OO:=Fd _ _ ew
    right
    refine⟨_,OO,aA (by omega),10 - (j3.length + 1),by omega,j3++[.ref pt],Co++[(z % 5,((j3.length:Nat):Int) % 5,sv)],by simp,by simp;omega,ag,?_,λw hw=>?_,λb o ne e=>by rw[ay ne];exact Fd _ _ (hk b o ne e)⟩
    ·have tB:bX Gb (upd Gb p6 (.lst (j3++[.ref pt]))):=(bX.refl _).upd λys e=>by rw[OO] at e;cases e
     have h6:=((hT.aY Fd.aZ).snoc (eR (n:=0) eb (.int (z % 5)) (.int ((j3.length:Nat) % 5)) (.str sv))).aY tB
     simpa[dg] using h6
    ·rcases List.mem_append.mp hw with hw | hw
     ·exact ba w hw
     ·simp only[List.mem_singleton] at hw;subst hw
      exact⟨Int.emod_nonneg _ (by decide),Int.emod_lt_of_pos _ (by decide),Int.emod_nonneg _ (by decide),Int.emod_lt_of_pos _ (by decide),Fc⟩
   ·rw[if_neg (by simp;omega)]
    have RV:j3.length=10:=by omega
    refine L2.az h2 ?_
    clear h2
    have OP:=hk _ _ (Ne.symm IK) RT
    have IL:ak H H1:=λb o e=>hk b o (ao e n6) (ON _ _ e)
    refine L2.aC λN3 h3=>?_
    refine⟨λm σ H'=>σ=[some (.ref L),some (.int z),some (.ref p9)]/\∃iX Cp,m=20 - iX.length/\iX.length<=20/\H' p8=some (.lst iX)/\gQ H' 1 iX (Cp.map fF)/\(∀w ∈ Cp,j1 10 w)/\∀b o,b≠p8->H1 b=some o->H' b=some o,⟨_,rfl,lv,ls,rfl,Bl,OP,h.hl.aY IL.aZ,λw hw=>(h.lo w hw).mono (by omega),λb o _ e=>e⟩,?_⟩
    rintro m σ H2 ⟨rfl,iX,Cp,rfl,JC,el,hL,IM,Gj⟩
    have IP:=Gj _ _ MG J6
    right
    refine bp IP (aq (j:=2) rfl) ?_
    right
    refine⟨_,.inl ⟨_,aX.of el,rfl⟩,?_⟩
    by_cases RW:iX.length < 20
    ·rw[if_pos (by simp;omega)]
     refine⟨_,λσ' H' z=>z,?_⟩
     refine bp IP (aq (j:=2) rfl) ?_
     refine⟨.inl ⟨rfl,_,aX.of el⟩,?_⟩
     refine bp IP (aq (j:=2) rfl) ?_
     refine⟨_,.inl ⟨_,aX.of el,rfl⟩,by decide,gY,gY,cQ,λpa rL=>?_⟩
     have F9:(10:Int) ^ Int.toNat 60=1000000000000000000000000000000000000000000000000000000000000:=by decide +kernel
     rw[F9] at *
     have sa:=ak.new (.lst [.int (1000000000000000000000000000000000000000000000000000000000000 - 1),.int (1 - 1000000000000000000000000000000000000000000000000000000000000)]) rL
     have ea:upd H2 pa (.lst [.int (1000000000000000000000000000000000000000000000000000000000000 - 1),.int (1 - 1000000000000000000000000000000000000000000000000000000000000)]) pa=some (.lst [.int (1000000000000000000000000000000000000000000000000000000000000 - 1),.int (1 - 1000000000000000000000000000000000000000000000000000000000000)]):=ag
     generalize Bm:upd H2 pa (.lst [.int (1000000000000000000000000000000000000000000000000000000000000 - 1),.int (1 - 1000000000000000000000000000000000000000000000000000000000000)])=Ga at *
     have MK:=sa _ _ IP
     refine bp MK (aq (j:=2) rfl) ?_
     refine⟨_,.inl ⟨_,aX.of (sa _ _ el),rfl⟩,by decide,?_⟩
     have Fc:∃sv:Int,iF [V.int (1000000000000000000000000000000000000000000000000000000000000 - 1),V.int (1 - 1000000000000000000000000000000000000000000000000000000000000)] (((iX.length:Nat):Int) % 2)=some (.int sv)/\1 - 1000000000000000000000000000000000000000000000000000000000000<=sv/\sv < 1000000000000000000000000000000000000000000000000000000000000:=by
      have:((iX.length:Nat):Int) % 2=0\/((iX.length:Nat):Int) % 2=1:=by omega
      rcases this with e | e <;> rw[e]
      ·exact⟨_,aq (j:=0) rfl,by decide +kernel,by decide +kernel⟩
      ·exact⟨_,aq (j:=1) rfl,by decide +kernel,by decide +kernel⟩
     obtain⟨sv,MI,Fc⟩:=Fc
     refine bp ea MI ?_
     refine⟨cQ,λpt MJ=>?_⟩
     have sb:=ak.new (.tup [.int ((iX.length:Nat) % 10),.int sv]) MJ
     have eb:upd Ga pt (.tup [.int ((iX.length:Nat) % 10),.int sv]) pt=some (.tup [.int ((iX.length:Nat) % 10),.int sv]):=ag
     generalize vB:upd Ga pt (.tup [.int ((iX.length:Nat) % 10),.int sv])=Gb at *
     have Fd:=sa.trans sb
     have OQ:=Fd _ _ el
     right
     refine⟨_,OQ,aA (by omega),20 - (iX.length + 1),by omega,iX++[.ref pt],Cp++[(((iX.length:Nat):Int) % 10,sv)],by simp,by simp;omega,ag,?_,λw hw=>?_,λb o ne e=>by rw[ay ne];exact Fd _ _ (Gj b o ne e)⟩
     ·have tB:bX Gb (upd Gb p8 (.lst (iX++[.ref pt]))):=(bX.refl _).upd λys e=>by rw[OQ] at e;cases e
      have h6:=((hL.aY Fd.aZ).snoc (eQ (n:=0) eb (.int ((iX.length:Nat) % 10)) (.int sv))).aY tB
      simpa[fF] using h6
     ·rcases List.mem_append.mp hw with hw | hw
      ·exact IM w hw
      ·simp only[List.mem_singleton] at hw;subst hw
       exact⟨Int.emod_nonneg _ (by decide),Int.emod_lt_of_pos _ (by decide),Fc⟩
    ·rw[if_neg (by simp;omega)]
     refine L2.az h3 ?_
     right
     have EY:iX.length=20:=by omega
     have tE:ak H H2:=λb o e=>Gj b o (ao e n8) (IL _ _ e)
     have J2:bX H1 H2:=λb ys e=>Gj b _ (λz=>by rw[z,OP] at e;cases e) e
     refine q p9 p4 p6 p8 oj j3 iX Co Cp H2 tE ⟨IP,Gj _ _ MA (hk _ _ MB RQ),Gj _ _ IK ew,el,λv hv=>?_,hT.aY J2,hL,by omega,by omega,by omega,by omega,λw hw=>?_,λl hl=>?_⟩
     ·obtain⟨m,dx,fs,e,g⟩:=h.ms v (AF v hv)
      exact⟨m,dx,fs,e,tE _ _ g⟩
     ·rw[RP];exact ba w hw
     ·rw[RV];exact IM l hl
def od (H0:Hp):Addr->Prop:=λb=>H0 b≠none
theorem kB {H0:Hp}(s:ak H0 H)(hp:H p=none):gK (od H0) (upd H p o) p=some o:=by
 have h:¬od H0 p:=λz=>z (cp s hp)
 unfold gK
 rw[if_neg h]
 exact ag
theorem fH (s:ak H H'):Cv (gK Z H) (gK Z H'):=Fr.gK s.fr
def DN (H0:Hp)(te:TE)(σ:St)(n:Nat)(d:DV):Prop:=∀H (Q:VK),ak H0 H->(∀x H',ak H H'->HD (gK (od H0) H') n x d->Q x H')->te σ H Q
def Fe (H0:Hp)(t:TA)(σ:St)(n:Nat)(ds:List DV):Prop:=∀H (Q:List V->Hp->Prop),ak H0 H->(∀xs H',ak H H'->xs.length=ds.length->(∀(i:Nat) u e,xs[i]?=some u->ds[i]?=some e->HD (gK (od H0) H') n u e)->Q xs H')->t σ H Q
section
variable {H0:Hp}{σ:St}{n:Nat}
theorem aW {i:Int}:DN H0 (tC (.int i)) σ n (.int i):=λH Q _ q=>q _ _ (ak.refl H) (.int _)
theorem pX {i:Bool}:DN H0 (tC (.bl i)) σ n (.bl i):=λH Q _ q=>q _ _ (ak.refl H) (.bl _)
theorem cw {i:Str}:DN H0 (tC (.str i)) σ n (.str i):=λH Q _ q=>q _ _ (ak.refl H) (.str _)
theorem jx:DN H0 (tC .bb) σ n .bb:=λH Q _ q=>q _ _ (ak.refl H) .bb
theorem Bn:DN H0 nr σ n .dict:=λH Q s q p hp=>q _ _ (ak.new _ hp) (.dict (kB s hp))
theorem ej {i:Nat}{z:Int}(h:σ[i]?=some (some (.int z))):DN H0 (ou i) σ n (.int z):=λH Q _ q=>⟨_,h,q _ _ (ak.refl H) (.int _)⟩
theorem Cq {i j:Int}(h1:DN H0 ta σ n (.int i))(h2:DN H0 tb σ n (.int j)):DN H0 (uh FT ta tb) σ n (.int (i + j)):=λH Q s q=>by
 refine h1 H _ s λx H1 s1 d1=>h2 H1 _ (s.trans s1) λy H2 s2 d2=>?_
 cases d1
 cases d2
 exact q _ _ (s1.trans s2) (.int _)
theorem rM {i j:Int}(h1:DN H0 ta σ n (.int i))(h2:DN H0 tb σ n (.int j)):DN H0 (uh (BW λi j=>.int (i - j)) ta tb) σ n (.int (i - j)):=λH Q s q=>by
 refine h1 H _ s λx H1 s1 d1=>h2 H1 _ (s.trans s1) λy H2 s2 d2=>?_
 cases d1
 cases d2
 exact q _ _ (s1.trans s2) (.int _)
theorem yZ {i j:Int}(hc:qu i j):DN H0 (uh (uI qu λi j=>.int (i ^ j.toNat)) (tC (.int i)) (tC (.int j))) σ n (.int (i ^ j.toNat)):=λH Q s q=>⟨hc,q _ _ (ak.refl H) (.int _)⟩
theorem rN {i:Int}(h1:DN H0 ta σ n (.int i)):DN H0 (Ju (rU λi=>.int (-i)) ta) σ n (.int (-i)):=λH Q s q=>by
 refine h1 H _ s λx H1 s1 d1=>?_
 cases d1
 exact⟨_,rfl,q _ _ s1 (.int _)⟩
theorem aQ:Fe H0 lO σ n []:=λH Q _ q=>q _ _ (ak.refl H) rfl λi u e h=>by simp at h
theorem ai {te:TE}{t:TA}{d:DV}{ds:List DV}(h1:DN H0 te σ n d)(h2:Fe H0 t σ n ds):Fe H0 (iC te t) σ n (d::ds):=λH Q s q=>by
 refine h1 H _ s λx H1 s1 d1=>h2 H1 _ (s.trans s1) λxs H2 s2 l2 d2=>q (x::xs) H2 (s1.trans s2) (by simp[l2]) λi u e hu he=>?_
 cases i with
 | zero=>cases hu;cases he;exact d1.cv (fH s2)
 | succ i=>exact d2 i u e hu he
theorem bB {t:TA}(h:Fe H0 t σ n ds)(hl:ds.length<=1000:=by(simp only[List.length_cons,List.length_nil];decide)):DN H0 (An t) σ (n + 1) (.tup ds):=λH Q s q=>by
 refine h H _ s λxs H1 s1 l1 d1=>⟨Nat.le_of_lt (aA (by omega)),λp hp=>q _ _ (s1.trans (ak.new _ hp)) (.tup (kB (s.trans s1) hp) l1 λi u e hu he=>(d1 i u e hu he).cv (fH (ak.new _ hp)))⟩
theorem dO {t:TA}(h:Fe H0 t σ n ds)(hl:ds.length<=1000:=by(simp only[List.length_cons,List.length_nil];decide)):DN H0 (ur t) σ (n + 1) (.lst ds):=λH Q s q=>by
 refine h H _ s λxs H1 s1 l1 d1=>⟨Nat.le_of_lt (aA (by omega)),λp hp=>q _ _ (s1.trans (ak.new _ hp)) (.lst (kB (s.trans s1) hp) l1 λi u e hu he=>(d1 i u e hu he).cv (fH (ak.new _ hp)))⟩
theorem rO {t:TA}(n:Nat){ds:List DV}(h:Fe H0 t σ n ds)(hl:ds.length<=1000)(q:∀x H',ak H0 H'->HD (gK (od H0) H') (n + 1) x (.lst ds)->Q x H'):ur t σ H0 Q:=dO h hl H0 Q (ak.refl _) q
theorem y0 (e:gK Z H a=some (.lst xs)):H a=some (.lst xs):=EJ a _ e (λk z=>by cases z)
theorem lE {t:TA}{H:Hp}{Q:VK}(n:Nat){i:Nat}{x:V}{ds es:List DV}(s0:ak H0 H)(h:Fe H0 t σ n es)(hl:es.length<=1000)(hi:σ[i]?=some (some x))(hx:HD (gK (od H0) H) (n + 1) x (.lst ds))(hd:ds.length<=1000)
  (q:∀x H',ak H H'->HD (gK (od H0) H') (n + 1) x (.lst (ds++es))->Q x H'):uh FT (ou i) (ur t) σ H Q:=by
 refine⟨_,hi,dO h hl H _ s0 λy H1 s1 hy=>?_⟩
 have lL:=hx.cv (fH s1)
 cases lL with
 | @lst _ a xs _ ea la da=>
  cases hy with
  | @lst _ b zs _ eb lb db=>
   refine .inl ⟨xs,zs,y0 ea,y0 eb,Nat.le_of_lt (Nat.lt_of_le_of_lt (m:=2000) (by omega) (by decide)),λp hp=>q _ _ (s1.trans (ak.new _ hp)) (.lst (kB (s0.trans s1) hp) (by simp[la,lb]) λj u e hu he=>?_)⟩
   by_cases hj:j < xs.length
   ·rw[List.getElem?_append_left hj] at hu
    rw[List.getElem?_append_left (by omega)] at he
    exact(da j u e hu he).cv (fH (ak.new _ hp))
   ·rw[List.getElem?_append_right (by omega)] at hu
    rw[List.getElem?_append_right (by omega),<-la] at he
    exact(db _ u e hu he).cv (fH (ak.new _ hp))
end
theorem y6:qu 10 30:=⟨by decide,by decide,by decide +kernel⟩
theorem tM:(0:Int) < 10 ^ Int.toNat 30:=by decide +kernel
def OR (m kj:Int):List DV:=[(DV.tup [(DV.int m),(DV.int 0),(DV.str "row")]),(DV.tup [(DV.int 0),(DV.int ((m + kj))),(DV.str "heap")]),(DV.tup [(DV.int (((-(1)) - kj))),(DV.int 0),(DV.str "row")]),(DV.tup [(DV.int 0),(DV.int 0),(DV.str "Row")]),(DV.tup [(DV.int 0),(DV.int 0),DV.bb]),(DV.tup [(DV.int 0),(DV.int 0)])]
def OS (m kj:Int):List DV:=[(DV.lst [(DV.int 0),(DV.int 0),(DV.str "row")]),(DV.tup [(DV.bl true),(DV.int 0),(DV.str "row")]),(DV.tup [(DV.int 0),(DV.bl false),(DV.str "heap")]),(DV.tup [(DV.int 0),(DV.int 0),(DV.str "row"),(DV.int 0)]),(DV.tup [(DV.str "0"),(DV.int 0),(DV.str "row")]),DV.bb]
def OT (m kj:Int):List DV:=[(DV.tup [(DV.int 0),DV.bb,(DV.str "row")]),(DV.str "row"),(DV.tup [(DV.int 0),(DV.int 0),(DV.lst [(DV.str "row")])]),(DV.int kj)]
def IQ (m kj:Int):List DV:=[(DV.tup [(DV.int m),(DV.int 0)]),(DV.tup [(DV.int (((-(1)) - kj))),(DV.int 0)]),(DV.tup [(DV.int 0),(DV.int (((10 ^ Int.toNat 60) + kj)))]),(DV.tup [(DV.int 0),(DV.int (((-(kj)) - (10 ^ Int.toNat 60))))]),(DV.tup [(DV.int 0),(DV.bl true)]),(DV.tup [(DV.bl true),(DV.int 0)]),(DV.tup [(DV.int 0),DV.bb]),(DV.tup [(DV.int 0)])]
def OU (m kj:Int):List DV:=[(DV.lst [(DV.int 0),(DV.int 0)]),(DV.tup [(DV.int 0),(DV.str "1")]),DV.bb,(DV.tup [(DV.int 0),(DV.int 0),(DV.int 0)]),(DV.tup [(DV.str "0"),(DV.int 0)]),(DV.int kj),(DV.str "00"),(DV.tup [(DV.int 0),(DV.tup [(DV.int 1)])])]
theorem y7 {i:Int}(h:i < 0):eC 0 m (.int i)=false:=by simp only[eC];rw[decide_eq_false (by omega)];rfl
theorem nS {lo i:Int}(h:m<=i):eC lo m (.int i)=false:=by simp only[eC];rw[decide_eq_false (p:=i < m) (by omega),Bool.and_false]
theorem Ff {lo i:Int}(h:i < lo):eC lo m (.int i)=false:=by simp only[eC];rw[decide_eq_false (p:=lo<=i) (by omega),Bool.false_and]
theorem Fg {m kj:Int}(hm:1<=m)(hf:0<=kj):∀d ∈ OR m kj++OS m kj++OT m kj,eD m d=false:=by
 have e1:qh (.str "Row") [.str "row",.str "heap"]=false:=by decide +kernel
 intro d hd
 simp only[OR,OS,OT,List.cons_append,List.nil_append,List.mem_cons,List.not_mem_nil,or_false] at hd
 rcases hd with rfl | rfl | rfl | rfl | rfl | rfl | rfl | rfl | rfl | rfl | rfl | rfl | rfl | rfl | rfl | rfl <;> first
  | rfl
  | (simp only[eD,e1,Bool.and_false];done)
  | (simp only[eD];rw[nS (Int.le_refl _)];rfl)
  | (simp only[eD];rw[nS (m:=m) (i:=m + kj) (by omega),Bool.false_and,Bool.and_false])
  | (simp only[eD];rw[y7 (by omega)];rfl)
  | (simp only[eD,eC,Bool.false_and,Bool.and_false];done)
theorem Fh {m kj:Int}(hm:1<=m)(hf:0<=kj):∀d ∈ IQ m kj++OU m kj,dN m d=false:=by
 have F9:(10:Int) ^ Int.toNat 60=1000000000000000000000000000000000000000000000000000000000000:=by decide +kernel
 intro d hd
 simp only[IQ,OU,List.cons_append,List.nil_append,List.mem_cons,List.not_mem_nil,or_false] at hd
 rcases hd with rfl | rfl | rfl | rfl | rfl | rfl | rfl | rfl | rfl | rfl | rfl | rfl | rfl | rfl | rfl | rfl <;> first
  | rfl
  | (simp only[dN];rw[nS (Int.le_refl _)];rfl)
  | (simp only[dN];rw[y7 (m:=m) (i:=-1 - kj) (by omega)];rfl)
  | (simp only[dN];rw[F9,nS (i:=1000000000000000000000000000000000000000000000000000000000000 + kj) (by omega),Bool.and_false])
  | (simp only[dN];rw[F9,Ff (i:=-kj - 1000000000000000000000000000000000000000000000000000000000000) (by omega),Bool.and_false])
  | (simp only[dN,eC,Bool.false_and,Bool.and_false];done)
theorem nU {K:W.Frag}{H:Hp}{n:Nat}{a:Addr}{ds:List DV}{z k:Int}{Z:Addr->Prop}{Q:V->Hp->Prop}(h:HD (gK Z H) (n + 1) (.ref a) (.lst ds))(hk:(ds.length:Int)=k)(hp:0 < k)(q:∀x d,HD (gK Z H) n x d->d ∈ ds->Q x H):∃xs v,(aX K H a xs\/bM K H a xs)/\iF xs (z % k)=some v/\Q v H:=by
 have Ml:0<=z % k:=Int.emod_nonneg _ (by omega)
 have uM:z % k < k:=Int.emod_lt_of_pos _ hp
 obtain⟨j,hj⟩:=Int.eq_ofNat_of_zero_le Ml
 rw[hj]
 cases h with
 | @lst _ _ xs _ ha la da=>
  have OV:j < xs.length:=by omega
  have OW:j < ds.length:=by omega
  exact⟨xs,xs[j],.inl (aX.of (y0 ha)),aq (dI OV),q _ _ (da j _ _ (dI OV) (dI OW)) (List.getElem_mem OW)⟩
theorem rP {r:R2}{D:Ends}(h:ta σ H λx H1=>tb σ H1 λy H2=>r x y H2 D.rt):Ae (uh r ta tb) D σ H:=h
theorem rQ {n:Nat}{x:V}(h:HD H n x (.lst ds)):∃a,x=.ref a:=by
 cases h
 exact⟨_,rfl⟩
abbrev jy:Stmt:=top 61
def y8:Sp:=λvs H Q _=>∃(z m s:Int),vs=[.int z,.int m,.int s]/\0<=s/\s<=2/\(1<=s->1<=m)/\∀x d H',ak H H'->HD (gK (od H) H') 3 x d->(s=1->eD m d=false)->(s=2->dN m d=false)->Q x H'
theorem vC (D:cJ K mg "_law_odd" "_law_odd" jy ["_law_cell","_law_many","_law_sort"])(T:Tx K mg C CN F FD):Def P w K mg base "_law_odd" 1 ["_law_cell","_law_many","_law_sort"] y8:=by
 have sc:aI ["_law_cell","_law_many","_law_sort","_law_far","_law_some"] ["_law_cell","_law_many","_law_sort"] (av jy):=by walk_at "s"
 symm
 ·obtain⟨z,m,s,rfl,RX,RY,hm,q⟩:=h
  rfl
 ·obtain⟨z,m,s,rfl,RX,RY,hm,q⟩:=h
  have hu:=hr.units
  refine⟨_,(aj (bj (i:=3) sc.nd rfl (by grind) (aG bt (aG bZ (pv 0) af) (aG dD af af)))
   (aj (bg (aM (bG hu) (pv 2) af (aT _)) (au (aK (aH hu (aS (ae fZ (ae cI (ae aR (ae (aO (ae af (ae (aS (ae af aa)) (ae (aS aa) (ae (aS aa) aa))))) (ae (aS (ae af (ae (aS (ae af aa)) (ae (aS aa) (ae (aS aa) aa))))) (ae (pv 3) (ae aR (ae xf aa))))))))) (aG bt (pv 0) af)))) aP)
   (aj (bg (aM (bG hu) (pv 2) af (aT _)) (aj (bj (i:=4) sc.nd rfl (by grind) (aS (ae (aO (ae (pv 1) (ae af (ae aR aa)))) (ae (aO (ae af (ae (aG bL (pv 1) (pv 3)) (ae aR aa)))) (ae (aO (ae (aG cB (jU gb af) (pv 3)) (ae af (ae aR aa)))) (ae (aO (ae af (ae af (ae aR aa)))) (ae (aO (ae af (ae af (ae fZ aa)))) (ae (aO (ae af (ae af aa))) aa))))))))
   (aj (bj (i:=4) sc.nd rfl (by grind) (aG bL (pv 4) (aS (ae (aS (ae af (ae af (ae aR aa)))) (ae (aO (ae cI (ae af (ae aR aa)))) (ae (aO (ae af (ae cI (ae aR aa)))) (ae (aO (ae af (ae af (ae aR (ae af aa))))) (ae (aO (ae aR (ae af (ae aR aa)))) (ae fZ aa)))))))))
   (au (aK (aH hu (aG bL (pv 4) (aS (ae (aO (ae af (ae fZ (ae aR aa)))) (ae aR (ae (aO (ae af (ae af (ae (aS (ae aR aa)) aa)))) (ae (pv 3) aa)))))) (aG bt (pv 0) af)))))) aP)
   (aj (bj (i:=4) sc.nd rfl (by grind) (aS (ae (aO (ae (pv 1) (ae af aa))) (ae (aO (ae (aG cB (jU gb af) (pv 3)) (ae af aa))) (ae (aO (ae af (ae (aG bL (aG dD af af) (pv 3)) aa))) (ae (aO (ae af (ae (aG cB (jU gb (pv 3)) (aG dD af af)) aa))) (ae (aO (ae af (ae cI aa))) (ae (aO (ae cI (ae af aa))) (ae (aO (ae af (ae fZ aa))) (ae (aO (ae af aa)) aa))))))))))
   (au (aK (aH hu (aG bL (pv 4) (aS (ae (aS (ae af (ae af aa))) (ae (aO (ae af (ae aR aa))) (ae fZ (ae (aO (ae af (ae af (ae af aa)))) (ae (aO (ae aR (ae af aa))) (ae (pv 3) (ae aR (ae (aO (ae af (ae (aO (ae af aa)) aa))) aa)))))))))) (aG bt (pv 0) af)))))))),?_⟩
  have RZ:oP z 16:=⟨by decide,by decide +kernel⟩
  refine⟨_,rfl,RZ,y6,tM,?_⟩
  have hf:0<=z / 16 % 10 ^ Int.toNat 30:=Int.emod_nonneg _ (by have:=tM;omega)
  try dsimp only[eH,List.set]
  generalize z / 16 % 10 ^ Int.toNat 30=kj at *
  have hs:s=0\/s=1\/s=2:=by omega
  rcases hs with rfl | rfl | rfl
  ·refine L2.aC λN1 h1=>?_
   refine L2.bF λT0 U0 hT hU=>?_
   right
   rw[if_pos (by decide)]
   refine L2.az hT ?_
   refine rP ?_
   refine rO (H0:=H) 3 (ai jx (ai pX (ai cw (ai (bB (ai aW (ai (dO (ai aW aQ)) (ai (dO aQ) (ai (dO aQ) aQ))))) (ai (dO (ai aW (ai (dO (ai aW aQ)) (ai (dO aQ) (ai (dO aQ) aQ))))) (ai (ej (i:=3) rfl) (ai cw (ai Bn aQ)))))))) (by simp only[List.length_cons,List.length_nil];decide) λx H1 s1 hx=>?_
   obtain⟨a,rfl⟩:=rQ hx
   right
   refine⟨by decide,nU (k:=8) hx rfl (by decide) λy d hy hd=>?_⟩
   exact q y d H1 s1 hy (λz=>nomatch z) (λz=>nomatch z)
  ·refine L2.aC λN1 h1=>?_
   refine L2.bF λT0 U0 hT hU=>?_
   right
   rw[if_neg (by decide)]
   refine L2.az hU ?_
   right
   refine L2.az h1 ?_
   clear h1 hT hU
   refine L2.aC λN1 h1=>?_
   refine L2.bF λT0 U0 hT hU=>?_
   right
   rw[if_pos (by decide)]
   refine L2.az hT ?_
   clear hT hU
   refine ny ?_
   refine rO (H0:=H) 3 (ai (bB (ai (ej (i:=1) rfl) (ai aW (ai cw aQ)))) (ai (bB (ai aW (ai (Cq (ej (i:=1) rfl) (ej (i:=3) rfl)) (ai cw aQ)))) (ai (bB (ai (rM (rN aW) (ej (i:=3) rfl)) (ai aW (ai cw aQ)))) (ai (bB (ai aW (ai aW (ai cw aQ)))) (ai (bB (ai aW (ai aW (ai jx aQ)))) (ai (bB (ai aW (ai aW aQ))) aQ)))))) (by simp only[List.length_cons,List.length_nil];decide) λx H1 s1 hx=>?_
   try dsimp only[List.set]
   refine ny ?_
   refine lE (H0:=H) 3 (i:=4) s1 (ai (dO (ai aW (ai aW (ai cw aQ)))) (ai (bB (ai pX (ai aW (ai cw aQ)))) (ai (bB (ai aW (ai pX (ai cw aQ)))) (ai (bB (ai aW (ai aW (ai cw (ai aW aQ))))) (ai (bB (ai cw (ai aW (ai cw aQ)))) (ai jx aQ)))))) (by simp only[List.length_cons,List.length_nil];decide) rfl hx (by simp only[List.length_cons,List.length_nil];decide) λx2 H2 s2 F1=>?_
   try dsimp only[List.set]
   refine rP ?_
   refine lE (H0:=H) 3 (i:=4) (s1.trans s2) (ai (bB (ai aW (ai jx (ai cw aQ)))) (ai cw (ai (bB (ai aW (ai aW (ai (dO (ai cw aQ)) aQ)))) (ai (ej (i:=3) rfl) aQ)))) (by simp only[List.length_cons,List.length_nil];decide) rfl F1 (by simp only[List.length_cons,List.length_nil,List.length_append];decide) λx3 H3 s3 Fb=>?_
   obtain⟨a,rfl⟩:=rQ Fb
   right
   refine⟨by decide,nU (k:=16) Fb rfl (by decide) λy d hy hd=>?_⟩
   exact q y d H3 (s1.trans (s2.trans s3)) hy (λ_=>Fg (hm (by decide)) hf d hd) (λz=>nomatch z)
  ·refine L2.aC λN1 h1=>?_
   refine L2.bF λT0 U0 hT hU=>?_
   right
   rw[if_neg (by decide)]
   refine L2.az hU ?_
   right
   refine L2.az h1 ?_
   clear h1 hT hU
   refine L2.aC λN1 h1=>?_
   refine L2.bF λT0 U0 hT hU=>?_
   right
   rw[if_neg (by decide)]
   refine L2.az hU ?_
   right
   refine L2.az h1 ?_
   clear h1 hT hU
   refine ny ?_
   refine rO (H0:=H) 3 (ai (bB (ai (ej (i:=1) rfl) (ai aW aQ))) (ai (bB (ai (rM (rN aW) (ej (i:=3) rfl)) (ai aW aQ))) (ai (bB (ai aW (ai (Cq (yZ (i:=10) (j:=60) gY) (ej (i:=3) rfl)) aQ))) (ai (bB (ai aW (ai (rM (rN (ej (i:=3) rfl)) (yZ (i:=10) (j:=60) gY)) aQ))) (ai (bB (ai aW (ai pX aQ))) (ai (bB (ai pX (ai aW aQ))) (ai (bB (ai aW (ai jx aQ))) (ai (bB (ai aW aQ)) aQ)))))))) (by simp only[List.length_cons,List.length_nil];decide) λx H1 s1 hx=>?_
   try dsimp only[List.set]
   refine rP ?_
   refine lE (H0:=H) 3 (i:=4) s1 (ai (dO (ai aW (ai aW aQ))) (ai (bB (ai aW (ai cw aQ))) (ai jx (ai (bB (ai aW (ai aW (ai aW aQ)))) (ai (bB (ai cw (ai aW aQ))) (ai (ej (i:=3) rfl) (ai cw (ai (bB (ai aW (ai (bB (ai aW aQ)) aQ))) aQ)))))))) (by simp only[List.length_cons,List.length_nil];decide) rfl hx (by simp only[List.length_cons,List.length_nil];decide) λx3 H3 s3 Fb=>?_
   obtain⟨a,rfl⟩:=rQ Fb
   right
   refine⟨by decide,nU (k:=16) Fb rfl (by decide) λy d hy hd=>?_⟩
   exact q y d H3 (s1.trans s3) hy (λz=>nomatch z) (λ_=>Fh (hm (by decide)) hf d hd)
theorem ML {K:W.Frag}{i:Nat}{L c:Addr}{zs:List V}(hσ:σ[i]?=some (some (.ref L)))(hL:H L=some (.lst [.ref a,.ref b,.ref c]))(ha:H a=some (.lst xs))(hb:H b=some (.lst ys))(hc:H c=some (.lst zs))
  (q:∀D a' b' c' H',ak H H'->H D=none->H a'=none->H b'=none->H c'=none->a'≠b'->a'≠c'->b'≠c'->D≠a'->D≠b'->D≠c'->H' D=some (.lst [.ref a',.ref b',.ref c'])->H' a'=some (.lst xs)->H' b'=some (.lst ys)->H' c'=some (.lst zs)->Q (.ref D) H'):
  FN [none] (AH K (ou i)) (eH 0) iJ (DI (su K) (iC (ou 0) lO)) σ H Q:=by
 refine cR ⟨_,hσ,.inl ⟨⟨_,aX.of hL⟩,λD hD=>?_⟩⟩
 refine bI (J:=ud K L) (n:=3) (λk us H'=>∃as:List Addr,us=as.map V.ref/\as.length=k/\(∀x ∈ as,x≠D/\H x=none)/\as.Nodup/\ak H H'/\∀(j:Nat) x src,as[j]?=some x->[xs,ys,zs][j]?=some src->H' x=some (.lst src)) (Nat.le_of_lt (aA (by omega))) ⟨[],rfl,rfl,λx hx=>(by simp at hx),List.nodup_nil,ak.new _ hD,λj x src e=>by simp at e⟩ ?_ ?_ ?_ ?_
 ·rintro k us H' hk ⟨as,rfl,hl,hn,hd,s,hh⟩
  exact⟨_,[V.ref a,.ref b,.ref c][k]'hk,aX.of (s _ _ hL),dI hk⟩
 ·rintro us H' ⟨as,rfl,hl,hn,hd,s,hh⟩
  exact⟨_,aX.of (s _ _ hL),Nat.le_refl _⟩
 ·rintro k us H' hk BL OX ⟨as,rfl,hl,hn,hd,s,hh⟩ x H4 ⟨rfl,y⟩
  have ex:=y _ (aX.of (s _ _ hL))
  have MM:∃src p,x=.ref p/\[xs,ys,zs][k]?=some src/\H4 p=some (.lst src):=by
   have vZ:k=0\/k=1\/k=2:=by omega
   rcases vZ with rfl | rfl | rfl <;> cases ex
   ·exact⟨xs,a,rfl,rfl,s _ _ ha⟩
   ·exact⟨ys,b,rfl,rfl,s _ _ hb⟩
   ·exact⟨zs,c,rfl,rfl,s _ _ hc⟩
  obtain⟨src,p,rfl,es,ep⟩:=MM
  refine⟨Ext.set (Ext.refl _) rfl,?_⟩
  walk_at "rd"
  first | rw[if_pos trivial] | rw[if_pos rfl]
  refine⟨_,.inl (aX.of ep),λl Gk=>?_⟩
  have s2:=ak.new (.lst src) Gk
  have OY:l≠D:=λz=>by rw[z,BL] at Gk;cases Gk
  refine cH (s2 _ _ BL) OX hk (Nat.le_of_lt (aA (by omega))) ⟨as++[l],by simp,by simp[hl],λx hx=>?_,?_,λb o e=>?_,λj x MN e1 e2=>?_⟩
  ·rcases List.mem_append.mp hx with hx | hx
   ·exact hn x hx
   ·simp only[List.mem_singleton] at hx;subst hx;exact⟨OY,cp s Gk⟩
  ·refine List.nodup_append.mpr ⟨hd,by simp,λu hu v hv e=>?_⟩
   simp only[List.mem_singleton] at hv
   subst hv e
   obtain⟨j,hj,rfl⟩:=List.getElem_of_mem hu
   have R0:j < [xs,ys,zs].length:=by show j < 3;omega
   rw[hh j _ _ (dI hj) (dI R0)] at Gk
   cases Gk
  ·rw[ay (ao e hD)]
   exact s2 _ _ (s _ _ e)
  ·by_cases hj:j < as.length
   ·rw[List.getElem?_append_left hj] at e1
    have hx:=List.mem_of_getElem? e1
    rw[ay (hn x hx).1]
    exact s2 _ _ (hh j x MN e1 e2)
   ·rw[List.getElem?_append_right (by omega)] at e1
    cases OZ:j - as.length with
    | succ n=>rw[OZ] at e1;simp at e1
    | zero=>
     rw[OZ] at e1
     cases e1
     have:j=k:=by omega
     subst this
     rw[es] at e2
     cases e2
     rw[ay OY]
     exact ag
 ·rintro us H' BL OX ⟨as,rfl,hl,hn,hd,s,hh⟩
  obtain⟨a',b',c',rfl⟩:=nO hl
  have na:=hn a' (by simp)
  have nb:=hn b' (by simp)
  have nc:=hn c' (by simp)
  have mh:a'≠b'/\a'≠c'/\b'≠c':=by
   simp only[List.nodup_cons,List.mem_cons,List.not_mem_nil,or_false,not_or] at hd
   exact⟨hd.1.1,hd.1.2,hd.2.1⟩
  exact q D a' b' c' H' s hD na.2 nb.2 nc.2 mh.1 mh.2.1 mh.2.2 (Ne.symm na.1) (Ne.symm nb.1) (Ne.symm nc.1) BL (hh 0 a' xs rfl rfl) (hh 1 b' ys rfl rfl) (hh 2 c' zs rfl rfl)
theorem Cr {bs:List Bool}{dl:List DV}(h:kh 1 5 (bs.length:Nat)=false):okN bs dw dl=false:=by simp only[okN,h,Bool.false_and]
theorem IS {bs:List Bool}{dl:List DV}(h:kh 0 10 (dw.length:Nat)=false):okN bs dw dl=false:=by simp only[okN,h,Bool.false_and,Bool.and_false]
theorem Cs {bs:List Bool}{dl:List DV}(h:kh 0 20 (dl.length:Nat)=false):okN bs dw dl=false:=by simp only[okN,h,Bool.false_and,Bool.and_false]
theorem IT {bs:List Bool}{dl:List DV}(h:bs.all id=false):okN bs dw dl=false:=by simp only[okN,h,Bool.false_and,Bool.and_false]
theorem rR {α:Type}{f:α->Bool}{l:List α}{d:α}(h:d ∈ l)(e:f d=false):(l.map f).all id=false:=by
 rw[List.all_eq_false]
 exact⟨f d,List.mem_map_of_mem h,by simp[e]⟩
theorem IU {bs:List Bool}{dl:List DV}(h:d ∈ dw)(e:eD (bs.length:Nat) d=false):okN bs dw dl=false:=by simp only[okN,rR h e,Bool.false_and,Bool.and_false]
theorem IV {bs:List Bool}{dl:List DV}(h:d ∈ dl)(e:dN (dw.length:Nat) d=false):okN bs dw dl=false:=by simp only[okN,rR h e,Bool.false_and,Bool.and_false]
theorem nV {α:Type}{l:List α}{x:α}{k n:Nat}(hk:k<=l.length)(hn:k < n):x ∈ (l.take k++x::l.drop k).take n:=by
 have e:(l.take k++x::l.drop k)[k]?=some x:=by
  rw[List.getElem?_append_right (by rw[List.length_take];omega)]
  have:k - (l.take k).length=0:=by rw[List.length_take];omega
  rw[this];rfl
 exact List.mem_of_getElem? (i:=k) (by rw[List.getElem?_take,if_pos hn];exact e)
theorem vD {lo m':Int}(h:eC lo m' d=true)(hm:m'<=m):eC lo m d=true:=by
 cases d <;> simp only[eC,Bool.and_eq_true,decide_eq_true_eq] at h ⊢ <;> first | exact h | (exact⟨h.1,by omega⟩)
theorem vE {m m':Int}{d:DV}(h:dN m d=false)(hm:m'<=m):dN m' d=false:=by
 cases e:dN m' d with
 | false=>rfl
 | true=>
  unfold dN at e h
  split at e
  ·rw[Bool.and_eq_true] at e
   simp only[vD e.1 hm,e.2,Bool.and_self] at h
   cases h
  ·cases e
theorem _root_.DD.d5.tN{n:Nat}(h:d5 H n vs ds)(k:Nat):d5 H n (vs.take k) (ds.take k):=⟨by simp[h.1],λi v d a b=>by
 rw[List.getElem?_take] at a b
 split at a
 ·rw[if_pos (by assumption)] at b;exact h.2 i v d a b
 ·cases a⟩
theorem _root_.DD.d5.Ct{n:Nat}(h:d5 H n vs ds)(k:Nat):d5 H n (vs.drop k) (ds.drop k):=⟨by simp[h.1],λi v d a b=>by
 rw[List.getElem?_drop] at a b
 exact h.2 _ v d a b⟩
theorem Fi {C:Addr}{cs:List V}(h:∀v ∈ cs,(∃m dx fs,v=.ref m/\H m=some (.ins C dx fs))\/∃d,HD H 4 v d):∃bs,zY C H cs bs/\∀x ∈ cs,(∃d,HD H 4 x d)->bs.all id=false:=by
 classical
 refine⟨cs.map λv=>decide (∃m dx fs,v=.ref m/\H m=some (.ins C dx fs)),⟨by simp,λi v b a e=>?_⟩,λx hx ⟨d,hd⟩=>rR hx (decide_eq_false ?_)⟩
 ·rw[List.getElem?_map,a] at e
  cases e
  by_cases z:∃m dx fs,v=.ref m/\H m=some (.ins C dx fs)
  ·exact .inl ⟨decide_eq_true z,z⟩
  ·exact .inr ⟨decide_eq_false z,(h v (List.mem_of_getElem? a)).resolve_left z⟩
 ·rintro⟨m,dx,fs,rfl,e⟩
  cases hd <;> simp_all
theorem nW {n:Nat}{v:V}(h:HD H n v d)(k:Nat):d5 H n (List.replicate k v) (List.replicate k d):=⟨by simp,λi x y a b=>by
 rw[List.getElem?_replicate] at a b
 split at a
 ·rw[if_pos (by assumption)] at b;cases a;cases b;exact h
 ·cases a⟩
abbrev fb:Stmt:=top 62
def y9 (C:Addr):Sp:=λvs H Q _=>∃(L am aw al:Addr) (mv wv lv:List V) (ws:List (Int×Int×Str)) (ls:List (Int×Int)) (z:Int),vs=[.ref L,.int z]/\LS C H L am aw al mv wv lv ws ls/\∀F fm fw fl oj j3 iX bs dw dl H',ak H H'->H' F=some (.lst [.ref fm,.ref fw,.ref fl])->H' fm=some (.lst oj)->H' fw=some (.lst j3)->H' fl=some (.lst iX)->zY C H' oj bs->d5 H' 4 j3 dw->d5 H' 4 iX dl->okN bs dw dl=false->oj.length<=100->j3.length<=100->iX.length<=100->Q (.ref F) H'
theorem l6 (D:cJ K mg "_law_spoiled" "_law_spoiled" fb ["_law_lists","_law_cell"])(T:Tx K mg C CN F FD)(jz:Def P w K mg base "_law_odd" 1 ["_law_cell","_law_many","_law_sort"] y8):Def P w K mg base "_law_spoiled" 2 ["_law_lists","_law_cell"] (y9 C):=by
 have sc:aI ["_law_lists","_law_cell","_law_sort","_law_found","_law_rest_of","_law_some","_law_most","_law_bad","_law_at_here"] ["_law_lists","_law_cell"] (av fb):=by walk_at "s"
 symm
 ·obtain⟨L,am,aw,al,mv,wv,lv,ws,ls,z,rfl,h,q⟩:=h
  rfl
 ·obtain⟨L,am,aw,al,mv,wv,lv,ws,ls,z,rfl,h,q⟩:=h
  have hu:=hr.units
  refine⟨_,(aj (bj (i:=2) sc.nd rfl (by grind) (aG bt (pv 1) af))
   (aj (cY (i:=3) sc.nd rfl (by grind) (N':=["_law_one"]) (ix:=[none]) (cZ (pv 0)) (λ_ _ _ _=>(bf (i:=0) (show(["_law_one"]:List Str).Nodup by decide +kernel) rfl (by grind))) rq (λ_ _ _ _=>(dW (cT (K:=K) rfl) rfl T.de tW (ae (pv 0) aa))))
   (aj (bj (i:=4) sc.nd rfl (by grind) (aG bZ (pv 1) af))
   (aj (bg (aM (bG hu) (aG bt (aG bZ (pv 1) af) af) af (aT _)) (aj (bj (i:=5) sc.nd rfl (by grind) (aH hu (aS (ae (aG bL (aH hu (pv 0) af) (aG iO (jf (aH hu (pv 0) af) gF (gG af)) af)) (ae (aG iO (aS (ae (aO (ae af (ae af (ae aR aa)))) aa)) af) (ae (aG iO (aS (ae (aO (ae af (ae af aa))) aa)) af) aa)))) (pv 2)))
   (aj (i6 (jf (pv 5) gF (gG (aG bL (aH hu (aS (ae af (ae af (ae af aa)))) (pv 2)) (aG bt (pv 4) af)))) (i5 (pv 3) (pv 2) dQ))
   (aj (bg (PW.pt (pw_and (aM (bG hu) (pv 2) af (aT _)) (pw_and1 (aM (bG hu) (aG bt (pv 4) af) af (aT _))))) (au (i6 (aS aa) (i5 (pv 3) af dQ))) aP)
   (aj (bg (PW.pt (pw_and (aM (bG hu) (pv 2) af (aT _)) (pw_and1 (aM (bG hu) (aH hu (pv 3) af) (aS aa) (aT _))))) (au (i6 (aS (ae (aO (ae af (ae af (ae aR aa)))) aa)) (i5 (pv 3) af dQ))) aP)
   (au (aK (pv 3))))))) aP)
   (aj (bj (i:=6) sc.nd rfl (by grind) (aH hu (aS (ae af (ae af (ae af aa)))) (pv 2)))
   (aj (bj (i:=7) sc.nd rfl (by grind) (aL jz hr (ae (pv 4) (ae (aH hu (aS (ae af (ae (aV aU rfl T.bW PySem.boot_len (ae (aH hu (pv 0) af) aa)) (ae (aV (uH rfl) rfl T.Cg PyProof.Rows.boot_max (ae af (ae (aV aU rfl T.bW PySem.boot_len (ae (aH hu (pv 0) af) aa)) aa))) aa)))) (pv 2)) (ae (pv 2) aa)))))
   (aj (bj (i:=8) sc.nd rfl (by grind) (aG bt (aG bZ (pv 4) af) (aG bL (aV (uJ rfl) rfl T.Cf PyProof.Rows.boot_min (ae (aG cB (pv 6) af) (ae (aV aU rfl T.bW PySem.boot_len (ae (aH hu (pv 3) (pv 2)) aa)) aa))) af)))
   (aj (dX (gO tV PySem.F.slot_list_insert PySem.F.type_list_insert yy (aH hu (pv 3) (pv 2)) (ae (pv 8) (ae (pv 7) aa))))
   (aj (i6 (jf (aH hu (pv 3) (pv 2)) gF (gG (pv 6))) (i5 (pv 3) (pv 2) dQ))
   (au (aK (pv 3)))))))))))),?_⟩
  refine L2.aC λN1 h1=>?_
  right
  refine⟨by decide,?_⟩
  refine L2.az h1 ?_
  clear h1
  refine L2.aC λN2 h2=>?_
  refine ML (i:=0) rfl h.l h.m h.w h.k λF fm fw fl H1 s1 nF nm nw nl n1 n2 n3 n4 n5 n6 eF em ew el=>?_
  refine L2.dZ ?_
  try dsimp only[List.set]
  refine L2.az h2 ?_
  clear h2
  refine L2.aC λN3 h3=>?_
  right
  refine⟨⟨by decide,by decide⟩,?_⟩
  refine L2.az h3 ?_
  clear h3
  have F3:=h.m1
  have Iq:=h.m5
  have rK:=h.zQ
  have Bl:=h.Cm
  have O0:z % 3=0\/z % 3=1\/z % 3=2:=by omega
  generalize qz:z % 3=sz at *
  generalize Us:z / 6=rz at *
  refine L2.aC λN4 h4=>?_
  refine L2.bF λT0 U0 hT hU=>?_
  right
  refine⟨⟨by decide,by decide⟩,by decide,?_⟩
  by_cases Ek:z / 3 % 2=0
  ·rw[if_pos (by simpa using Ek)]
   refine L2.az hT ?_
   clear hT hU h4
   obtain⟨x0,mr,II⟩:=take1 F3
   refine L2.aC λN5 h5=>?_
   right
   refine bp (s1 _ _ h.l) (aq (j:=0) rfl) ?_
   refine bp (s1 _ _ h.l) (aq (j:=0) rfl) ?_
   right
   refine .inl ⟨_,s1 _ _ h.m,λp1 pW=>?_⟩
   rw[show dM mv none (some 1)=[x0] by rw[II];exact(fR (k:=1)).trans rfl]
   have u1:=ak.new (.lst [x0]) pW
   have e1:upd H1 p1 (.lst [x0]) p1=some (.lst [x0]):=ag
   generalize IH:upd H1 p1 (.lst [x0])=G1 at *
   refine⟨x0,e1,by decide,by decide,λp2 j6=>?_⟩
   have u2:=ak.new (.lst (List.replicate (8:Int).toNat x0)) j6
   have e2:upd G1 p2 (.lst (List.replicate (8:Int).toNat x0)) p2=some (.lst (List.replicate (8:Int).toNat x0)):=ag
   generalize F2:upd G1 p2 (.lst (List.replicate (8:Int).toNat x0))=G2 at *
   have MO:=u1.trans u2
   right
   refine .inl ⟨_,_,MO _ _ (s1 _ _ h.m),e2,Nat.le_of_lt (aA (by simp only[List.length_replicate];show mv.length + 8<=1000;omega)),λp3 pP=>?_⟩
   have u3:=ak.new (.lst (mv++List.replicate (8:Int).toNat x0)) pP
   have e3:upd G2 p3 (.lst (mv++List.replicate (8:Int).toNat x0)) p3=some (.lst (mv++List.replicate (8:Int).toNat x0)):=ag
   generalize F6:upd G2 p3 (.lst (mv++List.replicate (8:Int).toNat x0))=G3 at *
   have O1:=MO.trans u3
   clear IH F2 F6
   right
   refine⟨by show 3<=sizeLine;decide,λt1 vT=>?_⟩
   have u4:=ak.new (.tup [.int 0,.int 0,.str "row"]) vT
   have f1:upd G3 t1 (.tup [.int 0,.int 0,.str "row"]) t1=some (.tup [.int 0,.int 0,.str "row"]):=ag
   generalize IJ:upd G3 t1 (.tup [.int 0,.int 0,.str "row"])=G4 at *
   refine⟨by show 1<=sizeLine;decide,λp5 pQ=>?_⟩
   have u5:=ak.new (.lst [.ref t1]) pQ
   have e5:upd G4 p5 (.lst [.ref t1]) p5=some (.lst [.ref t1]):=ag
   generalize Gg:upd G4 p5 (.lst [.ref t1])=G5 at *
   refine⟨.ref t1,e5,by decide,by decide,λp6 zX=>?_⟩
   have u6:=ak.new (.lst (List.replicate (13:Int).toNat (V.ref t1))) zX
   have e6:upd G5 p6 (.lst (List.replicate (13:Int).toNat (V.ref t1))) p6=some (.lst (List.replicate (13:Int).toNat (V.ref t1))):=ag
   generalize A6:upd G5 p6 (.lst (List.replicate (13:Int).toNat (V.ref t1)))=G6 at *
   clear IJ Gg A6
   right
   refine⟨cQ,λt2 rE=>?_⟩
   have u7:=ak.new (.tup [.int 0,.int 1]) rE
   have f2:upd G6 t2 (.tup [.int 0,.int 1]) t2=some (.tup [.int 0,.int 1]):=ag
   generalize J0:upd G6 t2 (.tup [.int 0,.int 1])=G7 at *
   refine⟨by show 1<=sizeLine;decide,λp8 zZ=>?_⟩
   have u8:=ak.new (.lst [.ref t2]) zZ
   have e8:upd G7 p8 (.lst [.ref t2]) p8=some (.lst [.ref t2]):=ag
   generalize J5:upd G7 p8 (.lst [.ref t2])=G8 at *
   refine⟨.ref t2,e8,by decide,by decide,λp9 tJ=>?_⟩
   have u9:=ak.new (.lst (List.replicate (23:Int).toNat (V.ref t2))) tJ
   have e9:upd G8 p9 (.lst (List.replicate (23:Int).toNat (V.ref t2))) p9=some (.lst (List.replicate (23:Int).toNat (V.ref t2))):=ag
   generalize MH:upd G8 p9 (.lst (List.replicate (23:Int).toNat (V.ref t2)))=G9 at *
   refine⟨by show 3<=sizeLine;decide,λpa rL=>?_⟩
   have ua:=ak.new (.lst [.ref p3,.ref p6,.ref p9]) rL
   have ea:upd G9 pa (.lst [.ref p3,.ref p6,.ref p9]) pa=some (.lst [.ref p3,.ref p6,.ref p9]):=ag
   generalize Bm:upd G9 pa (.lst [.ref p3,.ref p6,.ref p9])=Ga at *
   clear J0 J5 MH Bm
   have ux:ak G3 Ga:=u4.trans (u5.trans (u6.trans (u7.trans (u8.trans (u9.trans ua)))))
   have R1:=ux _ _ e3
   have R3:=(u5.trans (u6.trans (u7.trans (u8.trans (u9.trans ua))))) _ _ f1
   have R4:=(u7.trans (u8.trans (u9.trans ua))) _ _ e6
   have O2:=(u8.trans (u9.trans ua)) _ _ f2
   have R5:=ua _ _ e9
   have IW:ak H1 Ga:=O1.trans ux
   clear u1 u2 u3 u4 u5 u6 u7 u8 u9 ua ux MO O1 e1 e2 e3 e5 e6 e8 e9 f1 f2 pW j6 pP pQ zX zZ tJ rL vT rE
   have sA:ak H Ga:=s1.trans IW
   have Bo:=IW _ _ eF
   have MP:=IW _ _ em
   have MQ:=IW _ _ ew
   have MR:=IW _ _ el
   rcases O0 with rfl | rfl | rfl
   ·refine bp ea (aq (j:=0) rfl) ?_
    refine L2.az h5 ?_
    clear h5
    refine L2.aC λN6 h6=>?_
    right
    refine⟨by show 3<=sizeLine;decide,λpb tO=>?_⟩
    have ub:=ak.new (.lst [.int 6,.int 11,.int 21]) tO
    have eb:upd Ga pb (.lst [.int 6,.int 11,.int 21]) pb=some (.lst [.int 6,.int 11,.int 21]):=ag
    generalize vB:upd Ga pb (.lst [.int 6,.int 11,.int 21])=Gb at *
    refine bp eb (aq (j:=0) rfl) ?_
    refine⟨by decide,?_⟩
    right
    have IX:0<=rz % 3:=by omega
    have O3:rz % 3 < 3:=by omega
    obtain⟨r,hr⟩:=Int.eq_ofNat_of_zero_le IX
    rw[hr]
    have za:dM (mv++List.replicate (8:Int).toNat x0) none (some (6 + (r:Int)))=(mv++List.replicate (8:Int).toNat x0).take (6 + r):=by
     rw[show(6:Int) + (r:Int)=((6 + r:Nat):Int) by omega];exact fR
    refine .inl ⟨_,ub _ _ R1,λpc j4=>?_⟩
    rw[za]
    have Gm:((mv++List.replicate (8:Int).toNat x0).take (6 + r)).length=6 + r:=by
     rw[List.length_take,List.length_append,List.length_replicate]
     show min (6 + r) (mv.length + 8)=6 + r
     omega
    generalize vi:(mv++List.replicate (8:Int).toNat x0).take (6 + r)=cs at *
    have uc:=ak.new (.lst cs) j4
    have ec:upd Gb pc (.lst cs) pc=some (.lst cs):=ag
    have nc:H pc=none:=cp (sA.trans ub) j4
    have sC:ak Ga (upd Gb pc (.lst cs)):=ub.trans uc
    have v5:pc≠F:=λz=>by rw[z,ub _ _ Bo] at j4;cases j4
    generalize zb:upd Gb pc (.lst cs)=Gc at *
    refine⟨_,0,sC _ _ Bo,rfl,?_⟩
    try dsimp only[List.set]
    have kd:∀b o,b≠F->Gc b=some o->upd Gc F (.lst [.ref pc,.ref fw,.ref fl]) b=some o:=λb o ne e=>by rw[ay ne];exact e
    have pY:upd Gc F (.lst [.ref pc,.ref fw,.ref fl]) F=some (.lst [.ref pc,.ref fw,.ref fl]):=ag
    generalize zc:upd Gc F (.lst [.ref pc,.ref fw,.ref fl])=Gd at *
    refine L2.az h6 ?_
    clear h6 vB zb zc
    have v7:=kd _ _ v5 ec
    have kH:∀b o,H b=some o->Gd b=some o:=λb o e=>kd b o (ao e nF) (sC _ _ (sA _ _ e))
    have sD:ak H Gd:=kH
    have tD:bX Ga Gd:=λb ys e=>kd b _ (λz=>by rw[z,Bo] at e;cases e) (sC _ _ e)
    have Bp:=kd _ _ (Ne.symm n4) (sC _ _ MP)
    have zd:=kd _ _ (Ne.symm n5) (sC _ _ MQ)
    have Bq:=kd _ _ (Ne.symm n6) (sC _ _ MR)
    refine L2.aC λN7 h7=>?_
    refine L2.bF λT0 U0 hT hU=>?_
    right
    rw[if_pos (by decide)]
    refine⟨by decide,?_⟩
    by_cases hq:rz % 4=3
    ·rw[if_pos (by simpa using hq)]
     refine L2.az hT ?_
     clear hT hU
     right
     refine⟨Nat.zero_le _,λpe IY=>?_⟩
     have ue:=ak.new (.lst []) IY
     have ee:upd Gd pe (.lst []) pe=some (.lst []):=ag
     have IZ:pe≠F:=λz=>by rw[z,pY] at IY;cases IY
     generalize R6:upd Gd pe (.lst [])=Ge at *
     refine⟨_,0,ue _ _ pY,rfl,?_⟩
     try dsimp only[List.set]
     have kf:∀b o,b≠F->Ge b=some o->upd Ge F (.lst [.ref pe,.ref fw,.ref fl]) b=some o:=λb o ne e=>by rw[ay ne];exact e
     have MS:upd Ge F (.lst [.ref pe,.ref fw,.ref fl]) F=some (.lst [.ref pe,.ref fw,.ref fl]):=ag
     generalize R7:upd Ge F (.lst [.ref pe,.ref fw,.ref fl])=Gf at *
     have SS:ak H Gf:=λb o e=>kf b o (ao e nF) (ue _ _ (sD _ _ e))
     refine L2.az h7 ?_
     clear h7
     refine L2.aC λN8 h8=>?_
     refine L2.bF λT0 U0 hT hU=>?_
     right
     rw[if_neg (by decide)]
     refine L2.az hU ?_
     right
     refine L2.az h8 ?_
     right
     exact q F pe fw fl [] wv lv [] _ _ Gf SS MS (kf _ _ IZ ee) (kf _ _ (Ne.symm n5) (ue _ _ zd)) (kf _ _ (Ne.symm n6) (ue _ _ Bq)) ⟨rfl,λi v b e=>by simp at e⟩ ((h.hw.aY SS.aZ).gM (m:=4) (by decide)) ((h.hl.aY SS.aZ).gM (m:=4) (by decide)) (Cr rfl) (by simp) (by omega) (by omega)
    ·rw[if_neg (by simpa using hq)]
     refine L2.az hU ?_
     clear hT hU
     right
     have SS:=sD
     refine L2.az h7 ?_
     clear h7
     refine L2.aC λN8 h8=>?_
     refine L2.bF λT0 U0 hT hU=>?_
     right
     rw[if_neg (by decide)]
     refine L2.az hU ?_
     right
     refine L2.az h8 ?_
     right
     have xh:∀v ∈ cs,∃m dx fs,v=.ref m/\Gd m=some (.ins C dx fs):=λv hv=>by
      rw[<-vi] at hv
      have KI:v ∈ mv:=by
       rcases List.mem_append.mp (List.mem_of_mem_take hv) with hv | hv
       ·exact hv
       ·rw[List.eq_of_mem_replicate hv,II];simp
      obtain⟨m,dx,fs,e,g⟩:=h.ms v KI
      exact⟨m,dx,fs,e,SS _ _ g⟩
     exact q F pc fw fl cs wv lv _ _ _ Gd SS pY v7 zd Bq (LS.me xh) ((h.hw.aY SS.aZ).gM (m:=4) (by decide)) ((h.hl.aY SS.aZ).gM (m:=4) (by decide)) (Cr (by rw[List.length_replicate,Gm];simp[kh];omega)) (by omega) (by omega) (by omega)
   ·refine bp ea (aq (j:=1) rfl) ?_
    refine L2.az h5 ?_
    clear h5
    refine L2.aC λN6 h6=>?_
    right
    refine⟨by show 3<=sizeLine;decide,λpb tO=>?_⟩
    have ub:=ak.new (.lst [.int 6,.int 11,.int 21]) tO
    have eb:upd Ga pb (.lst [.int 6,.int 11,.int 21]) pb=some (.lst [.int 6,.int 11,.int 21]):=ag
    generalize vB:upd Ga pb (.lst [.int 6,.int 11,.int 21])=Gb at *
    refine bp eb (aq (j:=1) rfl) ?_
    refine⟨by decide,?_⟩
    right
    have IX:0<=rz % 3:=by omega
    have O3:rz % 3 < 3:=by omega
    obtain⟨r,hr⟩:=Int.eq_ofNat_of_zero_le IX
    rw[hr]
    have za:dM (List.replicate (13:Int).toNat (V.ref t1)) none (some (11 + (r:Int)))=(List.replicate (13:Int).toNat (V.ref t1)).take (11 + r):=by
     rw[show(11:Int) + (r:Int)=((11 + r:Nat):Int) by omega];exact fR
    refine .inl ⟨_,ub _ _ R4,λpc j4=>?_⟩
    rw[za]
    have Gm:((List.replicate (13:Int).toNat (V.ref t1)).take (11 + r)).length=11 + r:=by
     rw[List.length_take,List.length_replicate]
     show min (11 + r) 13=11 + r
     omega
    generalize vi:(List.replicate (13:Int).toNat (V.ref t1)).take (11 + r)=cs at *
    have uc:=ak.new (.lst cs) j4
    have ec:upd Gb pc (.lst cs) pc=some (.lst cs):=ag
    have nc:H pc=none:=cp (sA.trans ub) j4
    have sC:ak Ga (upd Gb pc (.lst cs)):=ub.trans uc
    have v5:pc≠F:=λz=>by rw[z,ub _ _ Bo] at j4;cases j4
    generalize zb:upd Gb pc (.lst cs)=Gc at *
    refine⟨_,1,sC _ _ Bo,rfl,?_⟩
    try dsimp only[List.set]
    have kd:∀b o,b≠F->Gc b=some o->upd Gc F (.lst [.ref fm,.ref pc,.ref fl]) b=some o:=λb o ne e=>by rw[ay ne];exact e
    have pY:upd Gc F (.lst [.ref fm,.ref pc,.ref fl]) F=some (.lst [.ref fm,.ref pc,.ref fl]):=ag
    generalize zc:upd Gc F (.lst [.ref fm,.ref pc,.ref fl])=Gd at *
    refine L2.az h6 ?_
    clear h6 vB zb zc
    have v7:=kd _ _ v5 ec
    have kH:∀b o,H b=some o->Gd b=some o:=λb o e=>kd b o (ao e nF) (sC _ _ (sA _ _ e))
    have sD:ak H Gd:=kH
    have tD:bX Ga Gd:=λb ys e=>kd b _ (λz=>by rw[z,Bo] at e;cases e) (sC _ _ e)
    have Bp:=kd _ _ (Ne.symm n4) (sC _ _ MP)
    have zd:=kd _ _ (Ne.symm n5) (sC _ _ MQ)
    have Bq:=kd _ _ (Ne.symm n6) (sC _ _ MR)
    refine L2.aC λN7 h7=>?_
    refine L2.bF λT0 U0 hT hU=>?_
    right
    rw[if_neg (by decide)]
    refine L2.az hU ?_
    right
    refine L2.az h7 ?_
    clear h7 hT hU
    refine L2.aC λN8 h8=>?_
    refine L2.bF λT0 U0 hT hU=>?_
    right
    have lN:d5 Gd 4 cs (List.replicate cs.length (dg (0,0,"row"))):=by
     have e1:cs=List.replicate cs.length (V.ref t1):=List.eq_replicate_iff.mpr ⟨rfl,λv hv=>by rw[<-vi] at hv;exact List.eq_of_mem_replicate (List.mem_of_mem_take hv)⟩
     rw[e1,List.length_replicate]
     exact nW ((show HT Gd 1 (.ref t1) (dg (0,0,"row")) from eR (n:=0) (tD _ _ R3) (.int 0) (.int 0) (.str "row")).hd.mono (by decide)) _
    rw[if_neg (by decide)]
    refine L2.az hU ?_
    right
    refine L2.az h8 ?_
    right
    have SS:=sD
    exact q F fm pc fl mv cs lv _ _ _ Gd SS pY Bp v7 Bq (LS.me λv hv=>by obtain⟨m,dx,fs,e,g⟩:=h.ms v hv;exact⟨m,dx,fs,e,SS _ _ g⟩) lN ((h.hl.aY SS.aZ).gM (m:=4) (by decide)) (IS (by rw[List.length_replicate,Gm];simp[kh];omega)) (by omega) (by omega) (by omega)
   ·refine bp ea (aq (j:=2) rfl) ?_
    refine L2.az h5 ?_
    clear h5
    refine L2.aC λN6 h6=>?_
    right
    refine⟨by show 3<=sizeLine;decide,λpb tO=>?_⟩
    have ub:=ak.new (.lst [.int 6,.int 11,.int 21]) tO
    have eb:upd Ga pb (.lst [.int 6,.int 11,.int 21]) pb=some (.lst [.int 6,.int 11,.int 21]):=ag
    generalize vB:upd Ga pb (.lst [.int 6,.int 11,.int 21])=Gb at *
    refine bp eb (aq (j:=2) rfl) ?_
    refine⟨by decide,?_⟩
    right
    have IX:0<=rz % 3:=by omega
    have O3:rz % 3 < 3:=by omega
    obtain⟨r,hr⟩:=Int.eq_ofNat_of_zero_le IX
    rw[hr]
    have za:dM (List.replicate (23:Int).toNat (V.ref t2)) none (some (21 + (r:Int)))=(List.replicate (23:Int).toNat (V.ref t2)).take (21 + r):=by
     rw[show(21:Int) + (r:Int)=((21 + r:Nat):Int) by omega];exact fR
    refine .inl ⟨_,ub _ _ R5,λpc j4=>?_⟩
    rw[za]
    have Gm:((List.replicate (23:Int).toNat (V.ref t2)).take (21 + r)).length=21 + r:=by
     rw[List.length_take,List.length_replicate]
     show min (21 + r) 23=21 + r
     omega
    generalize vi:(List.replicate (23:Int).toNat (V.ref t2)).take (21 + r)=cs at *
    have uc:=ak.new (.lst cs) j4
    have ec:upd Gb pc (.lst cs) pc=some (.lst cs):=ag
    have nc:H pc=none:=cp (sA.trans ub) j4
    have sC:ak Ga (upd Gb pc (.lst cs)):=ub.trans uc
    have v5:pc≠F:=λz=>by rw[z,ub _ _ Bo] at j4;cases j4
    generalize zb:upd Gb pc (.lst cs)=Gc at *
    refine⟨_,2,sC _ _ Bo,rfl,?_⟩
    try dsimp only[List.set]
    have kd:∀b o,b≠F->Gc b=some o->upd Gc F (.lst [.ref fm,.ref fw,.ref pc]) b=some o:=λb o ne e=>by rw[ay ne];exact e
    have pY:upd Gc F (.lst [.ref fm,.ref fw,.ref pc]) F=some (.lst [.ref fm,.ref fw,.ref pc]):=ag
    generalize zc:upd Gc F (.lst [.ref fm,.ref fw,.ref pc])=Gd at *
    refine L2.az h6 ?_
    clear h6 vB zb zc
    have v7:=kd _ _ v5 ec
    have kH:∀b o,H b=some o->Gd b=some o:=λb o e=>kd b o (ao e nF) (sC _ _ (sA _ _ e))
    have sD:ak H Gd:=kH
    have tD:bX Ga Gd:=λb ys e=>kd b _ (λz=>by rw[z,Bo] at e;cases e) (sC _ _ e)
    have Bp:=kd _ _ (Ne.symm n4) (sC _ _ MP)
    have zd:=kd _ _ (Ne.symm n5) (sC _ _ MQ)
    have Bq:=kd _ _ (Ne.symm n6) (sC _ _ MR)
    refine L2.aC λN7 h7=>?_
    refine L2.bF λT0 U0 hT hU=>?_
    right
    rw[if_neg (by decide)]
    refine L2.az hU ?_
    right
    refine L2.az h7 ?_
    clear h7 hT hU
    refine L2.aC λN8 h8=>?_
    refine L2.bF λT0 U0 hT hU=>?_
    right
    have lN:d5 Gd 4 cs (List.replicate cs.length (fF (0,1))):=by
     have e1:cs=List.replicate cs.length (V.ref t2):=List.eq_replicate_iff.mpr ⟨rfl,λv hv=>by rw[<-vi] at hv;exact List.eq_of_mem_replicate (List.mem_of_mem_take hv)⟩
     rw[e1,List.length_replicate]
     exact nW ((show HT Gd 1 (.ref t2) (fF (0,1)) from eQ (n:=0) (tD _ _ O2) (.int 0) (.int 1)).hd.mono (by decide)) _
    rw[if_pos (by decide)]
    refine bp pY (aq (j:=1) rfl) ?_
    refine⟨Nat.zero_le _,λpe IY=>?_⟩
    have ue:=ak.new (.lst []) IY
    have ee:upd Gd pe (.lst []) pe=some (.lst []):=ag
    generalize R6:upd Gd pe (.lst [])=Ge at *
    right
    by_cases O4:wv=[]
    ·subst O4
     refine .inl ⟨.inr ⟨_,_,_,_,rfl,rfl,.inr ⟨aX.of (ue _ _ zd),aX.of ee⟩,rfl,λj u v hu=>by simp at hu⟩,?_⟩
     first | rw[if_pos trivial] | rw[if_pos rfl]
     refine L2.az hT ?_
     clear hT hU
     right
     refine⟨by show 3<=sizeLine;decide,λt3 yI=>?_⟩
     have u4:=ak.new (.tup [.int 0,.int 0,.str "heap"]) yI
     have f3:upd Ge t3 (.tup [.int 0,.int 0,.str "heap"]) t3=some (.tup [.int 0,.int 0,.str "heap"]):=ag
     generalize IJ:upd Ge t3 (.tup [.int 0,.int 0,.str "heap"])=G4 at *
     refine⟨by show 1<=sizeLine;decide,λp5 pQ=>?_⟩
     have u5:=ak.new (.lst [.ref t3]) pQ
     have e5:upd G4 p5 (.lst [.ref t3]) p5=some (.lst [.ref t3]):=ag
     have R8:p5≠F:=λz=>by rw[z,(ue.trans u4) _ _ pY] at pQ;cases pQ
     generalize Gg:upd G4 p5 (.lst [.ref t3])=G5 at *
     have ux:=ue.trans (u4.trans u5)
     refine⟨_,1,ux _ _ pY,rfl,?_⟩
     try dsimp only[List.set]
     have kf:∀b o,b≠F->G5 b=some o->upd G5 F (.lst [.ref fm,.ref p5,.ref pc]) b=some o:=λb o ne e=>by rw[ay ne];exact e
     have MS:upd G5 F (.lst [.ref fm,.ref p5,.ref pc]) F=some (.lst [.ref fm,.ref p5,.ref pc]):=ag
     generalize R7:upd G5 F (.lst [.ref fm,.ref p5,.ref pc])=Gf at *
     have SS:ak H Gf:=λb o e=>kf b o (ao e nF) (ux _ _ (sD _ _ e))
     refine L2.az h8 ?_
     right
     have tF:bX G5 Gf:=λb ys e=>kf b _ (λz=>by rw[z,ux _ _ pY] at e;cases e) e
     have R9:d5 Gf 4 [.ref t3] [dg (0,0,"heap")]:=d5.one ((show HT Gf 1 (.ref t3) (dg (0,0,"heap")) from eR (n:=0) (tF _ _ (u5 _ _ f3)) (.int 0) (.int 0) (.str "heap")).hd.mono (by decide))
     have Sa:d5 Gf 4 cs (List.replicate cs.length (fF (0,1))):=by
      have e1:cs=List.replicate cs.length (V.ref t2):=List.eq_replicate_iff.mpr ⟨rfl,λv hv=>by rw[<-vi] at hv;exact List.eq_of_mem_replicate (List.mem_of_mem_take hv)⟩
      rw[e1,List.length_replicate]
      exact nW ((show HT Gf 1 (.ref t2) (fF (0,1)) from eQ (n:=0) (tF _ _ (ux.aZ _ _ (tD _ _ O2))) (.int 0) (.int 1)).hd.mono (by decide)) _
     exact q F fm p5 pc mv [.ref t3] cs _ _ _ Gf SS MS (kf _ _ (Ne.symm n4) (ux _ _ Bp)) (kf _ _ R8 e5) (kf _ _ v5 (ux _ _ v7)) (LS.me λv hv=>by obtain⟨m,dx,fs,e,g⟩:=h.ms v hv;exact⟨m,dx,fs,e,SS _ _ g⟩) R9 Sa (Cs (by rw[List.length_replicate,Gm];simp[kh];omega)) (by omega) (by simp) (by omega)
    ·refine .inr ⟨⟨_,_,by simp[O4],.inl ⟨aX.of (ue _ _ zd),aX.of ee⟩⟩,?_⟩
     try rw[if_neg Bool.false_ne_true]
     refine L2.az hU ?_
     right
     refine L2.az h8 ?_
     right
     have SS:=sD.trans ue
     exact q F fm fw pc mv wv cs _ _ _ Ge SS (ue _ _ pY) (ue _ _ Bp) (ue _ _ zd) (ue _ _ v7) (LS.me λv hv=>by obtain⟨m,dx,fs,e,g⟩:=h.ms v hv;exact⟨m,dx,fs,e,SS _ _ g⟩) ((h.hw.aY SS.aZ).gM (m:=4) (by decide)) (d5.same ue lN) (Cs (by rw[List.length_replicate,Gm];simp[kh];omega)) (by omega) (by omega) (by omega)
  ·rw[if_neg (by simpa using Ek)]
   refine L2.az hU ?_
   right
   refine L2.az h4 ?_
   clear h4 hT hU
   rcases O0 with rfl | rfl | rfl
   ·refine L2.aC λN5 h5=>?_
    right
    refine⟨by show 3<=sizeLine;decide,λpa rL=>?_⟩
    have ua:=ak.new (.lst [.int 5,.int 10,.int 20]) rL
    have ea:upd H1 pa (.lst [.int 5,.int 10,.int 20]) pa=some (.lst [.int 5,.int 10,.int 20]):=ag
    generalize Bm:upd H1 pa (.lst [.int 5,.int 10,.int 20])=Ga at *
    refine bp ea (aq (j:=0) rfl) ?_
    refine L2.az h5 ?_
    clear h5
    have nR:=s1.trans ua
    refine L2.aC λN6 h6=>?_
    right
    refine bp (nR _ _ h.l) (aq (j:=0) rfl) ?_
    refine⟨_,.inl ⟨_,aX.of (nR _ _ h.m),rfl⟩,?_⟩
    refine bp (nR _ _ h.l) (aq (j:=1) rfl) ?_
    refine⟨_,.inl ⟨_,aX.of (nR _ _ h.w),rfl⟩,?_⟩
    right
    obtain⟨mx,Ja,lL,MT⟩:∃mx:Int,(if ((wv.length:Nat):Int) > 1 then((wv.length:Nat):Int) else 1)=mx/\1<=mx/\((wv.length:Nat):Int)<=mx:=⟨_,rfl,by split <;> omega,by split <;> omega⟩
    rw[Ja]
    refine⟨by show 3<=sizeLine;decide,λpb tO=>?_⟩
    have ub:=ak.new (.lst [.int 0,.int (mv.length:Nat),.int mx]) tO
    have eb:upd Ga pb (.lst [.int 0,.int (mv.length:Nat),.int mx]) pb=some (.lst [.int 0,.int (mv.length:Nat),.int mx]):=ag
    generalize vB:upd Ga pb (.lst [.int 0,.int (mv.length:Nat),.int mx])=Gb at *
    refine bp eb (aq (j:=0) rfl) ?_
    refine⟨rz,_,0,rfl,by decide,by decide,λ_=>by omega,λx d Go uo hx MU MV=>?_⟩
    refine L2.az h6 ?_
    clear h6 Bm vB
    have u1:ak H1 Go:=ua.trans (ub.trans uo)
    have sO:ak H Go:=s1.trans u1
    have Jb:od Gb F:=λz=>by rw[(ua.trans ub) _ _ eF] at z;cases z
    have Jc:od Gb fm:=λz=>by rw[(ua.trans ub) _ _ em] at z;cases z
    clear ua ub uo ea eb rL tO nR
    have ze:=u1 _ _ eF
    have Fj:=u1 _ _ em
    have Fl:=u1 _ _ ew
    have Fm:=u1 _ _ el
    refine L2.aC λN7 h7=>?_
    right
    refine⟨⟨by decide,by decide⟩,?_⟩
    refine bp ze (aq (j:=0) rfl) ?_
    refine⟨_,.inl ⟨_,aX.of Fj,rfl⟩,?_⟩
    right
    obtain⟨mn,Jd,O5,O6,DC⟩:∃mn:Int,(if ((mv.length:Nat):Int) < 5 - 1 then((mv.length:Nat):Int) else 5 - 1)=mn/\0<=mn/\mn<=5 - 1/\mn<=((mv.length:Nat):Int):=⟨_,rfl,by split <;> omega,by split <;> omega,by split <;> omega⟩
    rw[Jd]
    refine⟨by omega,?_⟩
    have a0:0<=rz / 7 % (mn + 1):=Int.emod_nonneg _ (by omega)
    have a1:rz / 7 % (mn + 1) < mn + 1:=Int.emod_lt_of_pos _ (by omega)
    obtain⟨ah,Je⟩:=Int.eq_ofNat_of_zero_le a0
    rw[Je] at a1 ⊢
    refine L2.az h7 ?_
    clear h7
    refine L2.aC λN8 h8=>?_
    right
    refine bp ze (aq (j:=0) rfl) ?_
    refine⟨.inl ⟨rfl,_,aX.of Fj⟩,?_⟩
    right
    refine⟨ah,_,rfl,Fj,by omega,by omega,?_⟩
    generalize se:mv.take ah++x::mv.drop ah=cs at *
    have lcs:cs.length=mv.length + 1:=by rw[<-se];simp;omega
    have ki:∀b o,b≠fm->Go b=some o->upd Go fm (.lst cs) b=some o:=λb o ne e=>by rw[ay ne];exact e
    have ei:upd Go fm (.lst cs) fm=some (.lst cs):=ag
    generalize Jf:upd Go fm (.lst cs)=Gi at *
    refine L2.az h8 ?_
    clear h8 Jf
    have zf:=ki _ _ n4 ze
    refine L2.aC λN9 h9=>?_
    right
    refine bp zf (aq (j:=0) rfl) ?_
    right
    refine .inl ⟨_,ei,λpc j4=>?_⟩
    rw[show dM cs none (some 5)=cs.take 5 from fR (k:=5)]
    have uc:=ak.new (.lst (cs.take 5)) j4
    have ec:upd Gi pc (.lst (cs.take 5)) pc=some (.lst (cs.take 5)):=ag
    have v5:pc≠F:=λz=>by rw[z,zf] at j4;cases j4
    generalize zb:upd Gi pc (.lst (cs.take 5))=Gc at *
    refine⟨_,0,uc _ _ zf,rfl,?_⟩
    try dsimp only[List.set]
    have kd:∀b o,b≠F->Gc b=some o->upd Gc F (.lst [.ref pc,.ref fw,.ref fl]) b=some o:=λb o ne e=>by rw[ay ne];exact e
    have pY:upd Gc F (.lst [.ref pc,.ref fw,.ref fl]) F=some (.lst [.ref pc,.ref fw,.ref fl]):=ag
    generalize zc:upd Gc F (.lst [.ref pc,.ref fw,.ref fl])=Gd at *
    refine L2.az h9 ?_
    clear h9 zb zc
    right
    have kO:∀b o,b≠F->b≠fm->Go b=some o->Gd b=some o:=λb o n1 n2 e=>kd b o n1 (uc _ _ (ki b o n2 e))
    have SS:ak H Gd:=λb o e=>kO b o (ao e nF) (ao e nm) (sO _ _ e)
    have v7:=kd _ _ v5 ec
    have Gn:HD Gd 4 x d:=(hx.cv (H':=Gd) (λb o e n=>by
     obtain⟨g1,g2⟩:=gi e n
     exact kO b o (λz=>g1 (z ▸ Jb)) (λz=>g1 (z ▸ Jc)) g2)).mono (by decide)
    have zd:=kO _ _ (Ne.symm n5) (Ne.symm n1) Fl
    have Bq:=kO _ _ (Ne.symm n6) (Ne.symm n2) Fm
    have O7:∀v ∈ cs.take 5,(∃m dx fs,v=.ref m/\Gd m=some (.ins C dx fs))\/∃d,HD Gd 4 v d:=λv hv=>by
     have hv:=List.mem_of_mem_take hv
     rw[<-se] at hv
     rcases List.mem_append.mp hv with hv | hv
     ·obtain⟨m,dx,fs,e,g⟩:=h.ms v (List.mem_of_mem_take hv)
      exact .inl ⟨m,dx,fs,e,SS _ _ g⟩
     ·rcases List.mem_cons.mp hv with rfl | hv
      ·exact .inr ⟨d,Gn⟩
      ·obtain⟨m,dx,fs,e,g⟩:=h.ms v (List.mem_of_mem_drop hv)
       exact .inl ⟨m,dx,fs,e,SS _ _ g⟩
    obtain⟨bs,Sb,Sd⟩:=Fi O7
    exact q F pc fw fl _ wv lv bs _ _ Gd SS pY v7 zd Bq Sb ((h.hw.aY SS.aZ).gM (m:=4) (by decide)) ((h.hl.aY SS.aZ).gM (m:=4) (by decide)) (IT (Sd x (by rw[<-se];exact nV (by omega) (by omega)) ⟨d,Gn⟩)) (by rw[List.length_take];omega) (by omega) (by omega)
   ·refine L2.aC λN5 h5=>?_
    right
    refine⟨by show 3<=sizeLine;decide,λpa rL=>?_⟩
    have ua:=ak.new (.lst [.int 5,.int 10,.int 20]) rL
    have ea:upd H1 pa (.lst [.int 5,.int 10,.int 20]) pa=some (.lst [.int 5,.int 10,.int 20]):=ag
    generalize Bm:upd H1 pa (.lst [.int 5,.int 10,.int 20])=Ga at *
    refine bp ea (aq (j:=1) rfl) ?_
    refine L2.az h5 ?_
    clear h5
    have nR:=s1.trans ua
    refine L2.aC λN6 h6=>?_
    right
    refine bp (nR _ _ h.l) (aq (j:=0) rfl) ?_
    refine⟨_,.inl ⟨_,aX.of (nR _ _ h.m),rfl⟩,?_⟩
    refine bp (nR _ _ h.l) (aq (j:=1) rfl) ?_
    refine⟨_,.inl ⟨_,aX.of (nR _ _ h.w),rfl⟩,?_⟩
    right
    obtain⟨mx,Ja,lL,MT⟩:∃mx:Int,(if ((wv.length:Nat):Int) > 1 then((wv.length:Nat):Int) else 1)=mx/\1<=mx/\((wv.length:Nat):Int)<=mx:=⟨_,rfl,by split <;> omega,by split <;> omega⟩
    rw[Ja]
    refine⟨by show 3<=sizeLine;decide,λpb tO=>?_⟩
    have ub:=ak.new (.lst [.int 0,.int (mv.length:Nat),.int mx]) tO
    have eb:upd Ga pb (.lst [.int 0,.int (mv.length:Nat),.int mx]) pb=some (.lst [.int 0,.int (mv.length:Nat),.int mx]):=ag
    generalize vB:upd Ga pb (.lst [.int 0,.int (mv.length:Nat),.int mx])=Gb at *
    refine bp eb (aq (j:=1) rfl) ?_
    refine⟨rz,_,1,rfl,by decide,by decide,λ_=>by omega,λx d Go uo hx MU MV=>?_⟩
    refine L2.az h6 ?_
    clear h6 Bm vB
    have u1:ak H1 Go:=ua.trans (ub.trans uo)
    have sO:ak H Go:=s1.trans u1
    have Jb:od Gb F:=λz=>by rw[(ua.trans ub) _ _ eF] at z;cases z
    have Jc:od Gb fw:=λz=>by rw[(ua.trans ub) _ _ ew] at z;cases z
    clear ua ub uo ea eb rL tO nR
    have ze:=u1 _ _ eF
    have Fj:=u1 _ _ em
    have Fl:=u1 _ _ ew
    have Fm:=u1 _ _ el
    refine L2.aC λN7 h7=>?_
    right
    refine⟨⟨by decide,by decide⟩,?_⟩
    refine bp ze (aq (j:=1) rfl) ?_
    refine⟨_,.inl ⟨_,aX.of Fl,rfl⟩,?_⟩
    right
    obtain⟨mn,Jd,O5,O6,DC⟩:∃mn:Int,(if ((wv.length:Nat):Int) < 10 - 1 then((wv.length:Nat):Int) else 10 - 1)=mn/\0<=mn/\mn<=10 - 1/\mn<=((wv.length:Nat):Int):=⟨_,rfl,by split <;> omega,by split <;> omega,by split <;> omega⟩
    rw[Jd]
    refine⟨by omega,?_⟩
    have a0:0<=rz / 7 % (mn + 1):=Int.emod_nonneg _ (by omega)
    have a1:rz / 7 % (mn + 1) < mn + 1:=Int.emod_lt_of_pos _ (by omega)
    obtain⟨ah,Je⟩:=Int.eq_ofNat_of_zero_le a0
    rw[Je] at a1 ⊢
    refine L2.az h7 ?_
    clear h7
    refine L2.aC λN8 h8=>?_
    right
    refine bp ze (aq (j:=1) rfl) ?_
    refine⟨.inl ⟨rfl,_,aX.of Fl⟩,?_⟩
    right
    refine⟨ah,_,rfl,Fl,by omega,by omega,?_⟩
    generalize se:wv.take ah++x::wv.drop ah=cs at *
    have lcs:cs.length=wv.length + 1:=by rw[<-se];simp;omega
    have ki:∀b o,b≠fw->Go b=some o->upd Go fw (.lst cs) b=some o:=λb o ne e=>by rw[ay ne];exact e
    have ei:upd Go fw (.lst cs) fw=some (.lst cs):=ag
    generalize Jf:upd Go fw (.lst cs)=Gi at *
    refine L2.az h8 ?_
    clear h8 Jf
    have zf:=ki _ _ n5 ze
    refine L2.aC λN9 h9=>?_
    right
    refine bp zf (aq (j:=1) rfl) ?_
    right
    refine .inl ⟨_,ei,λpc j4=>?_⟩
    rw[show dM cs none (some 10)=cs.take 10 from fR (k:=10)]
    have uc:=ak.new (.lst (cs.take 10)) j4
    have ec:upd Gi pc (.lst (cs.take 10)) pc=some (.lst (cs.take 10)):=ag
    have v5:pc≠F:=λz=>by rw[z,zf] at j4;cases j4
    generalize zb:upd Gi pc (.lst (cs.take 10))=Gc at *
    refine⟨_,1,uc _ _ zf,rfl,?_⟩
    try dsimp only[List.set]
    have kd:∀b o,b≠F->Gc b=some o->upd Gc F (.lst [.ref fm,.ref pc,.ref fl]) b=some o:=λb o ne e=>by rw[ay ne];exact e
    have pY:upd Gc F (.lst [.ref fm,.ref pc,.ref fl]) F=some (.lst [.ref fm,.ref pc,.ref fl]):=ag
    generalize zc:upd Gc F (.lst [.ref fm,.ref pc,.ref fl])=Gd at *
    refine L2.az h9 ?_
    clear h9 zb zc
    right
    have kO:∀b o,b≠F->b≠fw->Go b=some o->Gd b=some o:=λb o n1 n2 e=>kd b o n1 (uc _ _ (ki b o n2 e))
    have SS:ak H Gd:=λb o e=>kO b o (ao e nF) (ao e nw) (sO _ _ e)
    have v7:=kd _ _ v5 ec
    have Gn:HD Gd 4 x d:=(hx.cv (H':=Gd) (λb o e n=>by
     obtain⟨g1,g2⟩:=gi e n
     exact kO b o (λz=>g1 (z ▸ Jb)) (λz=>g1 (z ▸ Jc)) g2)).mono (by decide)
    have Bp:=kO _ _ (Ne.symm n4) n1 Fj
    have Bq:=kO _ _ (Ne.symm n6) (Ne.symm n3) Fm
    have gM:=((h.hw.aY SS.aZ).gM (m:=4) (by decide))
    have lN:d5 Gd 4 (cs.take 10) (((ws.map dg).take ah++d::(ws.map dg).drop ah).take 10):=by
     rw[<-se]
     exact(((gM.tN ah).app ((d5.one Gn).app (gM.Ct ah)))).tN 10
    have Se:wv.length=(ws.map dg).length:=gM.1
    exact q F fm pc fl mv _ lv _ _ _ Gd SS pY Bp v7 Bq (LS.me λv hv=>by obtain⟨m,dx,fs,e,g⟩:=h.ms v hv;exact⟨m,dx,fs,e,SS _ _ g⟩) lN ((h.hl.aY SS.aZ).gM (m:=4) (by decide)) (IU (d:=d) (nV (by omega) (by omega)) (by rw[List.length_replicate];exact MU rfl)) (by omega) (by rw[List.length_take];omega) (by omega)
   ·refine L2.aC λN5 h5=>?_
    right
    refine⟨by show 3<=sizeLine;decide,λpa rL=>?_⟩
    have ua:=ak.new (.lst [.int 5,.int 10,.int 20]) rL
    have ea:upd H1 pa (.lst [.int 5,.int 10,.int 20]) pa=some (.lst [.int 5,.int 10,.int 20]):=ag
    generalize Bm:upd H1 pa (.lst [.int 5,.int 10,.int 20])=Ga at *
    refine bp ea (aq (j:=2) rfl) ?_
    refine L2.az h5 ?_
    clear h5
    have nR:=s1.trans ua
    refine L2.aC λN6 h6=>?_
    right
    refine bp (nR _ _ h.l) (aq (j:=0) rfl) ?_
    refine⟨_,.inl ⟨_,aX.of (nR _ _ h.m),rfl⟩,?_⟩
    refine bp (nR _ _ h.l) (aq (j:=1) rfl) ?_
    refine⟨_,.inl ⟨_,aX.of (nR _ _ h.w),rfl⟩,?_⟩
    right
    obtain⟨mx,Ja,lL,MT⟩:∃mx:Int,(if ((wv.length:Nat):Int) > 1 then((wv.length:Nat):Int) else 1)=mx/\1<=mx/\((wv.length:Nat):Int)<=mx:=⟨_,rfl,by split <;> omega,by split <;> omega⟩
    rw[Ja]
    refine⟨by show 3<=sizeLine;decide,λpb tO=>?_⟩
    have ub:=ak.new (.lst [.int 0,.int (mv.length:Nat),.int mx]) tO
    have eb:upd Ga pb (.lst [.int 0,.int (mv.length:Nat),.int mx]) pb=some (.lst [.int 0,.int (mv.length:Nat),.int mx]):=ag
    generalize vB:upd Ga pb (.lst [.int 0,.int (mv.length:Nat),.int mx])=Gb at *
    refine bp eb (aq (j:=2) rfl) ?_
    refine⟨rz,_,2,rfl,by decide,by decide,λ_=>by exact lL,λx d Go uo hx MU MV=>?_⟩
    refine L2.az h6 ?_
    clear h6 Bm vB
    have u1:ak H1 Go:=ua.trans (ub.trans uo)
    have sO:ak H Go:=s1.trans u1
    have Jb:od Gb F:=λz=>by rw[(ua.trans ub) _ _ eF] at z;cases z
    have Jc:od Gb fl:=λz=>by rw[(ua.trans ub) _ _ el] at z;cases z
    clear ua ub uo ea eb rL tO nR
    have ze:=u1 _ _ eF
    have Fj:=u1 _ _ em
    have Fl:=u1 _ _ ew
    have Fm:=u1 _ _ el
    refine L2.aC λN7 h7=>?_
    right
    refine⟨⟨by decide,by decide⟩,?_⟩
    refine bp ze (aq (j:=2) rfl) ?_
    refine⟨_,.inl ⟨_,aX.of Fm,rfl⟩,?_⟩
    right
    obtain⟨mn,Jd,O5,O6,DC⟩:∃mn:Int,(if ((lv.length:Nat):Int) < 20 - 1 then((lv.length:Nat):Int) else 20 - 1)=mn/\0<=mn/\mn<=20 - 1/\mn<=((lv.length:Nat):Int):=⟨_,rfl,by split <;> omega,by split <;> omega,by split <;> omega⟩
    rw[Jd]
    refine⟨by omega,?_⟩
    have a0:0<=rz / 7 % (mn + 1):=Int.emod_nonneg _ (by omega)
    have a1:rz / 7 % (mn + 1) < mn + 1:=Int.emod_lt_of_pos _ (by omega)
    obtain⟨ah,Je⟩:=Int.eq_ofNat_of_zero_le a0
    rw[Je] at a1 ⊢
    refine L2.az h7 ?_
    clear h7
    refine L2.aC λN8 h8=>?_
    right
    refine bp ze (aq (j:=2) rfl) ?_
    refine⟨.inl ⟨rfl,_,aX.of Fm⟩,?_⟩
    right
    refine⟨ah,_,rfl,Fm,by omega,by omega,?_⟩
    generalize se:lv.take ah++x::lv.drop ah=cs at *
    have lcs:cs.length=lv.length + 1:=by rw[<-se];simp;omega
    have ki:∀b o,b≠fl->Go b=some o->upd Go fl (.lst cs) b=some o:=λb o ne e=>by rw[ay ne];exact e
    have ei:upd Go fl (.lst cs) fl=some (.lst cs):=ag
    generalize Jf:upd Go fl (.lst cs)=Gi at *
    refine L2.az h8 ?_
    clear h8 Jf
    have zf:=ki _ _ n6 ze
    refine L2.aC λN9 h9=>?_
    right
    refine bp zf (aq (j:=2) rfl) ?_
    right
    refine .inl ⟨_,ei,λpc j4=>?_⟩
    rw[show dM cs none (some 20)=cs.take 20 from fR (k:=20)]
    have uc:=ak.new (.lst (cs.take 20)) j4
    have ec:upd Gi pc (.lst (cs.take 20)) pc=some (.lst (cs.take 20)):=ag
    have v5:pc≠F:=λz=>by rw[z,zf] at j4;cases j4
    generalize zb:upd Gi pc (.lst (cs.take 20))=Gc at *
    refine⟨_,2,uc _ _ zf,rfl,?_⟩
    try dsimp only[List.set]
    have kd:∀b o,b≠F->Gc b=some o->upd Gc F (.lst [.ref fm,.ref fw,.ref pc]) b=some o:=λb o ne e=>by rw[ay ne];exact e
    have pY:upd Gc F (.lst [.ref fm,.ref fw,.ref pc]) F=some (.lst [.ref fm,.ref fw,.ref pc]):=ag
    generalize zc:upd Gc F (.lst [.ref fm,.ref fw,.ref pc])=Gd at *
    refine L2.az h9 ?_
    clear h9 zb zc
    right
    have kO:∀b o,b≠F->b≠fl->Go b=some o->Gd b=some o:=λb o n1 n2 e=>kd b o n1 (uc _ _ (ki b o n2 e))
    have SS:ak H Gd:=λb o e=>kO b o (ao e nF) (ao e nl) (sO _ _ e)
    have v7:=kd _ _ v5 ec
    have Gn:HD Gd 4 x d:=(hx.cv (H':=Gd) (λb o e n=>by
     obtain⟨g1,g2⟩:=gi e n
     exact kO b o (λz=>g1 (z ▸ Jb)) (λz=>g1 (z ▸ Jc)) g2)).mono (by decide)
    have Bp:=kO _ _ (Ne.symm n4) n2 Fj
    have zd:=kO _ _ (Ne.symm n5) n3 Fl
    have gM:=((h.hl.aY SS.aZ).gM (m:=4) (by decide))
    have lN:d5 Gd 4 (cs.take 20) (((ls.map fF).take ah++d::(ls.map fF).drop ah).take 20):=by
     rw[<-se]
     exact(((gM.tN ah).app ((d5.one Gn).app (gM.Ct ah)))).tN 20
    have Se:lv.length=(ls.map fF).length:=gM.1
    have Sg:wv.length=(ws.map dg).length:=h.hw.1
    exact q F fm fw pc mv wv _ _ _ _ Gd SS pY Bp zd v7 (LS.me λv hv=>by obtain⟨m,dx,fs,e,g⟩:=h.ms v hv;exact⟨m,dx,fs,e,SS _ _ g⟩) ((h.hw.aY SS.aZ).gM (m:=4) (by decide)) lN (IV (d:=d) (nV (by omega) (by omega)) (vE (MV rfl) (by rw[<-Sg];exact MT))) (by omega) (by omega) (by rw[List.length_take];omega)
def Sf (v:V):Prop:=(∃b,v=.ref b)\/(dk v=true/\qK v v=true)
theorem jA:Sf (.ref a):=.inl ⟨a,rfl⟩
theorem zg {b:Bool}:Sf (.bl b):=.inr ⟨rfl,by cases b <;> rfl⟩
theorem zh {i:Int}:Sf (.int i):=.inr ⟨rfl,by simp[qK]⟩
theorem Fo {i:Str}:Sf (.str i):=.inr ⟨rfl,by simp[qK]⟩
theorem Fp:Sf .bb:=.inr ⟨rfl,by simp[qK]⟩
theorem Cu {n:Nat}{x:V}(h:HD H n x d):Sf x:=by
 cases h
 ·exact Fp
 ·exact zg
 ·exact zh
 ·exact Fo
 ·exact jA
 ·exact jA
 ·exact jA
theorem jB {n:Nat}(h:d5 H n xs ds):∀v ∈ xs,Sf v:=λv hv=>by
 obtain⟨j,hj,rfl⟩:=List.getElem_of_mem hv
 exact Cu (h.2 j _ (ds[j]'(by rw[<-h.1];exact hj)) (dI hj) (dI (by rw[<-h.1];exact hj)))
theorem Fq {C:Addr}{bs:List Bool}(h:zY C H xs bs):∀v ∈ xs,Sf v:=λv hv=>by
 obtain⟨j,hj,rfl⟩:=List.getElem_of_mem hv
 rcases h.2 j _ (bs[j]'(by rw[<-h.1];exact hj)) (dI hj) (dI (by rw[<-h.1];exact hj)) with⟨_,m,dx,fs,e,_⟩ | ⟨_,d,hd⟩
 ·rw[e];exact jA
 ·exact Cu hd
theorem zi {K:W.Frag}{n:Nat}{v:V}(h:Sf v):FW K H (n + 1) v v true:=by
 rcases h with⟨b,rfl⟩ | ⟨h1,h2⟩
 ·exact .inl ⟨b,rfl,rfl,rfl⟩
 ·exact .inr (.inl ⟨h1,h1,h2.symm⟩)
theorem tP {K:W.Frag}{n:Nat}{c:Addr}(ha:H a=some (.lst xs))(hc:H c=some (.lst xs))(h:∀v ∈ xs,Sf v):HR K H (n + 1) a c true:=
 ⟨xs,xs,λ_=>true,.inr ⟨aX.of ha,aX.of hc⟩,λi u v hu hv=>by
  rw[hu] at hv;cases hv
  exact zi (h _ (List.mem_of_getElem? hu)),by simp⟩
theorem zj {K:W.Frag}{n:Nat}{c:Addr}(ha:H a=some (.lst xs))(hc:H c=some (.lst xs))(h:∀v ∈ xs,Sf v):FW K H (n + 2) (.ref a) (.ref c) true:=by
 by_cases z:a=c
 ·subst z;exact .inl ⟨a,rfl,rfl,rfl⟩
 ·obtain⟨ys,zs,e,h1,h2,h3⟩:=tP (K:=K) (n:=n) ha hc h
  exact .inr (.inr (.inr (.inr (.inr ⟨a,c,ys,zs,e,rfl,rfl,z,h1,h2,h3⟩))))
theorem eq3 {K:W.Frag}{D D' c a' b' c':Addr}{zs:List V}(hD:H D=some (.lst [.ref a,.ref b,.ref c]))(Sh:H D'=some (.lst [.ref a',.ref b',.ref c']))(ha:H a=some (.lst xs))(hb:H b=some (.lst ys))(hc:H c=some (.lst zs))
  (HU:H a'=some (.lst xs)) (AV:H b'=some (.lst ys)) (zN:H c'=some (.lst zs)) (s1:∀v ∈ xs,Sf v) (s2:∀v ∈ ys,Sf v) (s3:∀v ∈ zs,Sf v):HR K H 19 D D' true:=
 ⟨_,_,λ_=>true,.inr ⟨aX.of hD,aX.of Sh⟩,λi u v hu hv=>by
  rcases i with _ | _ | _ | i
  ·cases hu;cases hv;exact zj ha HU s1
  ·cases hu;cases hv;exact zj hb AV s2
  ·cases hu;cases hv;exact zj hc zN s3
  ·simp at hu,rfl⟩
abbrev fc:Stmt:=top 63
def pZ (C:Addr):Sp:=λvs H Q _=>∃(L am aw al:Addr) (mv wv lv:List V) (bs:List Bool) (dw dl:List DV),vs=[.ref L]/\H L=some (.lst [.ref am,.ref aw,.ref al])/\H am=some (.lst mv)/\H aw=some (.lst wv)/\H al=some (.lst lv)/\zY C H mv bs/\d5 H 4 wv dw/\d5 H 4 lv dl/\okN bs dw dl=false/\∀H',ak H H'->Q (.bl true) H'
theorem l7 (D:cJ K mg "_law_refused" "_law_refused" fc ["_law_lists"])(T:Tx K mg C CN F FD)(TX:vR K mg B c)(mQ:mH P w K mg base "Net" CN 5 ["self","machines","ways","letters"] (lB C CN c)):Def P w K mg base "_law_refused" 7 ["_law_lists"] (pZ C):=by
 have sc:aI ["_law_lists","_law_told","e","_law_others"] ["_law_lists"] (av fc):=by walk_at "s"
 symm
 ·obtain⟨L,am,aw,al,mv,wv,lv,bs,dw,dl,rfl,hL,vz,pO,qj,vW,vX,vY,bad,q⟩:=h
  rfl
 ·obtain⟨L,am,aw,al,mv,wv,lv,bs,dw,dl,rfl,hL,vz,pO,qj,vW,vX,vY,bad,q⟩:=h
  have hu:=hr.units
  refine⟨_,(aj (bj (i:=1) sc.nd rfl (by grind) (aS aa))
   (aj (sW (i:=2) rfl rfl sc.nd rfl rfl rfl TX.gW (vb TX.xb) (o6 (Ew mQ hr (ae (aH hu (pv 0) af) (ae (aH hu (pv 0) af) (ae (aH hu (pv 0) af) aa))))) (λa=>
   (aj (bj (i:=3) sc.nd rfl (by grind) (aV (gV (K:=K) rfl) rfl T.aJ lJ (ae (pv 2) (ae (aO (ae (bu (v:=.ref (c 1)) rfl TX.mJ rfl) (ae (bu (v:=.ref (c 0)) rfl TX.iP rfl) (ae (bu (v:=.ref (c 13)) rfl TX.yk rfl) (ae (bu (v:=.ref (c 6)) rfl TX.mK rfl) (ae (bu (v:=.ref (c 18)) rfl TX.pw rfl) (ae (bu (v:=.ref (c 7)) rfl TX.mL rfl) (ae (bu (v:=.ref (c 4)) rfl TX.lg rfl) (ae (bu (v:=.ref (c 10)) rfl TX.ph rfl) aa))))))))) aa))))
   (aj (bj (i:=3) sc.nd rfl (by grind) (BE (pv 3) (dJ (aV (gV (K:=K) rfl) rfl T.aJ lJ (ae (pv 2) (ae (aO (ae (bu (v:=.ref (c 11)) rfl TX.gh rfl) (ae (bu (v:=.ref (c 15)) rfl TX.pk rfl) (ae (bu (v:=.ref (c 17)) rfl TX.pq rfl) (ae (bu (v:=.ref (c 16)) rfl TX.sV rfl) (ae (bu (v:=.ref (c 5)) rfl TX.lh rfl) (ae (bu (v:=.ref (c 2)) rfl TX.pd rfl) aa))))))) aa))))))
   (aj (bj (i:=3) sc.nd rfl (by grind) (BE (pv 3) (dJ (aV (gV (K:=K) rfl) rfl T.aJ lJ (ae (pv 2) (ae (aO (ae (bu (v:=.ref (c 14)) rfl TX.iQ rfl) (ae (bu (v:=.ref (c 12)) rfl TX.pj rfl) (ae (bu (v:=.ref (c 8)) rfl TX.lj rfl) (ae (bu (v:=.ref (c 9)) rfl TX.mM rfl) aa))))) aa))))))
   (au (bj (i:=1) sc.nd rfl (by grind) (aS (ae (aV (jh (K:=K) rfl) rfl T.aJ lJ (ae (pv 2) (ae (bu (v:=.ref (c 3)) rfl TX.pf rfl) aa))) (ae (aV (jh (K:=K) rfl) rfl T.aJ lJ (ae (pv 2) (ae (bO (v:=.ty "ValueError") rfl T.iS AZ rfl) aa))) (ae (pv 3) aa)))))))))))
   (au (aK (fK (nM hu) (pv 1) (aS (ae cI (ae cI (ae cI aa)))) (aT _)))))),?_⟩
  refine L2.aC λN1 h1=>?_
  right
  refine⟨Nat.zero_le _,λp0 Jg=>?_⟩
  have s0:=ak.new (.lst []) Jg
  generalize Si:upd H p0 (.lst [])=H0 at *
  refine L2.az h1 ?_
  clear h1
  refine L2.aC λN2 h2=>?_
  refine sX λEE MW=>?_
  right
  refine bp (s0 _ _ hL) (aq (j:=0) rfl) ?_
  refine bp (s0 _ _ hL) (aq (j:=1) rfl) ?_
  refine bp (s0 _ _ hL) (aq (j:=2) rfl) ?_
  intro x dx hx yQ kM
  have sx:ak H0 (upd (upd H0 dx (.own x)) x (.ins CN dx [])):=λb o e=>by rw[ay (ao e hx),ay (ao e yQ)];exact e
  have Fs:=s0.trans sx
  refine⟨x,dx,am,aw,al,mv,wv,lv,bs,dw,dl,rfl,ag,Fs _ _ vz,Fs _ _ pO,Fs _ _ qj,vW.same Fs,d5.same Fs vX,d5.same Fs vY,λok=>absurd (bad.symm.trans ok) (by decide),λ_ a G0 s' O8=>?_⟩
  refine MW a (c 3) none G0 O8 (TX.cl 3 (by decide)) ?_
  refine L2.aC λN3 h3=>?_
  right
  refine⟨by show 8<=sizeLine;decide,λp1 pW=>?_⟩
  have s1:=ak.new (.tup [.ref (c 1),.ref (c 0),.ref (c 13),.ref (c 6),.ref (c 18),.ref (c 7),.ref (c 4),.ref (c 10)]) pW
  have Sj:upd G0 p1 (.tup [.ref (c 1),.ref (c 0),.ref (c 13),.ref (c 6),.ref (c 18),.ref (c 7),.ref (c 4),.ref (c 10)]) p1=some (.tup [.ref (c 1),.ref (c 0),.ref (c 13),.ref (c 6),.ref (c 18),.ref (c 7),.ref (c 4),.ref (c 10)]):=ag
  generalize IH:upd G0 p1 (.tup [.ref (c 1),.ref (c 0),.ref (c 13),.ref (c 6),.ref (c 18),.ref (c 7),.ref (c 4),.ref (c 10)])=G1 at *
  have O9:=s1 _ _ O8
  refine⟨a,c 3,B,none,p1,[1,0,13,6,18,7,4,10].map c,false,false,rfl,O9,(λdx z=>nomatch z),TX.cl 3 (by decide),Sj,(kz TX (by decide) _ (by decide)).trans (by congr 1),?_⟩
  refine L2.az h3 ?_
  clear h3
  refine L2.aC λN4 h4=>?_
  right
  try first | rw[if_neg Bool.false_ne_true] | skip
  refine⟨by show 6<=sizeLine;decide,λp2 j6=>?_⟩
  have s2:=ak.new (.tup [.ref (c 11),.ref (c 15),.ref (c 17),.ref (c 16),.ref (c 5),.ref (c 2)]) j6
  have Sk:upd G1 p2 (.tup [.ref (c 11),.ref (c 15),.ref (c 17),.ref (c 16),.ref (c 5),.ref (c 2)]) p2=some (.tup [.ref (c 11),.ref (c 15),.ref (c 17),.ref (c 16),.ref (c 5),.ref (c 2)]):=ag
  generalize F2:upd G1 p2 (.tup [.ref (c 11),.ref (c 15),.ref (c 17),.ref (c 16),.ref (c 5),.ref (c 2)])=G2 at *
  have Pa:=s2 _ _ O9
  refine⟨a,c 3,B,none,p2,[11,15,17,16,5,2].map c,false,false,rfl,Pa,(λdx z=>nomatch z),TX.cl 3 (by decide),Sk,(kz TX (by decide) _ (by decide)).trans (by congr 1),?_⟩
  refine L2.az h4 ?_
  clear h4
  refine L2.aC λN5 h5=>?_
  right
  try first | rw[if_neg Bool.false_ne_true] | skip
  refine⟨by show 4<=sizeLine;decide,λp3 pP=>?_⟩
  have s3:=ak.new (.tup [.ref (c 14),.ref (c 12),.ref (c 8),.ref (c 9)]) pP
  have Sl:upd G2 p3 (.tup [.ref (c 14),.ref (c 12),.ref (c 8),.ref (c 9)]) p3=some (.tup [.ref (c 14),.ref (c 12),.ref (c 8),.ref (c 9)]):=ag
  generalize F6:upd G2 p3 (.tup [.ref (c 14),.ref (c 12),.ref (c 8),.ref (c 9)])=G3 at *
  have MX:=s3 _ _ Pa
  refine⟨a,c 3,B,none,p3,[14,12,8,9].map c,false,false,rfl,MX,(λdx z=>nomatch z),TX.cl 3 (by decide),Sl,(kz TX (by decide) _ (by decide)).trans (by congr 1),?_⟩
  refine L2.az h5 ?_
  clear h5
  right
  refine⟨a,c 3,B,none,.ref (c 3),true,false,rfl,MX,(λdx z=>nomatch z),TX.cl 3 (by decide),.inl rfl,(yp TX (i:=3) (j:=3) (by decide) (by decide)).trans rfl,?_⟩
  refine⟨a,c 3,B,none,_,true,false,rfl,MX,(λdx z=>nomatch z),TX.cl 3 (by decide),.inr ⟨_,rfl⟩,EF TX (by decide),?_⟩
  refine⟨by show 3<=sizeLine;decide,λp4 vA=>?_⟩
  have s4:=ak.new (.lst [.bl true,.bl true,.bl false]) vA
  have Sm:upd G3 p4 (.lst [.bl true,.bl true,.bl false]) p4=some (.lst [.bl true,.bl true,.bl false]):=ag
  generalize IJ:upd G3 p4 (.lst [.bl true,.bl true,.bl false])=G4 at *
  try dsimp only[List.set]
  refine L2.az h2 ?_
  clear h2
  right
  refine⟨by show 3<=sizeLine;decide,λp5 pQ=>?_⟩
  have s5:=ak.new (.lst [.bl true,.bl true,.bl false]) pQ
  have Sn:upd G4 p5 (.lst [.bl true,.bl true,.bl false]) p5=some (.lst [.bl true,.bl true,.bl false]):=ag
  generalize Gg:upd G4 p5 (.lst [.bl true,.bl true,.bl false])=G5 at *
  refine⟨p4,p5,true,rfl,rfl,tP (s5 _ _ Sm) Sn (λv hv=>?_),?_⟩
  ·simp only[List.mem_cons,List.not_mem_nil,or_false] at hv
   rcases hv with rfl | rfl | rfl <;> exact zg
  exact q _ (Fs.trans (s'.trans (s1.trans (s2.trans (s3.trans (s4.trans s5))))))
abbrev dz:Stmt:=top 64
def mR (CN:Addr):Sp:=λvs H Q _=>∃(x:Addr) (ms wv lv:List V) (ws:List (Int×Int×Str)) (m:Int),vs=[.ref x,.int m]/\iV CN H x ms wv lv/\gQ H 1 wv (ws.map dg)/\wv.length<=10/\¬(0<=m/\m < (ms.length:Int))/\∀H',ak H H'->Q (.bl true) H'
theorem jC (D:cJ K mg "_law_no_machine" "_law_no_machine" dz ["_law_net_here","_law_m"])(T:Tx K mg C CN F FD)(TX:vR K mg B c)(cq:fW P w K mg base CN "ways_in" 4 ["self","m"] (ic CN c))(b6:fW P w K mg base CN "ways_out" 4 ["self","m"] (gu CN c)):Def P w K mg base "_law_no_machine" 5 ["_law_net_here","_law_m"] (mR CN):=by
 have sc:aI ["_law_net_here","_law_m","_law_told","_law_way","e"] ["_law_net_here","_law_m"] (av dz):=by walk_at "s"
 symm
 ·obtain⟨x,ms,wv,lv,ws,m,rfl,hf,hw,qi,GW,q⟩:=h
  rfl
 ·obtain⟨x,ms,wv,lv,ws,m,rfl,hf,hw,qi,GW,q⟩:=h
  have hu:=hr.units
  refine⟨_,(aj (bj (i:=2) sc.nd rfl (by grind) (aS aa))
   (aj (eP PassesOwn.never rfl (cZ (aS (ae af (ae af aa)))) (bf (i:=3) sc.nd rfl (by grind))
   (au (sW (i:=4) rfl rfl sc.nd rfl rfl rfl TX.gh (yu (TX.cl 11 (by decide))) (o6 (EL tV zK zL dE (pv 2) (EK (aM (bG hu) (pv 3) af (aT _)) (yt b6 T.bV hr (pv 0) (ae (pv 1) aa)) (yt cq T.bV hr (pv 0) (ae (pv 1) aa))))) (λa=>
   (au (dX (EO (K:=K) rfl tV zK zL dE (pv 2) (ae (aV (jh (K:=K) rfl) rfl T.aJ lJ (ae (pv 4) (ae (bu (v:=.ref B) rfl TX.gW rfl) aa))) aa))))))))
   (au (aK (fK (nM hu) (pv 2) (aS (ae cI (ae cI aa))) (aT _)))))),?_⟩
  refine L2.aC λN1 h1=>?_
  right
  refine⟨Nat.zero_le _,λp0 Jg=>?_⟩
  have s0:=ak.new (.lst []) Jg
  have e0:upd H p0 (.lst []) p0=some (.lst []):=ag
  generalize Si:upd H p0 (.lst [])=G0 at *
  refine L2.az h1 ?_
  clear h1
  refine L2.aC λN2 h2=>?_
  right
  refine⟨cQ,λp1 pW=>.inl ⟨⟨_,aX.of ag⟩,?_⟩⟩
  have s1:=ak.new (.lst [.int 0,.int 1]) pW
  have e1:upd G0 p1 (.lst [.int 0,.int 1]) p1=some (.lst [.int 0,.int 1]):=ag
  have So:p1≠p0:=λz=>by rw[z,e0] at pW;cases pW
  have Sr:=s1 _ _ e0
  generalize IH:upd G0 p1 (.lst [.int 0,.int 1])=G1 at *
  have IL:=s0.trans s1
  refine iA (K:=K) (xs:=[.int 0,.int 1]) (λi σ H'=>(∃z3,σ=[some (.ref x),some (.int m),some (.ref p0),z3,none])/\H' p0=some (.lst (List.replicate i (V.bl true)))/\∀b o,b≠p0->G1 b=some o->H' b=some o) ⟨⟨none,rfl⟩,Sr,λb o _ e=>e⟩ ?_ ?_ ?_
  ·rintro i σ H1 hi ⟨_,_,k⟩
   exact aX.of (k _ _ So e1)
  ·rintro i v σ H1 hv ⟨⟨z3,rfl⟩,ep,k⟩
   refine L2.dZ ?_
   try dsimp only[List.set]
   have kH:ak H H1:=λb o e=>k b o (ao e Jg) (IL _ _ e)
   have hi:i < 2:=(List.getElem?_eq_some_iff.mp hv).1
   refine sX λEE MW=>?_
   have fin:∀(a:Addr) (H2:Hp),ak H1 H2->H2 a=some (XO a (c 11) none false)->EE (.ref a) none H2:=λa H2 s2 ea=>by
    refine MW a (c 11) none H2 ea rfl ?_
    try dsimp only[List.set]
    right
    refine⟨.inl ⟨rfl,_,aX.of (s2 _ _ ep)⟩,?_⟩
    refine⟨a,c 11,B,none,.ref B,true,false,rfl,ea,(λdx z=>nomatch z),TX.cl 11 (by decide),.inl rfl,ED TX (by decide),?_⟩
    right
    refine⟨_,s2 _ _ ep,aA (by simp;omega),⟨_,rfl⟩,by rw[ag,<-List.replicate_succ',List.replicate_succ],λb o ne e=>?_⟩
    rw[ay ne]
    exact s2 _ _ (k b o ne e)
   have HW:=hf.same kH
   obtain⟨dx,a1,b1,c1,g1,g2,g3,g4⟩:=id HW
   have fX:i=0\/i=1:=by omega
   rcases fX with rfl | rfl <;> cases hv
   ·right
    refine⟨.inl ⟨rfl,_,aX.of ep⟩,?_⟩
    rw[if_pos (by decide)]
    refine⟨x,dx,_,rfl,g1,cN (by decide +kernel) (by decide +kernel) (by decide +kernel),?_⟩
    exact⟨x,ms,wv,lv,ws,m,rfl,HW,hw.aY kH.aZ,qi,λhm=>absurd hm GW,λ_=>fin⟩
   ·right
    refine⟨.inl ⟨rfl,_,aX.of ep⟩,?_⟩
    rw[if_neg (by decide)]
    refine⟨x,dx,_,rfl,g1,cN (by decide +kernel) (by decide +kernel) (by decide +kernel),?_⟩
    exact⟨x,ms,wv,lv,ws,m,rfl,HW,hw.aY kH.aZ,qi,λhm=>absurd hm GW,λ_=>fin⟩
  ·rintro σ H1 ⟨⟨z3,rfl⟩,ep,k⟩
   refine L2.az h2 ?_
   right
   refine⟨cQ,λp5 pQ=>?_⟩
   have s5:=ak.new (.lst [.bl true,.bl true]) pQ
   refine⟨p0,p5,true,rfl,rfl,tP (xs:=[.bl true,.bl true]) (s5 _ _ ep) ag (λv hv=>?_),?_⟩
   ·simp only[List.mem_cons,List.not_mem_nil,or_false] at hv
    rcases hv with rfl | rfl <;> exact zg
   exact q _ (λb o e=>s5 _ _ (k b o (ao e Jg) (IL _ _ e)))
abbrev gw:Stmt:=top 65
def qa (C CN:Addr):Sp:=λvs H Q _=>∃(x L am aw al:Addr) (mv wv lv:List V) (ws:List (Int×Int×Str)) (ls:List (Int×Int)),vs=[.ref x,.ref L]/\LS C H L am aw al mv wv lv ws ls/\iV CN H x mv wv lv/\∀H',ak H H'->Q (.bl true) H'
theorem qb (D:cJ K mg "_law_tells" "_law_tells" gw ["_law_net_here","_law_lists"])(T:Tx K mg C CN F FD)(gx:Def P w K mg base "_law_plain" 1 ["_law_found"] pU)(dH:nH P w K mg base CN "letters" 1 ["self"] (j2 CN))(di:nH P w K mg base CN "machines" 1 ["self"] (iW CN))(fS:nH P w K mg base CN "ways" 1 ["self"] (pS CN))(cq:fW P w K mg base CN "ways_in" 4 ["self","m"] (ic CN c))(b6:fW P w K mg base CN "ways_out" 4 ["self","m"] (gu CN c)):Def P w K mg base "_law_tells" 5 ["_law_net_here","_law_lists"] (qa C CN):=by
 have sc:aI ["_law_net_here","_law_lists","_law_told","_law_one","_law_m","_law_k","_law_due","_law_found"] ["_law_net_here","_law_lists"] (av gw):=by walk_at "s"
 symm
 ·obtain⟨x,L,am,aw,al,mv,wv,lv,ws,ls,rfl,hL,hf,q⟩:=h
  rfl
 ·obtain⟨x,L,am,aw,al,mv,wv,lv,ws,ls,rfl,hL,hf,q⟩:=h
  have hu:=hr.units
  refine⟨_,(aj (bj (i:=2) sc.nd rfl (by grind) (aS (ae (jg di T.bV hr (pv 0)) (ae (jg fS T.bV hr (pv 0)) (ae (jg dH T.bV hr (pv 0)) aa)))))
   (aj (bg (PW.pt (pw_or (aM (kA hu) (pv 2) (pv 1) (aT _)) (pw_or1 (bK (bJ (aV (dn rfl) rfl T.jZ CV (ae (jX (N':=["_law_one"]) (ix:=[none]) (cZ (pv 2)) (λ_ _ _ _=>(bf (i:=0) (show(["_law_one"]:List Str).Nodup by decide +kernel) rfl (by grind))) rq (λ_ _ _ _=>(aV (uQ (K:=K) rfl) rfl T.aJ lJ (ae (pv 0) (ae (bO (v:=.ty "list") rfl T.de tW rfl) aa))))) aa))))))) (au (aK cI)) aP)
   (aj (eP PassesOwn.never rfl (cZ (pv 2)) (bf (i:=3) sc.nd rfl (by grind))
   (au (dX (gO tV zK zL dE (pv 3) (ae af aa)))))
   (aj (eP PassesOwn.never rfl (cm rfl T.df (ae (aV aU rfl T.bW PySem.boot_len (ae (aH hu (pv 1) af) aa)) aa)) (bf (i:=4) sc.nd rfl (by grind))
   (au (eP PassesOwn.never rfl (cm rfl T.df (ae af aa)) (bf (i:=5) sc.nd rfl (by grind))
   (aj (cY (i:=6) sc.nd rfl (by grind) (N':=["_law_way","_law_m","_law_k","_law_lists"]) (ix:=[none,some 4,some 5,some 1]) (cm rfl T.df (ae (aV aU rfl T.bW PySem.boot_len (ae (aH hu (pv 1) af) aa)) aa)) (λ_ _ _ _=>(bf (i:=0) (show(["_law_way","_law_m","_law_k","_law_lists"]:List Str).Nodup by decide +kernel) rfl (by grind))) (λ_ _ _ _=>(so (aM (sS (K:=K) rfl hu) (eJ (K:=K) rfl hu (eJ (K:=K) rfl hu (eJ (K:=K) rfl hu (pv 3) af) (pv 0)) (pv 2)) (pv 1) (aT _)))) (λ_ _ _ _=>(pv 0)))
   (aj (bj (i:=7) sc.nd rfl (by grind) (aH hu (aS (ae (nN b6 yw T.bV hr (pv 0) (ae (pv 4) aa)) (ae (nN cq yw T.bV hr (pv 0) (ae (pv 4) aa)) aa))) (pv 5)))
   (aj (bg (PW.pt (pw_or (bK (bJ (aV bN rfl T.aJ lJ (ae (pv 7) (ae (bO (v:=.ty "list") rfl T.de tW rfl) aa))))) (pw_or (bK (bJ (aV (dn rfl) rfl T.jZ CV (ae (jX (N':=["_law_way"]) (ix:=[none]) (cZ (pv 7)) (λ_ _ _ _=>(bf (i:=0) (show(["_law_way"]:List Str).Nodup by decide +kernel) rfl (by grind))) rq (λ_ _ _ _=>(aL gx hr (ae (pv 0) aa)))) aa)))) (pw_or1 (aM (kA hu) (pv 7) (pv 6) (aT _)))))) (au (aK cI)) aP)
   (au (dX (gO tV zK zL dE (pv 7) (ae af aa))))))))))
   (au (aK (fK (nM hu) (aS (ae (jg di T.bV hr (pv 0)) (ae (jg fS T.bV hr (pv 0)) (ae (jg dH T.bV hr (pv 0)) aa)))) (pv 1) (aT _)))))))),?_⟩
  have g:=hL
  obtain⟨dx,ta,tb,tc,g1,g2,g3,g4⟩:=id hf
  have F3:=hL.m1
  have Iq:=hL.m5
  have rK:=hL.zQ
  have Bl:=hL.Cm
  have J7:∀v ∈ mv,Sf v:=λv hv=>by obtain⟨m,_,_,e,_⟩:=hL.ms v hv;rw[e];exact jA
  have J8:=jB (hL.hw.gM (m:=4) (by decide))
  have J9:=jB (hL.hl.gM (m:=4) (by decide))
  have q0:=ak.refl H
  refine L2.aC λN1 h1=>?_
  right
  refine⟨x,dx,_,rfl,q0 _ _ g1,cN (by decide +kernel) (by decide +kernel) (by decide +kernel),?_⟩
  refine⟨x,mv,wv,lv,rfl,hf.same q0,λp1 pW=>?_⟩
  have r1:=ak.new (.lst mv) pW
  have e1:upd H p1 (.lst mv) p1=some (.lst mv):=ag
  generalize Pb:upd H p1 (.lst mv)=Q1 at *
  have q1:=q0.trans r1
  refine⟨x,dx,_,rfl,q1 _ _ g1,cN (by decide +kernel) (by decide +kernel) (by decide +kernel),?_⟩
  refine⟨x,mv,wv,lv,rfl,hf.same q1,λp2 j6=>?_⟩
  have r2:=ak.new (.lst wv) j6
  have e2:upd Q1 p2 (.lst wv) p2=some (.lst wv):=ag
  generalize Pc:upd Q1 p2 (.lst wv)=Q2 at *
  have q2:=q1.trans r2
  refine⟨x,dx,_,rfl,q2 _ _ g1,cN (by decide +kernel) (by decide +kernel) (by decide +kernel),?_⟩
  refine⟨x,mv,wv,lv,rfl,hf.same q2,λp3 pP=>?_⟩
  have r3:=ak.new (.lst lv) pP
  have e3:upd Q2 p3 (.lst lv) p3=some (.lst lv):=ag
  generalize Pd:upd Q2 p3 (.lst lv)=Q3 at *
  have q3:=q2.trans r3
  refine⟨by show 3<=sizeLine;decide,λp4 vA=>?_⟩
  have r4:=ak.new (.lst [.ref p1,.ref p2,.ref p3]) vA
  have e4:upd Q3 p4 (.lst [.ref p1,.ref p2,.ref p3]) p4=some (.lst [.ref p1,.ref p2,.ref p3]):=ag
  generalize Ss:upd Q3 p4 (.lst [.ref p1,.ref p2,.ref p3])=Q4 at *
  have q4:=q3.trans r4
  have MY:=(r2.trans (r3.trans r4)) _ _ e1
  have MZ:=(r3.trans r4) _ _ e2
  have M0:=r4 _ _ e3
  have f1:H p1=none:=pW
  have f2:H p2=none:=cp q1 j6
  have f3:H p3=none:=cp q2 pP
  have Ut:p1≠p2:=ao e1 j6
  have Uu:p1≠p3:=ao (r2 _ _ e1) pP
  have Uv:p2≠p3:=ao e2 pP
  have Su:p4≠p1:=λz=>by rw[z,(r2.trans r3) _ _ e1] at vA;cases vA
  have Sv:p4≠p2:=λz=>by rw[z,r3 _ _ e2] at vA;cases vA
  have Sw:p4≠p3:=λz=>by rw[z,e3] at vA;cases vA
  refine L2.az h1 ?_
  clear h1 Pb Pc Pd Ss r1 r2 r3 r4 pW j6 pP vA e1 e2 e3 q1 q2 q3 q0
  refine L2.aC λN2 h2=>?_
  refine L2.bF λT0 U0 hT hU=>?_
  right
  refine⟨p4,L,true,rfl,rfl,eq3 e4 (q4 _ _ hL.l) MY MZ M0 (q4 _ _ hL.m) (q4 _ _ hL.w) (q4 _ _ hL.k) J7 J8 J9,?_⟩
  try simp only[Bool.not_true,Bool.false_eq_true,if_false]
  refine cR ?_
  right
  refine .inl ⟨⟨_,aX.of e4⟩,λD hD=>?_⟩
  refine bI (J:=ud K p4) (n:=3) (λi zs H'=>zs=List.replicate i (V.bl true)/\ak Q4 H') (Nat.le_of_lt (aA (by omega))) ⟨rfl,ak.new _ hD⟩ ?_ ?_ ?_ ?_
  ·rintro i zs H' fX ⟨_,s2⟩
   exact⟨_,[V.ref p1,.ref p2,.ref p3][i]'fX,aX.of (s2 _ _ e4),dI fX⟩
  ·rintro zs H' ⟨_,s2⟩
   exact⟨_,aX.of (s2 _ _ e4),Nat.le_refl _⟩
  ·rintro i zs H' fX iU i0 ⟨rfl,s2⟩ y Cn ⟨rfl,hy⟩
   have ex:=hy _ (aX.of (s2 _ _ e4))
   refine⟨Ext.set (Ext.refl _) rfl,?_⟩
   right
   first | rw[if_pos trivial] | rw[if_pos rfl]
   have Sx:∃p xs,y=.ref p/\Cn p=some (.lst xs):=by
    have vZ:i=0\/i=1\/i=2:=by omega
    rcases vZ with rfl | rfl | rfl <;> cases ex
    ·exact⟨_,_,rfl,s2 _ _ MY⟩
    ·exact⟨_,_,rfl,s2 _ _ MZ⟩
    ·exact⟨_,_,rfl,s2 _ _ M0⟩
   obtain⟨p,xs,rfl,ep⟩:=Sx
   refine⟨_,true,.lst ep,rfl,?_⟩
   refine cH iU i0 fX (Nat.le_of_lt (aA (by omega))) ⟨gf _ _,λb o e=>?_⟩
   rw[ay (ao e hD)]
   exact s2 _ _ e
  rintro zs Q5 iU i0 ⟨rfl,r5⟩
  right
  rw[kX] at iU
  refine⟨_,aX.of iU,?_⟩
  rw[show(List.replicate 3 true).all id=true from rfl]
  clear iU i0
  try simp only[Bool.not_true,Bool.false_eq_true,if_false]
  refine L2.az hU ?_
  right
  refine L2.az h2 ?_
  clear h2 hT hU
  have q5:=q4.trans r5
  refine L2.aC λN3 h3=>?_
  right
  refine⟨_,rfl,.inl ⟨⟨_,aX.of (r5 _ _ e4)⟩,?_⟩⟩
  refine iA (K:=K) (xs:=[.ref p1,.ref p2,.ref p3]) (λi σ H'=>(∃z3,σ=[some (.ref x),some (.ref L),some (.ref p4),z3,none,none,none,none])/\(∀b o,b≠p1->b≠p2->b≠p3->Q5 b=some o->H' b=some o)/\∀p,(p=p1\/p=p2\/p=p3)->∃y,H' p=some (.lst y)/\y.length<=20 + i) ⟨⟨none,rfl⟩,λb o _ _ _ e=>e,λp hp=>?_⟩ ?_ ?_ ?_
  ·rcases hp with rfl | rfl | rfl
   ·exact⟨_,r5 _ _ MY,by omega⟩
   ·exact⟨_,r5 _ _ MZ,by omega⟩
   ·exact⟨_,r5 _ _ M0,by omega⟩
  ·rintro i σ H1 hi ⟨_,k,_⟩
   exact aX.of (k _ _ Su Sv Sw (r5 _ _ e4))
  ·rintro i v σ H1 hv ⟨⟨z3,rfl⟩,k,hy⟩
   have hi:i < 3:=(List.getElem?_eq_some_iff.mp hv).1
   obtain⟨p,rfl,hp⟩:∃p,v=.ref p/\(p=p1\/p=p2\/p=p3):=by
    have vZ:i=0\/i=1\/i=2:=by omega
    rcases vZ with rfl | rfl | rfl <;> cases hv
    ·exact⟨_,rfl,.inl rfl⟩
    ·exact⟨_,rfl,.inr (.inl rfl)⟩
    ·exact⟨_,rfl,.inr (.inr rfl)⟩
   obtain⟨y,ey,ly⟩:=hy p hp
   refine L2.dZ ?_
   try dsimp only[List.set]
   right
   refine⟨.inl ⟨rfl,_,aX.of ey⟩,_,ey,aA (by omega),⟨_,rfl⟩,λb o b1 b2 b3 e=>?_,λp' sP=>?_⟩
   ·rw[ay (λz=>by subst z;rcases hp with z | z | z <;> contradiction)]
    exact k b o b1 b2 b3 e
   ·by_cases z:p'=p
    ·subst z;exact⟨_,ag,by simp;omega⟩
    ·obtain⟨y',e',l'⟩:=hy p' sP
     exact⟨y',by rw[ay z];exact e',by omega⟩
  rintro σ Q6 ⟨⟨z3,rfl⟩,k6,_⟩
  refine L2.az h3 ?_
  clear h3
  have q6:ak H Q6:=λb o e=>k6 b o (ao e f1) (ao e f2) (ao e f3) (q5 _ _ e)
  have Pe:=hL.same q6
  have Uw:=hf.same q6
  refine L2.aC λN4 h4=>?_
  refine⟨_,rfl,bp Pe.l (aq (j:=0) rfl) ⟨_,.inl ⟨_,aX.of Pe.m,rfl⟩,_,rfl,by omega,by omega,?_⟩⟩
  refine fu (n:=mv.length) (λi σ H'=>(∃z3 z4 z5 z6 z7,σ=[some (.ref x),some (.ref L),some (.ref p4),z3,z4,z5,z6,z7])/\ak Q6 H') ⟨⟨_,_,_,_,_,rfl⟩,ak.refl _⟩ ?_ ?_
  ·rintro i σ H1 hi ⟨⟨z3,z4,z5,z6,z7,rfl⟩,s1⟩
   refine L2.dZ ?_
   try dsimp only[List.set]
   obtain⟨m,em,L8,Jh⟩:∃m:Int,(0:Int) + (i:Int)=m/\0<=m/\m < (mv.length:Int):=⟨_,rfl,by omega,by omega⟩
   rw[em]
   refine⟨_,rfl,by omega,by omega,?_⟩
   refine fu (n:=2) (λk σ H'=>(∃z5 z6 z7,σ=[some (.ref x),some (.ref L),some (.ref p4),z3,some (.int m),z5,z6,z7])/\ak Q6 H') ⟨⟨_,_,_,rfl⟩,s1⟩ ?_ ?_
   ·rintro k σ H2 hk ⟨⟨z5,z6,z7,rfl⟩,s2⟩
    refine L2.dZ ?_
    try dsimp only[List.set]
    rw[show(0:Int) + (k:Int)=(k:Int) by omega]
    have M3:=q6.trans s2
    have M4:=hL.same M3
    have Oq:=hf.same M3
    have Ux:=M4.hw
    have uC:wv.length=ws.length:=by simpa using hL.hw.1
    refine L2.aC λN5 h5=>?_
    refine cR ?_
    refine⟨_,rfl,bp M4.l (aq (j:=1) rfl) ⟨_,.inl ⟨_,aX.of M4.w,rfl⟩,_,rfl,by omega,by omega,λD hD=>?_⟩⟩
    refine bI (J:=vO 0 wv.length) (n:=wv.length) (λi ys H'=>ak H2 H'/\ys=((List.range i).filter λj=>decide (ib ws k j=m)).map λj=>V.int (j:Nat)) (Nat.le_of_lt (aA (by omega))) ⟨ak.new _ hD,rfl⟩ (λi ys H' hi _=>hi) (λys H' _=>Nat.le_refl _) ?_ ?_
    ·rintro i ys H' hi fO hl ⟨s3,rfl⟩ xx H4 ⟨rfl,rfl⟩
     refine L2.dZ ?_
     try dsimp only[List.set]
     have Mw:i < ws.length:=by omega
     have M5:=M3.trans s3
     have M6:=hL.same M5
     obtain⟨xw,ex⟩:∃xw,wv[i]?=some xw:=⟨_,dI hi⟩
     have IF:=M6.hw.2 i xw (dg (ws.getD i (0,0,""))) ex (by rw[List.getElem?_map,show ws[i]?=some (ws.getD i (0,0,"")) by rw[List.getD_eq_getElem?_getD,dI Mw];rfl];rfl)
     obtain⟨Sy,u1,u2,u3,kk,rfl,Mx,w1,w2,w3⟩:=fB IF
     cases w1;cases w2;cases w3
     refine⟨Ext.set (Ext.refl _) rfl,?_⟩
     right
     refine bp M6.l (aq (j:=1) rfl) ?_
     refine bp M6.w (show iF wv (0 + (i:Int))=some (.ref Sy) by rw[show(0:Int) + (i:Int)=(i:Int) by omega];exact aq ex) ?_
     have My:iF [V.int (ws.getD i (0,0,"")).1,V.int (ws.getD i (0,0,"")).2.1,V.str (ws.getD i (0,0,"")).2.2] (k:Int)=some (.int (ib ws k i)):=by
      have:k=0\/k=1:=by omega
      rcases this with rfl | rfl
      ·exact aq (j:=0) rfl
      ·exact aq (j:=1) rfl
     refine uR Mx My ?_
     right
     have ef:(List.range (i + 1)).filter (λj=>decide (ib ws k j=m))=(List.range i).filter (λj=>decide (ib ws k j=m))++(if ib ws k i=m then[i] else[]):=by
      rw[List.range_succ,List.filter_append]
      congr 1
      by_cases z:ib ws k i=m <;> simp[z]
     by_cases z:ib ws k i=m
     ·rw[if_pos (by simp[z])]
      refine cH fO hl hi (Nat.le_of_lt (aA (by omega))) ⟨λc o e=>by rw[ay (ao e hD)];exact s3 _ _ e,?_⟩
      rw[ef,if_pos z,List.map_append,show(0:Int) + (i:Int)=(i:Int) by omega];rfl
     ·rw[if_neg (by simp[z])]
      exact⟨_,fO,by omega,s3,by rw[ef,if_neg z,List.append_nil]⟩
    ·rintro ys H3 fO hl ⟨s3,rfl⟩
     rw[uC] at fO
     refine L2.dZ ?_
     try dsimp only[List.set]
     refine L2.az h5 ?_
     clear h5
     have zk:=s2.trans s3
     have Sz:=q6.trans zk
     refine L2.aC λN6 h6=>?_
     right
     have tQ:∀(e:Nat) (Hc:Hp),ak Q6 Hc->iV CN Hc x mv wv lv/\gQ Hc 1 wv (ws.map dg):=λe Hc Pf=>⟨hf.same (q6.trans Pf),hL.hw.aY (q6.trans Pf).aZ⟩
     refine⟨x,dx,_,rfl,Sz _ _ g1,cN (by decide +kernel) (by decide +kernel) (by decide +kernel),?_⟩
     refine⟨x,mv,wv,lv,ws,m,rfl,(tQ 0 H3 zk).1,(tQ 0 H3 zk).2,rK,λ_ l1 H4 s4 SA SD=>?_,λno=>absurd ⟨L8,Jh⟩ no⟩
     have Ka:=zk.trans s4
     refine⟨x,dx,_,rfl,(q6.trans Ka) _ _ g1,cN (by decide +kernel) (by decide +kernel) (by decide +kernel),?_⟩
     refine⟨x,mv,wv,lv,ws,m,rfl,(tQ 0 H4 Ka).1,(tQ 0 H4 Ka).2,rK,λ_ l2 H5 s5 SE SF=>?_,λno=>absurd ⟨L8,Jh⟩ no⟩
     have SG:=Ka.trans s5
     refine⟨cQ,λp8 zZ=>?_⟩
     have s6:=ak.new (.lst [.ref l1,.ref l2]) zZ
     have e8:upd H5 p8 (.lst [.ref l1,.ref l2]) p8=some (.lst [.ref l1,.ref l2]):=ag
     generalize J5:upd H5 p8 (.lst [.ref l1,.ref l2])=G8 at *
     have SH:=SG.trans s6
     have M7:=(s5.trans s6) _ _ SD
     have M8:=s6 _ _ SF
     have M9:=(s4.trans (s5.trans s6)) _ _ fO
     obtain⟨lf,SI,Cw,SJ⟩:∃lf,iF [V.ref l1,.ref l2] (k:Int)=some (.ref lf)/\G8 lf=some (.lst ((pT ws k m).map λi=>.int (i:Nat)))/\H3 lf=none:=by
      have:k=0\/k=1:=by omega
      rcases this with rfl | rfl
      ·exact⟨l1,aq (j:=0) rfl,M7,SA⟩
      ·exact⟨l2,aq (j:=1) rfl,M8,cp s4 SE⟩
     refine bp e8 SI ?_
     refine L2.az h6 ?_
     clear h6
     have O7:(pT ws k m).length<=10:=Nat.le_trans (List.length_filter_le _ _) (by rw[List.length_range];omega)
     refine L2.aC λN7 h7=>?_
     refine L2.bF λT0 U0 hT hU=>?_
     right
     refine⟨_,true,.lst Cw,rfl,?_⟩
     try simp only[Bool.not_true,Bool.false_eq_true,if_false]
     refine cR ?_
     right
     refine .inl ⟨⟨_,aX.of Cw⟩,λD2 E4=>?_⟩
     refine bI (J:=ud K lf) (n:=(pT ws k m).length) (λi zs H'=>zs=List.replicate i (V.bl true)/\ak G8 H') (Nat.le_of_lt (aA (by omega))) ⟨rfl,ak.new _ E4⟩ ?_ ?_ ?_ ?_
     ·rintro i zs H' fX ⟨_,s8⟩
      exact⟨_,((pT ws k m).map λi=>V.int (i:Nat))[i]'(by simpa using fX),aX.of (s8 _ _ Cw),dI _⟩
     ·rintro zs H' ⟨_,s8⟩
      exact⟨_,aX.of (s8 _ _ Cw),by simp⟩
     ·rintro i zs H' fX iU i0 ⟨rfl,s8⟩ y Cn ⟨rfl,hy⟩
      have ex:=hy _ (aX.of (s8 _ _ Cw))
      rw[List.getElem?_map] at ex
      obtain⟨n0,_,rfl⟩:=Option.map_eq_some_iff.mp ex
      refine⟨Ext.set (Ext.refl _) rfl,?_⟩
      right
      first | rw[if_pos trivial] | rw[if_pos rfl]
      refine⟨_,rfl,?_⟩
      refine cH iU i0 fX (Nat.le_of_lt (aA (by omega))) ⟨gf _ _,λb o e=>?_⟩
      rw[ay (ao e E4)]
      exact s8 _ _ e
     rintro zs G9 iU i0 ⟨rfl,s9⟩
     right
     rw[kX] at iU
     refine⟨_,aX.of iU,?_⟩
     rw[show(List.replicate (pT ws k m).length true).all id=true by simp]
     clear iU i0
     try simp only[Bool.not_true,Bool.false_eq_true,if_false]
     refine⟨lf,D,true,rfl,rfl,tP (s9 _ _ Cw) (s9 _ _ M9) (λv hv=>?_),?_⟩
     ·obtain⟨n0,_,rfl⟩:=List.mem_map.mp hv
      exact zh
     try simp only[Bool.not_true,Bool.false_eq_true,if_false]
     refine L2.az hU ?_
     right
     refine L2.az h7 ?_
     clear h7 hT hU
     right
     refine⟨.inl ⟨rfl,_,aX.of (s9 _ _ Cw)⟩,_,s9 _ _ Cw,aA (by simp;omega),⟨_,_,_,rfl,rfl,rfl⟩,λb o e=>?_⟩
     rw[ay (ao (zk _ _ e) SJ)]
     exact s9 _ _ (SH _ _ e)
   ·rintro σ H2 ⟨⟨z5,z6,z7,rfl⟩,s2⟩
    exact⟨⟨_,_,_,_,_,rfl⟩,s2⟩
  rintro σ Q7 ⟨⟨z3,z4,z5,z6,z7,rfl⟩,s7⟩
  refine L2.az h4 ?_
  clear h4
  have q7:=q6.trans s7
  right
  refine⟨x,dx,_,rfl,q7 _ _ g1,cN (by decide +kernel) (by decide +kernel) (by decide +kernel),?_⟩
  refine⟨x,mv,wv,lv,rfl,hf.same q7,λp1 pW=>?_⟩
  have r1:=ak.new (.lst mv) pW
  have e1:upd Q7 p1 (.lst mv) p1=some (.lst mv):=ag
  generalize Pb:upd Q7 p1 (.lst mv)=Q1 at *
  have q1:=q7.trans r1
  refine⟨x,dx,_,rfl,q1 _ _ g1,cN (by decide +kernel) (by decide +kernel) (by decide +kernel),?_⟩
  refine⟨x,mv,wv,lv,rfl,hf.same q1,λp2 j6=>?_⟩
  have r2:=ak.new (.lst wv) j6
  have e2:upd Q1 p2 (.lst wv) p2=some (.lst wv):=ag
  generalize Pc:upd Q1 p2 (.lst wv)=Q2 at *
  have q2:=q1.trans r2
  refine⟨x,dx,_,rfl,q2 _ _ g1,cN (by decide +kernel) (by decide +kernel) (by decide +kernel),?_⟩
  refine⟨x,mv,wv,lv,rfl,hf.same q2,λp3 pP=>?_⟩
  have r3:=ak.new (.lst lv) pP
  have e3:upd Q2 p3 (.lst lv) p3=some (.lst lv):=ag
  generalize Pd:upd Q2 p3 (.lst lv)=Q3 at *
  have q3:=q2.trans r3
  refine⟨by show 3<=sizeLine;decide,λp9 tJ=>?_⟩
  have r4:=ak.new (.lst [.ref p1,.ref p2,.ref p3]) tJ
  have q9:=q3.trans r4
  refine⟨p9,L,true,rfl,rfl,eq3 ag (q9 _ _ hL.l) ((r2.trans (r3.trans r4)) _ _ e1) ((r3.trans r4) _ _ e2) (r4 _ _ e3) (q9 _ _ hL.m) (q9 _ _ hL.w) (q9 _ _ hL.k) J7 J8 J9,?_⟩
  exact q _ q9
theorem lG {C:Addr}{m:Addr}{ds:List b8}(t:bX H H')(i:∀b c d e,H b=some (.ins c d e)->H' b=some (.ins c d e))(h:hR C H m M ns row ds):hR C H' m M ns row ds:=by
 obtain⟨dx,st,dd,h1,h2,h3⟩:=h
 exact⟨dx,st,dd,i _ _ _ _ h1,h2.aY t,h3.aY t⟩
theorem LS.ok{C:Addr}{L am aw al:Addr}{wv lv:List V}(h:LS C H L am aw al mv wv lv ws ls):okN (List.replicate mv.length true) (ws.map dg) (ls.map fF)=true:=by
 have hw:wv.length=(ws.map dg).length:=h.hw.1
 have hl:lv.length=(ls.map fF).length:=h.hl.1
 have h1:=h.m1
 have h2:=h.m5
 have h3:=h.zQ
 have h4:=h.Cm
 have a1:kh 1 5 ((List.replicate mv.length true).length:Nat)=true:=by rw[List.length_replicate];simp[kh];omega
 have a2:kh 0 10 ((ws.map dg).length:Nat)=true:=by rw[<-hw];simp[kh];omega
 have a3:kh 0 20 ((ls.map fF).length:Nat)=true:=by rw[<-hl];simp[kh];omega
 have b1:(List.replicate mv.length true).all id=true:=by simp
 have b2:((ws.map dg).map (eD ((List.replicate mv.length true).length:Nat))).all id=true:=by
  rw[List.all_eq_true]
  intro b hb
  obtain⟨d,hd,rfl⟩:=List.mem_map.mp hb
  obtain⟨w,Na,rfl⟩:=List.mem_map.mp hd
  rw[List.length_replicate]
  exact yL (h.wo w Na)
 have b3:((ls.map fF).map (dN ((ws.map dg).length:Nat))).all id=true:=by
  rw[List.all_eq_true]
  intro b hb
  obtain⟨d,hd,rfl⟩:=List.mem_map.mp hb
  obtain⟨w,Na,rfl⟩:=List.mem_map.mp hd
  rw[<-hw]
  exact yM (h.lo w Na)
 simp only[okN,a1,a2,a3,b1,b2,b3,Bool.and_self]
abbrev mS:Stmt:=top 66
def nX (K:W.Frag):Sp:=λvs H Q _=>∃(a:Addr) (ns:List Int),vs=[.ref a]/\aX K H a (ns.map V.int)/\ns.length<=63/\∀H',Q (.bl true) H'
theorem Ft {f:Addr}{fd:FuncData}(D:vP K "law" "law" mS f fd)(T:Tx K mg C CN F FD)(dh:Def P w K mg base "_law_at" 1 ["_law_script","_law_k"] (yD K))(ig:Def P w K mg base "_law_full" 1 ["_law_lists","_law_cell"] (tL C))(jD:Def P w K mg base "_law_net" 5 ["_law_script"] (tI K))(dA:Def P w K mg base "_law_no_machine" 5 ["_law_net_here","_law_m"] (mR CN))(fe:Def P w K mg base "_law_refused" 7 ["_law_lists"] (pZ C))(ff:Def P w K mg base "_law_spoiled" 2 ["_law_lists","_law_cell"] (y9 C))(eO:Def P w K mg base "_law_tells" 5 ["_law_net_here","_law_lists"] (qa C CN))(jE:AO P w K mg base "Machine" C 7 ["self","modulus","numbers","row","deeds"] (tx C))(mQ:mH P w K mg base "Net" CN 5 ["self","machines","ways","letters"] (lB C CN c)):dU P w K mg base qR 9 f fd ["_law_script"] (nX K):=by
 have sc:aI ["_law_script","_law_told","_law_machines","_law_lists","_law_cell","_law_bad","_law_handed","_law_net_here","_law_one","_law_m"] ["_law_script"] (av mS):=by walk_at "s"
 refine D.ok sc (λvs H Q E h=>?_) (λcy A outer s H vs Q E hr h=>?_)
 ·obtain⟨a,ns,rfl,hS,hlen,q⟩:=h
  rfl
 ·obtain⟨a,ns,rfl,hS,hlen,q⟩:=h
  have hu:=hr.units
  refine⟨_,(aj (bj (i:=1) sc.nd rfl (by grind) (aL jD hr (ae (pv 0) aa)))
   (aj (cY (i:=2) sc.nd rfl (by grind) (N':=["_law_one"]) (ix:=[none]) (cZ (aH hu (pv 1) af)) (λ_ _ _ _=>(bf (i:=0) (show(["_law_one"]:List Str).Nodup by decide +kernel) rfl (by grind))) rq (λ_ _ _ _=>(HE jE hr (ae (eJ (K:=K) rfl hu (pv 0) af) (ae (dW (cT (K:=K) rfl) rfl T.de tW (ae (eJ (K:=K) rfl hu (pv 0) af) aa)) (ae (dW (cT (K:=K) rfl) rfl T.de tW (ae (eJ (K:=K) rfl hu (pv 0) af) aa)) (ae (dW (cT (K:=K) rfl) rfl T.de tW (ae (eJ (K:=K) rfl hu (pv 0) af) aa)) aa)))))))
   (aj (bj (i:=3) sc.nd rfl (by grind) (aS (ae (pv 2) (ae (aH hu (pv 1) af) (ae (aH hu (pv 1) af) aa)))))
   (aj (bj (i:=4) sc.nd rfl (by grind) (aL dh hr (ae (pv 0) (ae af aa))))
   (aj (bg (aM (bG hu) (aG bt (pv 4) af) af (aT _)) (aj (bj (i:=3) sc.nd rfl (by grind) (aL ig hr (ae (pv 3) (ae (aG bZ (pv 4) af) aa))))
   (au (bj (i:=2) sc.nd rfl (by grind) (aH hu (pv 3) af)))) aP)
   (aj (bg (aM (bG hu) (aG bt (pv 4) af) af (aT _)) (aj (bj (i:=5) sc.nd rfl (by grind) (aL ff hr (ae (pv 3) (ae (aG bZ (pv 4) af) aa))))
   (aj (cY (i:=6) sc.nd rfl (by grind) (N':=["_law_one"]) (ix:=[none]) (cZ (pv 5)) (λ_ _ _ _=>(bf (i:=0) (show(["_law_one"]:List Str).Nodup by decide +kernel) rfl (by grind))) rq (λ_ _ _ _=>(dW (cT (K:=K) rfl) rfl T.de tW (ae (pv 0) aa))))
   (au (bg (PW.pt (pw_or (bK (bJ (aL fe hr (ae (pv 6) aa)))) (pw_or1 (aM (kA hu) (pv 6) (pv 5) (aT _))))) (au (aK cI)) aP)))) aP)
   (aj (cY (i:=6) sc.nd rfl (by grind) (N':=["_law_one"]) (ix:=[none]) (cZ (pv 3)) (λ_ _ _ _=>(bf (i:=0) (show(["_law_one"]:List Str).Nodup by decide +kernel) rfl (by grind))) rq (λ_ _ _ _=>(dW (cT (K:=K) rfl) rfl T.de tW (ae (pv 0) aa))))
   (aj (bj (i:=7) sc.nd rfl (by grind) (EN mQ yw hr (ae (aH hu (pv 6) af) (ae (aH hu (pv 6) af) (ae (aH hu (pv 6) af) aa)))))
   (aj (bg (aM (kA hu) (pv 6) (pv 3) (aT _)) (au (aK cI)) aP)
   (aj (eP PassesOwn.never rfl (cZ (pv 6)) (bf (i:=8) sc.nd rfl (by grind))
   (aj (dX (wY tV PySem.F.slot_list_reverse PySem.F.type_list_reverse A1 (pv 8)))
   (au (dX (gO tV zK zL dE (pv 8) (ae fZ aa))))))
   (aj (eP PassesOwn.never rfl (cZ (aS (ae (aG bL (aV aU rfl T.bW PySem.boot_len (ae (pv 2) aa)) (aG bt (aG bZ (pv 4) af) (aG dD af af))) (ae (aG cB (jU gb af) (aG bt (aG bZ (pv 4) af) af)) aa)))) (bf (i:=9) sc.nd rfl (by grind))
   (au (bg (bK (bJ (aL dA hr (ae (pv 7) (ae (pv 9) aa))))) (au (aK cI)) aP)))
   (au (aK (dR (aL eO hr (ae (pv 7) (ae (pv 3) aa))) (dJ (aL eO hr (ae (pv 7) (ae (pv 3) aa)))))))))))))))))),?_⟩
  refine L2.aC λN1 h1=>?_
  right
  refine⟨a,ns,rfl,hS,hlen,λt am aw al mv wv lv gR ws ls Hn sn ht Bf zW F8 hM hW hL g=>?_⟩
  refine L2.az h1 ?_
  clear h1
  have Nb:mv.length<=5:=by have:=hM.1;have:=g.m5;omega
  have uC:wv.length=ws.length:=by have:=hW.1;simpa using this
  have Ij:lv.length=ls.length:=by have:=hL.1;simpa using this
  have SK:=g.m1
  have Nc:=g.m5
  have SM:=g.zQ
  have SN:=g.Cm
  refine L2.aC λN2 h2=>?_
  refine cR ?_
  right
  refine uR ht (aq (j:=0) rfl) ?_
  right
  refine .inl ⟨⟨_,aX.of Bf⟩,λD hD=>?_⟩
  refine bI (J:=ud K am) (n:=mv.length) (λi ys H'=>∃ms:List Addr,ys=ms.map V.ref/\ms.length=i/\(∀(j:Nat) m d,ms[j]?=some m->gR[j]?=some d->QX C H' m d)/\ak Hn H') (Nat.le_of_lt (aA (by omega))) ⟨[],rfl,rfl,λj m d e=>by simp at e,ak.new _ hD⟩ ?_ ?_ ?_ ?_
  ·rintro i ys H' fX ⟨_,_,_,_,s5⟩
   exact⟨_,mv[i],aX.of (s5 _ _ Bf),dI fX⟩
  ·rintro ys H' ⟨_,_,_,_,s5⟩
   exact⟨_,aX.of (s5 _ _ Bf),Nat.le_refl _⟩
  ·rintro i ys H' fX fO hl ⟨ms,rfl,Nd,Kb,s5⟩ x H3 ⟨rfl,hy⟩
   have ex:=hy _ (aX.of (s5 _ _ Bf))
   have gK:i < gR.length:=by have:=hM.1;omega
   have hg:=g.mg _ (List.getElem_mem gK)
   obtain⟨tt,ln,lr,ld,xs,rfl,h1,h2,h3,h4,h5⟩:=(hM.2 i x gR[i] ex (dI gK)).cv s5.cv
   generalize SO:gR[i]=md at *
   refine⟨Ext.set (Ext.refl _) rfl,?_⟩
   right
   rw[if_pos trivial]
   refine⟨_,_,.inr (bM.of h1),aq (j:=0) rfl,?_⟩
   refine⟨_,_,.inr (bM.of h1),aq (j:=1) rfl,?_⟩
   right
   refine⟨_,.inl (aX.of h2),λl1 EY=>?_⟩
   have s4:=ak.new (.lst (md.ns.map V.int)) EY
   refine⟨_,_,.inr (bM.of (s4 _ _ h1)),aq (j:=2) rfl,?_⟩
   right
   refine⟨_,.inl (aX.of (s4 _ _ h3)),λl2 JC=>?_⟩
   have Kc:=ak.new (.lst (md.row.map V.int)) JC
   refine⟨_,_,.inr (bM.of (Kc _ _ (s4 _ _ h1))),aq (j:=3) rfl,?_⟩
   right
   refine⟨_,.inl (aX.of (Kc _ _ (s4 _ _ h4))),λl3 SQ=>?_⟩
   have s6:=ak.new (.lst xs) SQ
   have Pg:=s4.trans (Kc.trans s6)
   have e1:=s6 _ _ (Kc _ _ (ag (H:=H3) (a:=l1) (o:=.lst (md.ns.map V.int))))
   have e2:=s6 _ _ (ag (H:=upd H3 l1 (.lst (md.ns.map V.int))) (a:=l2) (o:=.lst (md.row.map V.int)))
   have e3:upd (upd (upd H3 l1 (.lst (md.ns.map V.int))) l2 (.lst (md.row.map V.int))) l3 (.lst xs) l3=some (.lst xs):=ag
   generalize A6:upd (upd (upd H3 l1 (.lst (md.ns.map V.int))) l2 (.lst (md.row.map V.int))) l3 (.lst xs)=G6 at *
   intro m dx hx yQ SR
   have s7:ak G6 (upd (upd G6 dx (.own m)) m (.ins C dx [])):=λb o e=>by rw[ay (ao e hx),ay (ao e yQ)];exact e
   have Ph:=Pg.trans s7
   refine⟨m,dx,md.M,l1,l2,l3,md.ns,md.row,xs,md.ds,2,rfl,ag,hg.m2,hg.QL,.inl (s7 _ _ e1),.inl (s7 _ _ e2),.inl (s7 _ _ e3),hg.l1,hg.l4,hg.QM,hg.bn,hg.br,(h5.aY Ph.aZ).dl,by decide,hg.QN,hg.ok,λH8 Ji hk=>⟨rfl,?_⟩⟩
   have Nf:ak H3 H8:=λb o e=>hk b o (ao (Pg _ _ e) hx) (Ph _ _ e)
   have Fu:=Nf _ _ fO
   have t7:bX H8 (upd H8 D (.lst (ms.map V.ref++[.ref m]))):=(bX.refl _).upd λzs e=>by rw[Fu] at e;cases e
   have i7:∀b c d e,H8 b=some (.ins c d e)->upd H8 D (.lst (ms.map V.ref++[.ref m])) b=some (.ins c d e):=λb c d e h=>by
    rw[ay (λz=>by subst z;rw[Fu] at h;cases h)];exact h
   refine cH Fu hl fX (Nat.le_of_lt (aA (by omega))) ⟨ms++[m],by simp,by simp[Nd],λj m' d e1 e2=>?_,λb o e=>?_⟩
   ·by_cases hj:j < ms.length
    ·rw[List.getElem?_append_left hj] at e1
     exact lG t7 i7 ((Kb j m' d e1 e2).same Nf)
    ·rw[List.getElem?_append_right (by omega)] at e1
     cases vZ:j - ms.length with
     | succ k=>rw[vZ] at e1;simp at e1
     | zero=>
      rw[vZ] at e1
      cases e1
      have SU:j=i:=by omega
      subst SU
      rw[dI gK,SO] at e2
      cases e2
      exact lG t7 i7 Ji
   ·rw[ay (ao e hD)]
    exact Nf _ _ (s5 _ _ e)
  rintro ys H4 fO hl ⟨ms,rfl,Nd,Kb,s5⟩
  have A7:ms.length=gR.length:=by have:=hM.1;omega
  refine L2.az h2 ?_
  clear h2
  have vU:=s5 _ _ ht
  refine L2.aC λN3 h3=>?_
  right
  refine uR vU (aq (j:=1) rfl) ?_
  refine uR vU (aq (j:=2) rfl) ?_
  refine⟨by show 3<=sizeLine;decide,λL Pj=>?_⟩
  have s6:=ak.new (.lst [.ref D,.ref aw,.ref al]) Pj
  have eL:upd H4 L (.lst [.ref D,.ref aw,.ref al]) L=some (.lst [.ref D,.ref aw,.ref al]):=ag
  generalize A6:upd H4 L (.lst [.ref D,.ref aw,.ref al])=G6 at *
  refine L2.az h3 ?_
  clear h3
  have Gh:=sn.trans (s5.trans s6)
  have lM:LS C G6 L D aw al (ms.map V.ref) wv lv ws ls:=by
   refine⟨eL,s6 _ _ fO,(s5.trans s6) _ _ zW,(s5.trans s6) _ _ F8,λv hv=>?_,hW.aY (s5.trans s6).aZ,hL.aY (s5.trans s6).aZ,by rw[List.length_map];omega,by rw[List.length_map];omega,by omega,by omega,λw hw=>by rw[List.length_map,A7];exact g.wo w hw,λl hl=>by rw[uC];exact g.lo l hl⟩
   obtain⟨m,hm,rfl⟩:=List.mem_map.mp hv
   obtain⟨j,hj,rfl⟩:=List.getElem_of_mem hm
   obtain⟨Pk,wC,QJ,h1,_,_⟩:=(Kb j _ gR[j] (dI hj) (dI (by omega))).same s6
   exact⟨_,_,_,rfl,h1⟩
  refine L2.aC λN4 h4=>?_
  right
  refine⟨a,ns,_,rfl,Gh.seq hS,by omega,λz=>?_⟩
  refine L2.az h4 ?_
  clear h4
  refine L2.aC λN5 h5=>?_
  have Cy:∀(L am aw al:Addr) (mv wv lv:List V) (ws:List (Int×Int×Str)) (ls:List (Int×Int)) (H':Hp),LS C H' L am aw al mv wv lv ws ls->N5 [some (.ref a),some (.ref t),some (.ref am),some (.ref L),some (.int z),none,none,none,none,none] H':=by
   clear lM fO Kb Nd A7 eL A6 s6 Gh vU zW F8 Bf hM hW hL g ht Pj SK Nc SM SN uC Ij Nb s5 sn hl
   intro L am aw al mv wv lv ws ls H' lM
   refine L2.az h5 ?_
   clear h5
   refine L2.aC λN6 h6=>?_
   have Cz:∀(z5 z6:Option V) (H1:Hp),LS C H1 L am aw al mv wv lv ws ls->N6 [some (.ref a),some (.ref t),some (.ref am),some (.ref L),some (.int z),z5,z6,none,none,none] H1:=by
    intro z5 z6 H1 lM
    refine L2.az h6 ?_
    clear h6
    refine L2.aC λN7 h7=>?_
    refine ML (i:=3) rfl lM.l lM.m lM.w lM.k λF fm fw fl H2 s2 nF nm nw nl n1 n2 n3 n4 n5 n6 eF em ew el=>?_
    refine L2.dZ ?_
    try dsimp only[List.set]
    refine L2.az h7 ?_
    clear h7
    have Fv:=lM.same s2
    have F3:=lM.m1
    have Iq:=lM.m5
    have rK:=lM.zQ
    have Bl:=lM.Cm
    have J7:∀v ∈ mv,Sf v:=λv hv=>by obtain⟨m,_,_,e,_⟩:=lM.ms v hv;rw[e];exact jA
    have J8:=jB (lM.hw.gM (m:=4) (by decide))
    have J9:=jB (lM.hl.gM (m:=4) (by decide))
    refine L2.aC λN8 h8=>?_
    right
    refine bp eF (aq (j:=0) rfl) ?_
    refine bp eF (aq (j:=1) rfl) ?_
    refine bp eF (aq (j:=2) rfl) ?_
    intro x dx hx yQ kM
    have sx:ak H2 (upd (upd H2 dx (.own x)) x (.ins CN dx [])):=λb o e=>by rw[ay (ao e hx),ay (ao e yQ)];exact e
    have Br:=Fv.same sx
    have ok:okN (List.replicate mv.length true) (ws.map dg) (ls.map fF)=true:=lM.ok
    refine⟨x,dx,fm,fw,fl,mv,wv,lv,_,_,_,rfl,ag,sx _ _ em,sx _ _ ew,sx _ _ el,LS.me Br.ms,Br.hw.gM (by decide),Br.hl.gM (by decide),λ_ H3 hn hk=>⟨rfl,?_⟩,λbad=>absurd (ok.symm.trans bad) (by decide)⟩
    have s3:ak H2 H3:=λb o e=>hk b o (ao e hx) (sx _ _ e)
    refine L2.az h8 ?_
    clear h8
    have zl:=Fv.same s3
    have Ke:=s3 _ _ eF
    have Kf:=s3 _ _ em
    have F7:=s3 _ _ ew
    have Kg:=s3 _ _ el
    refine L2.aC λN9 h9=>?_
    refine L2.bF λT0 U0 hT hU=>?_
    right
    refine⟨F,L,true,rfl,rfl,eq3 Ke zl.l Kf F7 Kg zl.m zl.w zl.k J7 J8 J9,?_⟩
    try simp only[Bool.not_true,Bool.false_eq_true,if_false]
    refine L2.az hU ?_
    right
    refine L2.az h9 ?_
    clear h9 hT hU
    refine L2.aC λUy qi=>?_
    right
    refine⟨_,rfl,.inl ⟨⟨_,aX.of Ke⟩,?_⟩⟩
    refine iA (K:=K) (xs:=[.ref fm,.ref fw,.ref fl]) (λi σ H'=>(∃z8,σ=[some (.ref a),some (.ref t),some (.ref am),some (.ref L),some (.int z),z5,some (.ref F),some (.ref x),z8,none])/\(∀b o,b≠fm->b≠fw->b≠fl->H3 b=some o->H' b=some o)/\∀p,(p=fm\/p=fw\/p=fl)->∃y,H' p=some (.lst y)/\y.length<=20 + i) ⟨⟨none,rfl⟩,λb o _ _ _ e=>e,λp hp=>?_⟩ ?_ ?_ ?_
    ·rcases hp with rfl | rfl | rfl
     ·exact⟨_,Kf,by omega⟩
     ·exact⟨_,F7,by omega⟩
     ·exact⟨_,Kg,by omega⟩
    ·rintro i σ H4 hi ⟨_,k,_⟩
     exact aX.of (k _ _ n4 n5 n6 Ke)
    ·rintro i v σ H4 hv ⟨⟨z8,rfl⟩,k,hy⟩
     have hi:i < 3:=(List.getElem?_eq_some_iff.mp hv).1
     obtain⟨p,rfl,hp⟩:∃p,v=.ref p/\(p=fm\/p=fw\/p=fl):=by
      have vZ:i=0\/i=1\/i=2:=by omega
      rcases vZ with rfl | rfl | rfl <;> cases hv
      ·exact⟨_,rfl,.inl rfl⟩
      ·exact⟨_,rfl,.inr (.inl rfl)⟩
      ·exact⟨_,rfl,.inr (.inr rfl)⟩
     obtain⟨y,ey,ly⟩:=hy p hp
     refine L2.dZ ?_
     try dsimp only[List.set]
     right
     refine⟨.inl ⟨rfl,_,aX.of ey⟩,_,ey,.inl ⟨rfl,_,aX.of ag⟩,_,ag,aA (by simp;omega),⟨_,rfl⟩,λb o b1 b2 b3 e=>?_,λp' sP=>?_⟩
     ·have nb:b≠p:=λz=>by subst z;rcases hp with z | z | z <;> contradiction
      rw[ay nb,ay nb]
      exact k b o b1 b2 b3 e
     ·by_cases z:p'=p
      ·subst z;exact⟨_,ag,by simp;omega⟩
      ·obtain⟨y',e',l'⟩:=hy p' sP
       exact⟨y',by rw[ay z,ay z];exact e',by omega⟩
    rintro σ H5 ⟨⟨z8,rfl⟩,k5,_⟩
    refine L2.az qi ?_
    clear qi
    have SV:ak H1 H5:=λb o e=>k5 b o (ao e nm) (ao e nw) (ao e nl) ((s2.trans s3) _ _ e)
    have Bs:=lM.same SV
    have Ng:iV CN H5 x mv wv lv:=by
     obtain⟨Pk,ta,tb,tc,g1,g2,g3,g4⟩:=hn
     have kk:∀b o,(∀ys,o≠.lst ys)->H3 b=some o->H5 b=some o:=λb o no e=>k5 b o (λz=>by rw[z,Kf] at e;cases e;exact no _ rfl) (λz=>by rw[z,F7] at e;cases e;exact no _ rfl) (λz=>by rw[z,Kg] at e;cases e;exact no _ rfl) e
     exact⟨Pk,ta,tb,tc,kk _ _ (λys z=>by cases z) g1,kk _ _ (λys z=>by cases z) g2,kk _ _ (λys z=>by cases z) g3,kk _ _ (λys z=>by cases z) g4⟩
    clear hn hk k5 s3 zl Ke Kf F7 Kg Fv Br sx eF em ew el s2
    refine L2.aC λUz L4=>?_
    have Pl:oP z 4:=⟨by decide,by decide +kernel⟩
    refine⟨_,rfl,_,.inl ⟨_,aX.of Bs.m,rfl⟩,_,rfl,Pl,y6,tM,?_⟩
    refine⟨_,rfl,_,rfl,Pl,(by decide:(0:Int) < 7),cQ,λp hp=>.inl ⟨⟨_,aX.of ag⟩,?_⟩⟩
    have b1:0<=z / 4 % 10 ^ Int.toNat 30:=Int.emod_nonneg _ (by have:=tM;omega)
    have b2:0<=z / 4 % 7:=Int.emod_nonneg _ (by decide)
    generalize z / 4 % 10 ^ Int.toNat 30=y1 at *
    generalize z / 4 % 7=y2 at *
    have s6:=ak.new (.lst [.int ((mv.length:Nat) + y1),.int (-1 - y2)]) hp
    have e6:upd H5 p (.lst [.int ((mv.length:Nat) + y1),.int (-1 - y2)]) p=some (.lst [.int ((mv.length:Nat) + y1),.int (-1 - y2)]):=ag
    generalize A6:upd H5 p (.lst [.int ((mv.length:Nat) + y1),.int (-1 - y2)])=G6 at *
    refine iA (K:=K) (xs:=[.int ((mv.length:Nat) + y1),.int (-1 - y2)]) (λi σ H'=>(∃z9,σ=[some (.ref a),some (.ref t),some (.ref am),some (.ref L),some (.int z),z5,some (.ref F),some (.ref x),z8,z9])/\ak G6 H') ⟨⟨none,rfl⟩,ak.refl _⟩ ?_ ?_ ?_
    ·rintro i σ H6 hi ⟨_,k⟩
     exact aX.of (k _ _ e6)
    ·rintro i v σ H6 hv ⟨⟨z9,rfl⟩,k⟩
     have hi:i < 2:=(List.getElem?_eq_some_iff.mp hv).1
     obtain⟨m,rfl,hm⟩:∃m:Int,v=.int m/\¬(0<=m/\m < ((mv.length:Nat):Int)):=by
      have vZ:i=0\/i=1:=by omega
      rcases vZ with rfl | rfl <;> cases hv
      ·exact⟨_,rfl,by omega⟩
      ·exact⟨_,rfl,by omega⟩
     refine L2.dZ ?_
     try dsimp only[List.set]
     refine L2.bF λT0 U0 hT hU=>?_
     have Gp:=s6.trans k
     right
     refine⟨x,mv,wv,lv,ws,m,rfl,Ng.same Gp,Bs.hw.aY Gp.aZ,rK,hm,λH7 s7=>?_⟩
     right
     try simp only[Bool.not_true,Bool.false_eq_true,if_false]
     refine L2.az hU ?_
     right
     exact⟨⟨_,rfl⟩,k.trans s7⟩
    ·rintro σ H6 ⟨⟨z9,rfl⟩,k⟩
     refine L2.az L4 ?_
     have Gp:=s6.trans k
     right
     refine⟨x,L,am,aw,al,mv,wv,lv,ws,ls,rfl,Bs.same Gp,Ng.same Gp,λH7 s7=>?_⟩
     right
     first | rw[if_pos trivial] | rw[if_pos rfl] | skip
     have JZ:=Gp.trans s7
     exact⟨x,L,am,aw,al,mv,wv,lv,ws,ls,rfl,Bs.same JZ,Ng.same JZ,λH8 s8=>q _⟩
   refine L2.bF λT0 U0 hT hU=>?_
   right
   refine⟨by decide,?_⟩
   by_cases hz:z % 2=1
   ·rw[if_pos (by simpa using hz)]
    refine L2.az hT ?_
    clear hT hU
    refine L2.aC λN7 h7=>?_
    right
    refine⟨⟨by decide,by decide⟩,L,am,aw,al,mv,wv,lv,ws,ls,z / 2,rfl,lM,λF fm fw fl oj j3 iX bs dw dl H1 s1 eF em ew el vW vX vY bad l1 l2 l3=>?_⟩
    refine L2.az h7 ?_
    clear h7
    refine L2.aC λN8 h8=>?_
    refine ML (i:=5) rfl eF em ew el λF' SW SX SY H2 s2 nF nm nw nl n1 n2 n3 n4 n5 n6 Pm Pn Po Pp=>?_
    refine L2.dZ ?_
    try dsimp only[List.set]
    refine L2.az h8 ?_
    clear h8
    refine L2.bF λT0 U0 hT hU=>?_
    right
    refine⟨F',SW,SX,SY,oj,j3,iX,bs,dw,dl,rfl,Pm,Pn,Po,Pp,vW.same s2,d5.same s2 vX,d5.same s2 vY,bad,λH3 s3=>?_⟩
    right
    try simp only[Bool.not_true,Bool.false_eq_true,if_false]
    have zk:=s2.trans s3
    refine⟨F',F,true,rfl,rfl,eq3 (s3 _ _ Pm) (zk _ _ eF) (s3 _ _ Pn) (s3 _ _ Po) (s3 _ _ Pp) (zk _ _ em) (zk _ _ ew) (zk _ _ el) (Fq vW) (jB vX) (jB vY),?_⟩
    try simp only[Bool.not_true,Bool.false_eq_true,if_false]
    refine L2.az hU ?_
    right
    exact Cz _ _ H3 (lM.same (s1.trans zk))
   ·rw[if_neg (by simpa using hz)]
    refine L2.az hU ?_
    right
    exact Cz _ _ H' lM
  refine L2.bF λT0 U0 hT hU=>?_
  right
  refine⟨by decide,?_⟩
  by_cases hz:z % 4=0
  ·rw[if_pos (by simpa using hz)]
   refine L2.az hT ?_
   clear hT hU
   refine L2.aC λN7 h7=>?_
   right
   refine⟨⟨by decide,by decide⟩,L,D,aw,al,_,wv,lv,ws,ls,z / 4,rfl,lM,λL' OJ OK OL oj j3 iX Co Cp H' s' Jj=>?_⟩
   refine L2.az h7 ?_
   clear h7
   right
   refine bp Jj.l (aq (j:=0) rfl) ?_
   exact Cy _ _ _ _ _ _ _ _ _ _ Jj
  ·rw[if_neg (by simpa using hz)]
   refine L2.az hU ?_
   right
   exact Cy _ _ _ _ _ _ _ _ _ _ lM
end
end vS
namespace vS
open PySem L2 DD
variable {p0 p1:Str}{K:W.Frag}
structure eE (K:W.Frag)(B C:Addr)(x:Str):Prop where
 ax:W.nsIn K mainGlobals x=some (some (.ref C))
 ob:∃nm q N bs sn sub ab col dd k0 k1 k2 k3 k5,K.lookup C=some (excClassObj nm q C N bs (.ref B::ka) true sn sub ab col dd k0 k1 k2 k3 k5 "ValueError.__new__")
 ga:W.findIn K (.ref C) "__getattribute__"=some (some (.builtin "BaseException.__getattribute__"))
 gt:W.findIn K (.ref C) "__getattr__"=some none
 sa:W.findIn K (.ref C) "__setattr__"=some (some (.builtin "object.__setattr__"))
 cl:W.findIn K (.ref C) "__class__"=some (some (.builtin "object.__class__"))
 kp:W.keepIn K (.ref C)=true
theorem Jk {B C:Addr}{x nm q:Str}{N:Addr}{bs sub:List Value}{sn:List Str}{ab:Bool}{col:Option Bool}{dd:Option Addr}{k0 k1 k2 k3 k5:Option Value}(ax:W.nsIn K mainGlobals x=some (some (.ref C)))(ob:K.lookup C=some (excClassObj nm q C N bs (.ref B::ka) true sn sub ab col dd k0 k1 k2 k3 k5 "ValueError.__new__"))
  (ga:W.findIn K (.ref C) "__getattribute__"=some (some (.builtin "BaseException.__getattribute__"))) (gt:W.findIn K (.ref C) "__getattr__"=some none) (sa:W.findIn K (.ref C) "__setattr__"=some (some (.builtin "object.__setattr__"))) (cl:W.findIn K (.ref C) "__class__"=some (some (.builtin "object.__class__"))) (kp:W.keepIn K (.ref C)=true):eE K B C x:=
 ⟨ax,⟨_,_,_,_,_,_,_,_,_,_,_,_,_,_,ob⟩,ga,gt,sa,cl,kp⟩
theorem eE.cls{B C:Addr}{x:Str}(h:eE K B C x)(cg:W.specialIn K (.builtin "object.__class__") "__get__"=some (some (.builtin "getset_descriptor.__get__")))(ct:W.takesIn K (.builtin "object.__class__")=some true):dY K C B:=
 ⟨h.ob,h.ga,h.gt,h.sa,h.cl,cg,ct,h.kp⟩
def FnAt (K:W.Frag)(f:Addr)(x q:Str)(st:Stmt):Prop:=∃od an sl oc kV dc pm cd ct,K.lookup f=some ⟨oc,od,.func (W.fnOf x q (cA st) (bq st) (av st) .none kV dc pm an cd ct),sl⟩/\W.codeIn K cd q=true/\W.keepIn K (.ref f)=true
def DF (K:W.Frag)(x:Str)(st:Stmt):Prop:=∃f,W.nsIn K mainGlobals x=some (some (.ref f))/\FnAt K f x x st
def MF (K:W.Frag)(C:Addr)(m q:Str)(st:Stmt):Prop:=∃f,W.findIn K (.ref C) m=some (some (.ref f))/\W.isFn K (.ref f)=true/\FnAt K f m q st
def CA (x q:Str)(st:Stmt)(ps:List Str):Prop:=∀(kV doc pm:Value) (an:Option Addr) (cy ct:Value) (us:List Value),us.length=ps.length->bindArgs (W.fnOf x q (cA st) (bq st) (av st) .none kV doc pm an cy ct) ⟨us,[]⟩=pure (ps.zip us)
section
variable {K:W.Frag}{h:Heap}{mg:Str->Option Value}{x m q:Str}{C f:Addr}{st:Stmt}{ps:List Str}{od an:Option Addr}{sl:Array (Option Value)}{oc kV dc pm cd ct:Value}
theorem CB (a:W.nsIn K mainGlobals x=some (some (.ref f)))(l:K.lookup f=some ⟨oc,od,.func (W.fnOf x x (cA st) (bq st) (av st) .none kV dc pm an cd ct),sl⟩)(c:W.codeIn K cd x=true)(k:W.keepIn K (.ref f)=true):DF K x st:=⟨f,a,_,_,_,_,_,_,_,_,_,l,c,k⟩
theorem CC (a:W.findIn K (.ref C) m=some (some (.ref f)))(i:W.isFn K (.ref f)=true)(l:K.lookup f=some ⟨oc,od,.func (W.fnOf m q (cA st) (bq st) (av st) .none kV dc pm an cd ct),sl⟩)(c:W.codeIn K cd q=true)(k:W.keepIn K (.ref f)=true):MF K C m q st:=⟨f,a,i,_,_,_,_,_,_,_,_,_,l,c,k⟩
theorem bc (X:K.In h)(G:h.Ns mainGlobals mg)(d:DF K x st)(b:CA x x st ps):cJ K mg x x st ps:=by
 obtain⟨f,a,_,_,_,_,_,_,_,_,_,l,c,k⟩:=d
 exact⟨_,_,gT l c k,W.mg_of X G a,(gT l c k).binds b⟩
theorem gI (d:MF K C m q st)(b:CA m q st ps):kS K C m q st ps:=by
 obtain⟨f,a,i,_,_,_,_,_,_,_,_,_,l,c,k⟩:=d
 exact⟨_,_,⟨a,i,k⟩,gT l c k,(gT l c k).binds b⟩
theorem tR (X:K.In h)(G:h.Ns mainGlobals mg)(mk:W.makesIn K C=true)(kc:W.keepIn K (.ref C)=true)(d:MF K C "__init__" q st)(a':W.nsIn K mainGlobals x=some (some (.ref C)))(b:CA "__init__" q st ps):rh K mg x C q st ps:=by
 obtain⟨f,a,i,_,_,_,_,_,_,_,_,_,l,c,k⟩:=d
 exact⟨⟨_,_,⟨mk,a,i,kc⟩,gT l c k,(gT l c k).binds b⟩,W.mg_of X G a'⟩
theorem ij {us:List Value}{n:Nat}(h:us.length=n + 1):∃x r,us=x::r/\r.length=n:=by
 cases us with
 | nil=>cases h
 | cons x r=>exact⟨x,r,rfl,Nat.succ.inj h⟩
theorem l8 (e:∀(kV doc pm:Value) (an:Option Addr) (cy ct x0:Value),bindArgs (W.fnOf x q (cA st) (bq st) (av st) .none kV doc pm an cy ct) ⟨[x0],[]⟩=pure ([p0].zip [x0])):CA x q st [p0]:=λkV doc pm an cy ct us hl=>by
 obtain⟨x0,u0,rfl,h0⟩:=ij hl
 cases List.length_eq_zero_iff.mp h0
 exact e ..
theorem ik (e:∀(kV doc pm:Value) (an:Option Addr) (cy ct x0 x1:Value),bindArgs (W.fnOf x q (cA st) (bq st) (av st) .none kV doc pm an cy ct) ⟨[x0,x1],[]⟩=pure ([p0,p1].zip [x0,x1])):CA x q st [p0,p1]:=λkV doc pm an cy ct us hl=>by
 obtain⟨x0,u0,rfl,h0⟩:=ij hl
 obtain⟨x1,u1,rfl,h1⟩:=ij h0
 cases List.length_eq_zero_iff.mp h1
 exact e ..
theorem vF {p2:Str}(e:∀(kV doc pm:Value) (an:Option Addr) (cy ct x0 x1 x2:Value),bindArgs (W.fnOf x q (cA st) (bq st) (av st) .none kV doc pm an cy ct) ⟨[x0,x1,x2],[]⟩=pure ([p0,p1,p2].zip [x0,x1,x2])):CA x q st [p0,p1,p2]:=λkV doc pm an cy ct us hl=>by
 obtain⟨x0,u0,rfl,h0⟩:=ij hl
 obtain⟨x1,u1,rfl,h1⟩:=ij h0
 obtain⟨x2,u2,rfl,h2⟩:=ij h1
 cases List.length_eq_zero_iff.mp h2
 exact e ..
theorem Fw {p2 p3:Str}(e:∀(kV doc pm:Value) (an:Option Addr) (cy ct x0 x1 x2 x3:Value),bindArgs (W.fnOf x q (cA st) (bq st) (av st) .none kV doc pm an cy ct) ⟨[x0,x1,x2,x3],[]⟩=pure ([p0,p1,p2,p3].zip [x0,x1,x2,x3])):CA x q st [p0,p1,p2,p3]:=λkV doc pm an cy ct us hl=>by
 obtain⟨x0,u0,rfl,h0⟩:=ij hl
 obtain⟨x1,u1,rfl,h1⟩:=ij h0
 obtain⟨x2,u2,rfl,h2⟩:=ij h1
 obtain⟨x3,u3,rfl,h3⟩:=ij h2
 cases List.length_eq_zero_iff.mp h3
 exact e ..
theorem Nh {p2 p3 p4:Str}(e:∀(kV doc pm:Value) (an:Option Addr) (cy ct x0 x1 x2 x3 x4:Value),bindArgs (W.fnOf x q (cA st) (bq st) (av st) .none kV doc pm an cy ct) ⟨[x0,x1,x2,x3,x4],[]⟩=pure ([p0,p1,p2,p3,p4].zip [x0,x1,x2,x3,x4])):CA x q st [p0,p1,p2,p3,p4]:=λkV doc pm an cy ct us hl=>by
 obtain⟨x0,u0,rfl,h0⟩:=ij hl
 obtain⟨x1,u1,rfl,h1⟩:=ij h0
 obtain⟨x2,u2,rfl,h2⟩:=ij h1
 obtain⟨x3,u3,rfl,h3⟩:=ij h2
 obtain⟨x4,u4,rfl,h4⟩:=ij h3
 cases List.length_eq_zero_iff.mp h4
 exact e ..
end
theorem all_mk {l:W.OpenLaw}{w:World}{h:Heap}{mg:Str->Option Value}{fa C CN F B C0 C1 C2 C3 C4 C5 C6 C7 C8 C9 vG v8 v9 wa wb wc wd we wg:Addr}(X:K.In h)(G:h.Ns mainGlobals mg)(S0:mg "law"=some (.ref fa))
  {S3:ClassData} (aB:W.nsIn K mainGlobals "NetError"=some (some (.ref B))) (FV:W.clsIn K B=some S3) (tyB:W.typeIn K (.ref B)=some (.type "type"))
  {Ni S4:Str} {S5:Addr} {Nj Jl:List Value} {Nk:List Str} {Nl:Bool} {Jm:Option Bool} {Nm:Option Addr} {Np Nq Nr Nt Nu:Option Value} (Fx:K.lookup B=some (excClassObj Ni S4 B S5 Nj ka true Nk Jl Nl Jm Nm Np Nq Nr Nt Nu "ValueError.__new__")) (vH:eE K B C0 "BadMachine") (Bt:eE K B C1 "BadDeed") (vI:eE K B C2 "NoText") (vJ:eE K B C3 "BadNet") (Bu:eE K B C4 "NoLetter") (Bv:eE K B C5 "NotFirst") (vK:eE K B C6 "NoCount") (vL:eE K B C7 "NoEvent") (Bw:eE K B C8 "Orphaned") (vM:eE K B C9 "TooMany") (tS:eE K B vG "NoLine") (mT:eE K B v8 "NoMachine") (tT:eE K B v9 "NotRow") (mU:eE K B wa "Busy") (tU:eE K B wb "NotReached") (mV:eE K B wc "NoMark") (mW:eE K B wd "NoRow") (mX:eE K B we "NoName") (mY:eE K B wg "NoDeed") (c8:W.findIn K (.ref C1) "at"=some none) (cK:W.findIn K (.ref C4) "at"=some none) (cL:W.findIn K (.ref C5) "at"=some none) (bS:W.findIn K (.ref C8) "letter"=some none) (cE:W.findIn K (.ref vG) "falls"=some none) (ck:W.findIn K (.ref vG) "letter"=some none) (c9:W.findIn K (.ref v9) "way"=some none) (bA:W.findIn K (.ref wb) "machine"=some none) (Fy:W.findIn K (.ref C0) "__init__"=some (some (.builtin "ValueError.__init__"))) (Fz:W.findIn K (.ref C2) "__init__"=some (some (.builtin "ValueError.__init__"))) (FA:W.findIn K (.ref C3) "__init__"=some (some (.builtin "ValueError.__init__"))) (FC:W.findIn K (.ref C6) "__init__"=some (some (.builtin "ValueError.__init__"))) (FE:W.findIn K (.ref C7) "__init__"=some (some (.builtin "ValueError.__init__"))) (FF:W.findIn K (.ref C9) "__init__"=some (some (.builtin "ValueError.__init__"))) (zm:W.findIn K (.ref v8) "__init__"=some (some (.builtin "ValueError.__init__"))) (zo:W.findIn K (.ref wa) "__init__"=some (some (.builtin "ValueError.__init__"))) (zp:W.findIn K (.ref wc) "__init__"=some (some (.builtin "ValueError.__init__"))) (zq:W.findIn K (.ref wd) "__init__"=some (some (.builtin "ValueError.__init__"))) (zr:W.findIn K (.ref we) "__init__"=some (some (.builtin "ValueError.__init__"))) (zt:W.findIn K (.ref wg) "__init__"=some (some (.builtin "ValueError.__init__"))) (iY:W.nsIn K mainGlobals "Machine"=some (some (.ref C))) (Bx:W.nsIn K mainGlobals "Net"=some (some (.ref CN))) (lH:DF K "_law_at" lp) (il:DF K "_law_full" ie) (gy:DF K "_law_digit" gm) (gz:DF K "_law_value" gp) (ip:DF K "_law_deed" hV) (fg:DF K "_law_machine" eU) (jF:DF K "_law_pot" jj) (jG:DF K "_law_net" jw) (iq:DF K "is_whole" gX) (gA:DF K "is_within" gk) (fh:MF K CN "ways_at" "Net.ways_at" eY) (fi:MF K CN "ways_in" "Net.ways_in" eZ) (eu:MF K CN "ways_out" "Net.ways_out" eh) (dB:DF K "_law_no_machine" dz) (gB:DF K "is_letter" gn) (jH:DF K "is_list" jk) (lI:DF K "is_way" lx) (fT:DF K "refuse_net" fP) (zu:MF K CN "__init__" "Net.__init__" yY) (fj:DF K "_law_refused" fc) (jI:DF K "_law_odd" jy) (fk:DF K "_law_spoiled" fb) (gC:DF K "_law_plain" gv) (fq:MF K CN "letters" "Net.letters" eX) (eA:MF K CN "machines" "Net.machines" eg) (ir:MF K CN "ways" "Net.ways" ia) (gD:DF K "_law_tells" gw) (jJ:DF K "form_of" jl) (iu:DF K "is_value" g6) (jK:DF K "is_part" jm) (jL:DF K "is_deed" jn) (eB:DF K "refuse_deeds" d7) (ft:DF K "are_counted" eS) (dC:DF K "refuse_machine" du) (jM:MF K C "__init__" "Machine.__init__" ju) (zv:DF K "law" mS) (jN:W.plainGet K C Str.empty=true) (jO:W.hasDictIn K C=true) (jP:W.plainOver K C=true) (jQ:W.findIn K (.ref C) "__setattr__"=some (some (.builtin "object.__setattr__"))) (jR:W.makesIn K C=true) (jS:W.keepIn K (.ref C)=true) (vd:W.findIn K (.ref C) "__class__"=some (some (.builtin "object.__class__"))) (ve:W.mroIn K C (.type "object")=some true) (FX:W.findIn K (.ref C) "own_modulus"=some none) (FY:W.findIn K (.ref C) "own_state"=some none) (FZ:W.findIn K (.ref C) "own_deeds"=some none) (zw:W.plainGet K CN Str.empty=true) (zx:W.hasDictIn K CN=true) (zy:W.plainOver K CN=true) (zA:W.findIn K (.ref CN) "__setattr__"=some (some (.builtin "object.__setattr__"))) (zB:W.makesIn K CN=true) (zC:W.keepIn K (.ref CN)=true) (yA:W.findIn K (.ref CN) "__class__"=some (some (.builtin "object.__class__"))) (yB:W.mroIn K CN (.type "object")=some true) (pz:W.findIn K (.ref CN) "own_machines"=some none) (pA:W.findIn K (.ref CN) "own_ways"=some none) (rp:W.findIn K (.ref CN) "own_letters"=some none) (cu:W.specialIn K (.builtin "object.__class__") "__get__"=some (some (.builtin "getset_descriptor.__get__"))) (bw:W.takesIn K (.builtin "object.__class__")=some true) {S6:ClassData} (vf:W.clsIn K C=some S6) (vg:W.typeIn K (.ref C)=some (.type "type"))
  (fU:W.nsIn K mainGlobals "isinstance"=some none) (zD:W.nsIn K mainGlobals "int"=some none) (rS:W.nsIn K mainGlobals "bool"=some none) (zE:W.nsIn K mainGlobals "str"=some none) (nY:W.nsIn K mainGlobals "tuple"=some none) (rT:W.nsIn K mainGlobals "list"=some none) (zF:W.nsIn K mainGlobals "len"=some none) (nZ:W.nsIn K mainGlobals "range"=some none) (zG:W.nsIn K mainGlobals "min"=some none) (zH:W.nsIn K mainGlobals "max"=some none) (zI:W.nsIn K mainGlobals "all"=some none) (zJ:W.nsIn K mainGlobals "zip"=some none) (gE:W.nsIn K mainGlobals "enumerate"=some none) (fV:W.nsIn K mainGlobals "ValueError"=some none) {l9:Tok} (b9:W.nsIn K mainGlobals "MOST_DEEDS"=some (some (.int 24 l9))) {kl:Tok} (b0:W.nsIn K mainGlobals "MOST_MODULUS"=some (some (.int 1000000000000 kl))) {km:Tok} (b4:W.nsIn K mainGlobals "MOST_NUMBERS"=some (some (.int 4 km))) {qc:Tok} (dq:W.nsIn K mainGlobals "MOST_ROW"=some (some (.int 12 qc))) {jT:Tok} (bP:W.nsIn K mainGlobals "MOST_MACHINES"=some (some (.int 5 jT))) {oa:Tok} (cU:W.nsIn K mainGlobals "MOST_WAYS"=some (some (.int 10 oa))) {kn:Tok} (b5:W.nsIn K mainGlobals "MOST_LETTERS"=some (some (.int 20 kn))) {ma:Tok} (cb:W.nsIn K mainGlobals "SAID_BOUND"=some (some (.int 1000000000000000000000000000000000000000000000000000000000000 ma)))
  {Pq Pr Pt Pu Pw Px Py Pz:Int} {PB PD PF PH PJ PK PL PM:Tok} {Gq Gr Gs Gu Gv Gw Gx Gy:Addr} {S7:Nat}
  (aF:W.nsIn K mainGlobals "FORMS"=some (some (.ref F))) (lF:K.lookup F=some {cls:=.type "dict",dict:=none,data:=.dict #[⟨Pq,.str "set" PB,.ref Gq⟩,⟨Pr,.str "add" PD,.ref Gr⟩,⟨Pt,.str "times" PF,.ref Gs⟩,⟨Pu,.str "put" PH,.ref Gu⟩,⟨Pw,.str "drop" PJ,.ref Gv⟩,⟨Px,.str "send" PK,.ref Gw⟩,⟨Py,.str "say" PL,.ref Gx⟩,⟨Pz,.str "skip" PM,.ref Gy⟩] S7,slots:=#[]}) (IZ:(F == sysModules)=false) {CF CG:Tok} {S8:Option Addr} {S9:Nat} {Ta:Array (Option Value)} (Nv:K.lookup Gq=some ⟨.type "tuple",S8,.seq #[.str "number" CF,.str "value" CG] S9,Ta⟩) {CH CI:Tok} {Tb:Option Addr} {Tc:Nat} {Td:Array (Option Value)} (Nw:K.lookup Gr=some ⟨.type "tuple",Tb,.seq #[.str "number" CH,.str "value" CI] Tc,Td⟩) {CJ CK:Tok} {Te:Option Addr} {Tf:Nat} {Tg:Array (Option Value)} (Nx:K.lookup Gs=some ⟨.type "tuple",Te,.seq #[.str "number" CJ,.str "value" CK] Tf,Tg⟩) {CL:Tok} {Th:Option Addr} {Ti:Nat} {Tj:Array (Option Value)} (Ny:K.lookup Gu=some ⟨.type "tuple",Th,.seq #[.str "value" CL] Ti,Tj⟩) {Tn:Option Addr} {To:Nat} {Tp:Array (Option Value)} (Nz:K.lookup Gv=some ⟨.type "tuple",Tn,.seq #[] To,Tp⟩) {CM CP:Tok} {Tq:Option Addr} {Tr:Nat} {Ts:Array (Option Value)} (NA:K.lookup Gw=some ⟨.type "tuple",Tq,.seq #[.str "way" CM,.str "value" CP] Tr,Ts⟩) {CQ:Tok} {Tt:Option Addr} {Tu:Nat} {Tv:Array (Option Value)} (NB:K.lookup Gx=some ⟨.type "tuple",Tt,.seq #[.str "value" CQ] Tu,Tv⟩) {CS CT CU:Tok} {Tw:Option Addr} {Tz:Nat} {TB:Array (Option Value)} (NC:K.lookup Gy=some ⟨.type "tuple",Tw,.seq #[.str "value" CS,.str "value" CT,.str "many" CU] Tz,TB⟩)
  (FG:∀i,i < 19->∀j,j < 19->([C0,C1,C2,C3,C4,C5,C6,C7,C8,C9,vG,v8,v9,wa,wb,wc,wd,we,wg]:List Addr).getD i 0=([C0,C1,C2,C3,C4,C5,C6,C7,C8,C9,vG,v8,v9,wa,wb,wc,wd,we,wg]:List Addr).getD j 0->i=j) (ND:∀i,i < 19->([C0,C1,C2,C3,C4,C5,C6,C7,C8,C9,vG,v8,v9,wa,wb,wc,wd,we,wg]:List Addr).getD i 0≠B)
  :∃fd:FuncData,(∀(s:Shared) (v:Value),BindsTo s fd ⟨[v],[]⟩ [("_law_script",v)])/\∀base:Heap,K.In base->base.Ns mainGlobals mg->dU l.prog w K mg base qR 9 fa fd ["_law_script"] (nX K):=by
 have FR:PyProof.Rows.KTD.Rows RelV (#[⟨Pq,.str "set" PB,.ref Gq⟩,⟨Pr,.str "add" PD,.ref Gr⟩,⟨Pt,.str "times" PF,.ref Gs⟩,⟨Pu,.str "put" PH,.ref Gu⟩,⟨Pw,.str "drop" PJ,.ref Gv⟩,⟨Px,.str "send" PK,.ref Gw⟩,⟨Py,.str "say" PL,.ref Gx⟩,⟨Pz,.str "skip" PM,.ref Gy⟩]:Array DictEntry).toList ([("set",V.ref Gq),("add",V.ref Gr),("times",V.ref Gs),("put",V.ref Gu),("drop",V.ref Gv),("send",V.ref Gw),("say",V.ref Gx),("skip",V.ref Gy)]:List (Str×V)):=.cons rfl rfl (.cons rfl rfl (.cons rfl rfl (.cons rfl rfl (.cons rfl rfl (.cons rfl rfl (.cons rfl rfl (.cons rfl rfl (.nil))))))))
 have T:Tx K mg C CN F ([("set",V.ref Gq),("add",V.ref Gr),("times",V.ref Gs),("put",V.ref Gu),("drop",V.ref Gv),("send",V.ref Gw),("say",V.ref Gx),("skip",V.ref Gy)]:List (Str×V)):={
  aJ:=W.mg_none_of X G fU
  yz:=W.mg_none_of X G zD
  rm:=W.mg_none_of X G rS
  sZ:=W.mg_none_of X G zE
  cG:=W.mg_none_of X G nY
  de:=W.mg_none_of X G rT
  bW:=W.mg_none_of X G zF
  df:=W.mg_none_of X G nZ
  Cf:=W.mg_none_of X G zG
  Cg:=W.mg_none_of X G zH
  jZ:=W.mg_none_of X G zI
  Ci:=W.mg_none_of X G zJ
  gj:=W.mg_none_of X G gE
  iS:=W.mg_none_of X G fV
  b9:=⟨_,W.mg_of X G b9⟩
  b0:=⟨_,W.mg_of X G b0⟩
  b4:=⟨_,W.mg_of X G b4⟩
  dq:=⟨_,W.mg_of X G dq⟩
  bP:=⟨_,W.mg_of X G bP⟩
  cU:=⟨_,W.mg_of X G cU⟩
  b5:=⟨_,W.mg_of X G b5⟩
  cb:=⟨_,W.mg_of X G cb⟩
  d6:=⟨jN,jO,jP,jQ⟩
  mN:=W.mg_of X G iY
  vd:=vd
  ve:=ve
  FX:=FX
  FY:=FY
  FZ:=FZ
  bV:=⟨zw,zx,zy,zA⟩
  HX:=W.mg_of X G Bx
  yA:=yA
  yB:=yB
  pz:=pz
  pA:=pA
  rp:=rp
  cu:=cu
  bw:=bw
  Ot:=by unfold W.kitOne;rw[if_pos (by simp)]
  vf:=by rw[vf];rfl
  vg:=vg
  tf:=W.mg_of X G aF
  tj:=⟨⟨_,_,_,lF,⟨rfl,rfl,rfl⟩,rfl,FR⟩,IZ⟩
  Cj:=λd=>by
   cases d with
   | set _ _=>exact⟨Gq,by kernel_rfl,λH=>.inr ⟨_,_,_,Nv,rfl,rfl,by show 2<=sizeLine;decide,(.cons ⟨CF,rfl⟩ (.cons ⟨CG,rfl⟩ .nil))⟩⟩
   | add _ _=>exact⟨Gr,by kernel_rfl,λH=>.inr ⟨_,_,_,Nw,rfl,rfl,by show 2<=sizeLine;decide,(.cons ⟨CH,rfl⟩ (.cons ⟨CI,rfl⟩ .nil))⟩⟩
   | times _ _=>exact⟨Gs,by kernel_rfl,λH=>.inr ⟨_,_,_,Nx,rfl,rfl,by show 2<=sizeLine;decide,(.cons ⟨CJ,rfl⟩ (.cons ⟨CK,rfl⟩ .nil))⟩⟩
   | put _=>exact⟨Gu,by kernel_rfl,λH=>.inr ⟨_,_,_,Ny,rfl,rfl,by show 1<=sizeLine;decide,(.cons ⟨CL,rfl⟩ .nil)⟩⟩
   | drop=>exact⟨Gv,by kernel_rfl,λH=>.inr ⟨_,_,_,Nz,rfl,rfl,by show 0<=sizeLine;decide,.nil⟩⟩
   | send _ _=>exact⟨Gw,by kernel_rfl,λH=>.inr ⟨_,_,_,NA,rfl,rfl,by show 2<=sizeLine;decide,(.cons ⟨CM,rfl⟩ (.cons ⟨CP,rfl⟩ .nil))⟩⟩
   | say _=>exact⟨Gx,by kernel_rfl,λH=>.inr ⟨_,_,_,NB,rfl,rfl,by show 1<=sizeLine;decide,(.cons ⟨CQ,rfl⟩ .nil)⟩⟩
   | skip _ _ _=>exact⟨Gy,by kernel_rfl,λH=>.inr ⟨_,_,_,NC,rfl,rfl,by show 3<=sizeLine;decide,(.cons ⟨CS,rfl⟩ (.cons ⟨CT,rfl⟩ (.cons ⟨CU,rfl⟩ .nil)))⟩⟩
 }
 have all:∀C ∈ ([C0,C1,C2,C3,C4,C5,C6,C7,C8,C9,vG,v8,v9,wa,wb,wc,wd,we,wg]:List Addr),dY K C B:=(List.forall_mem_cons.mpr ⟨vH.cls cu bw,(List.forall_mem_cons.mpr ⟨Bt.cls cu bw,(List.forall_mem_cons.mpr ⟨vI.cls cu bw,(List.forall_mem_cons.mpr ⟨vJ.cls cu bw,(List.forall_mem_cons.mpr ⟨Bu.cls cu bw,(List.forall_mem_cons.mpr ⟨Bv.cls cu bw,(List.forall_mem_cons.mpr ⟨vK.cls cu bw,(List.forall_mem_cons.mpr ⟨vL.cls cu bw,(List.forall_mem_cons.mpr ⟨Bw.cls cu bw,(List.forall_mem_cons.mpr ⟨vM.cls cu bw,(List.forall_mem_cons.mpr ⟨tS.cls cu bw,(List.forall_mem_cons.mpr ⟨mT.cls cu bw,(List.forall_mem_cons.mpr ⟨tT.cls cu bw,(List.forall_mem_cons.mpr ⟨mU.cls cu bw,(List.forall_mem_cons.mpr ⟨tU.cls cu bw,(List.forall_mem_cons.mpr ⟨mV.cls cu bw,(List.forall_mem_cons.mpr ⟨mW.cls cu bw,(List.forall_mem_cons.mpr ⟨mX.cls cu bw,(List.forall_mem_cons.mpr ⟨mY.cls cu bw,(λ_ h=>absurd h (by simp))⟩)⟩)⟩)⟩)⟩)⟩)⟩)⟩)⟩)⟩)⟩)⟩)⟩)⟩)⟩)⟩)⟩)⟩)⟩)
 have TX:vR K mg B (λi:Nat=>([C0,C1,C2,C3,C4,C5,C6,C7,C8,C9,vG,v8,v9,wa,wb,wc,wd,we,wg]:List Addr).getD i 0):={
  iP:=W.mg_of X G vH.ax
  mJ:=W.mg_of X G Bt.ax
  pd:=W.mg_of X G vI.ax
  pf:=W.mg_of X G vJ.ax
  lg:=W.mg_of X G Bu.ax
  lh:=W.mg_of X G Bv.ax
  mK:=W.mg_of X G vK.ax
  mL:=W.mg_of X G vL.ax
  lj:=W.mg_of X G Bw.ax
  mM:=W.mg_of X G vM.ax
  ph:=W.mg_of X G tS.ax
  gh:=W.mg_of X G mT.ax
  pj:=W.mg_of X G tT.ax
  yk:=W.mg_of X G mU.ax
  iQ:=W.mg_of X G tU.ax
  pk:=W.mg_of X G mV.ax
  sV:=W.mg_of X G mW.ax
  pq:=W.mg_of X G mX.ax
  pw:=W.mg_of X G mY.ax
  gW:=W.mg_of X G aB
  nL:=⟨vH.cls cu bw,Fy,W.mg_of X G vH.ax⟩
  yl:=⟨vI.cls cu bw,Fz,W.mg_of X G vI.ax⟩
  iR:=⟨vJ.cls cu bw,FA,W.mg_of X G vJ.ax⟩
  uY:=⟨vK.cls cu bw,FC,W.mg_of X G vK.ax⟩
  uZ:=⟨vL.cls cu bw,FE,W.mg_of X G vL.ax⟩
  va:=⟨vM.cls cu bw,FF,W.mg_of X G vM.ax⟩
  jY:=⟨mT.cls cu bw,zm,W.mg_of X G mT.ax⟩
  EC:=⟨mU.cls cu bw,zo,W.mg_of X G mU.ax⟩
  ym:=⟨mV.cls cu bw,zp,W.mg_of X G mV.ax⟩
  A0:=⟨mW.cls cu bw,zq,W.mg_of X G mW.ax⟩
  yn:=⟨mX.cls cu bw,zr,W.mg_of X G mX.ax⟩
  yo:=⟨mY.cls cu bw,zt,W.mg_of X G mY.ax⟩
  cl:=λi hi=>all _ (by
   have e:([C0,C1,C2,C3,C4,C5,C6,C7,C8,C9,vG,v8,v9,wa,wb,wc,wd,we,wg]:List Addr).getD i 0=([C0,C1,C2,C3,C4,C5,C6,C7,C8,C9,vG,v8,v9,wa,wb,wc,wd,we,wg]:List Addr)[i]'hi:=by simp only[List.getD_eq_getElem?_getD,dI (show i < ([C0,C1,C2,C3,C4,C5,C6,C7,C8,C9,vG,v8,v9,wa,wb,wc,wd,we,wg]:List Addr).length from hi),Option.getD_some]
   show([C0,C1,C2,C3,C4,C5,C6,C7,C8,C9,vG,v8,v9,wa,wb,wc,wd,we,wg]:List Addr).getD i 0 ∈ ([C0,C1,C2,C3,C4,C5,C6,C7,C8,C9,vG,v8,v9,wa,wb,wc,wd,we,wg]:List Addr)
   rw[e];exact List.getElem_mem _)
  inj:=λi j hi hj e=>FG i hi j hj e
  nB:=ND
  FV:=by rw[FV];rfl
  tyB:=tyB
  xb:=⟨⟨_,_,_,_,_,_,_,_,_,_,_,_,_,_,Fx⟩⟩
  c8:=c8
  cK:=cK
  cL:=cL
  bS:=bS
  cE:=cE
  ck:=ck
  c9:=c9
  bA:=bA
 }
 obtain⟨f,al,od,an,sl,oc,kV,dc,pm,cd,ct,ll,lc,lk⟩:=zv
 have e:=S0.symm.trans (W.mg_of X G al)
 cases e
 refine⟨W.fnOf "law" "law" (cA mS) (bq mS) (av mS) .none kV dc pm an cd ct,λs v=>.of_eq rfl,λbase _ _=>?_⟩
 have dh:=yE (P:=l.prog) (w:=w) (base:=base) (bc X G lH (ik λ_ _ _ _ _ _ _ _=>rfl)) T
 have ig:=rJ (P:=l.prog) (w:=w) (base:=base) (bc X G il (ik λ_ _ _ _ _ _ _ _=>rfl)) T
 have aD:=pD (P:=l.prog) (w:=w) (base:=base) (bc X G gy (ik λ_ _ _ _ _ _ _ _=>rfl)) T
 have b7:=pJ (bc X G gz (ik λ_ _ _ _ _ _ _ _=>rfl)) T aD
 have hX:=rF (bc X G ip (ik λ_ _ _ _ _ _ _ _=>rfl)) T aD b7
 have eW:=lW (bc X G fg (l8 λ_ _ _ _ _ _ _=>rfl)) T hX aD
 have fG:=vh (P:=l.prog) (w:=w) (base:=base) (bc X G jF (l8 λ_ _ _ _ _ _ _=>rfl)) T
 have jD:=vw (bc X G jG (l8 λ_ _ _ _ _ _ _=>rfl)) T dh aD eW fG
 have cf:=rA (P:=l.prog) (w:=w) (base:=base) (bc X G iq (l8 λ_ _ _ _ _ _ _=>rfl)) T
 have aN:=pC (bc X G gA (vF λ_ _ _ _ _ _ _ _ _=>rfl)) T cf
 have cn:=lY (gI fh (vF λ_ _ _ _ _ _ _ _ _=>rfl)) T TX aN
 have cq:=lZ (gI fi (ik λ_ _ _ _ _ _ _ _=>rfl)) T TX cn
 have b6:=lD (gI eu (ik λ_ _ _ _ _ _ _ _=>rfl)) T TX cn
 have dA:=jC (bc X G dB (ik λ_ _ _ _ _ _ _ _=>rfl)) T TX cq b6
 have gs:=pH (bc X G gB (ik λ_ _ _ _ _ _ _ _=>rfl)) T aN
 have cV:=vj (P:=l.prog) (w:=w) (base:=base) (bc X G jH (vF λ_ _ _ _ _ _ _ _ _=>rfl)) T
 have lA:=yN (bc X G lI (ik λ_ _ _ _ _ _ _ _=>rfl)) T aN
 have fQ:=nQ (bc X G fT (vF λ_ _ _ _ _ _ _ _ _=>rfl)) T TX gs cV lA
 have mQ:=IE (tR X G zB zC zu Bx (Fw λ_ _ _ _ _ _ _ _ _ _=>rfl)) T TX fQ
 have fe:=l7 (bc X G fj (l8 λ_ _ _ _ _ _ _=>rfl)) T TX mQ
 have jz:=vC (P:=l.prog) (w:=w) (base:=base) (bc X G jI (vF λ_ _ _ _ _ _ _ _ _=>rfl)) T
 have ff:=l6 (bc X G fk (ik λ_ _ _ _ _ _ _ _=>rfl)) T jz
 have gx:=pV (P:=l.prog) (w:=w) (base:=base) (bc X G gC (l8 λ_ _ _ _ _ _ _=>rfl)) T
 have dH:=lX (P:=l.prog) (w:=w) (base:=base) (gI fq (l8 λ_ _ _ _ _ _ _=>rfl)) T
 have di:=lC (P:=l.prog) (w:=w) (base:=base) (gI eA (l8 λ_ _ _ _ _ _ _=>rfl)) T
 have fS:=rG (P:=l.prog) (w:=w) (base:=base) (gI ir (l8 λ_ _ _ _ _ _ _=>rfl)) T
 have eO:=qb (bc X G gD (ik λ_ _ _ _ _ _ _ _=>rfl)) T gx dH di fS cq b6
 have jo:=vk (P:=l.prog) (w:=w) (base:=base) (bc X G jJ (l8 λ_ _ _ _ _ _ _=>rfl)) T
 have hJ:=rB (bc X G iu (ik λ_ _ _ _ _ _ _ _=>rfl)) T cf aN
 have jq:=vm (bc X G jK (vF λ_ _ _ _ _ _ _ _ _=>rfl)) T hJ cf aN
 have jt:=vn (bc X G jL (ik λ_ _ _ _ _ _ _ _=>rfl)) T jo jq
 have d9:=lu (bc X G eB (ik λ_ _ _ _ _ _ _ _=>rfl)) T jt
 have dG:=lV (bc X G ft (Fw λ_ _ _ _ _ _ _ _ _ _=>rfl)) T cV aN
 have dy:=jr (bc X G dC (Fw λ_ _ _ _ _ _ _ _ _ _=>rfl)) T dG aN
 have jE:=vp (tR X G jR jS jM iY (Nh λ_ _ _ _ _ _ _ _ _ _ _=>rfl)) T d9 dy
 exact Ft (gT ll lc lk) T dh ig jD dA fe ff eO jE mQ
theorem walk {l:W.OpenLaw}{q:Program}{loose:List Str}{XP:(Str->Option Value)->Heap->Prop}{YP:World->Heap->Prop}{d:DefRec}{K:Params->W.Frag}(hn:l.most=some 63)(Hf:d.params.defaults=[])
  (hY:∀(w:World) (h:Heap),YP w h->(K w.params).In h)
  (F:∀(w:World) (mg:Str->Option Value) (fa:Addr) (h:Heap),(K w.params).In h->h.Ns mainGlobals mg->mg d.name=some (.ref fa)->
   ∃fd:FuncData,(∀(s:Shared) (u:Value),BindsTo s fd ⟨[u],[]⟩ [("_law_script",u)])/\∀base:Heap,(K w.params).In base->base.Ns mainGlobals mg->dU l.prog w (K w.params) mg base qR 9 fa fd ["_law_script"] (nX (K w.params))):
  W.WalkO q loose XP YP l.row.toRowW d [] (λf vs=>PySem.call f vs):=
 L2.AA (n:=63) (k:=9) (x:="_law_script") (CX:=λ_=>qR) (sp:=λw=>nX (K w.params)) hn (by decide) Hf ⟨rfl,by decide,by decide⟩ hY F (λ_ _ a ns hl _ hS=>⟨a,ns,rfl,hS,hl,λ_=>rfl⟩) λ_ _ _ _ _ z=>z
end vS
namespace PySem.W.Fast
def tw14938555058852627715:=()
def tw3749058101117096736:=()
def tw9681495147114589667:=()
def tw12534841274757914413:=()
def tw6105104560622732164:=()
def tw13128471226694758707:=()
def tw15264300643433931724:=()
def tw3071276959424477211:=()
def tw4362350264195003048:=()
def tw12168314676693346893:=()
def tw12314232819339227463:=()
def tw16799624403547887299:=()
def tw1785248797599395473:=()
def tw2861770697132632549:=()
def tw569050771282326617:=()
def tw5105490699513621119:=()
def tw15392458810180032719:=()
def tw7227865321634827397:=()
def tw4952342361626485110:=()
def tw17752770814035281084:=()
def tw4334870494921400100:=()
def tw10986569570018328964:=()
def tw15940468514107712970:=()
def tw2907166977449800797:=()
def tw7119935308188346775:=()
def tw3754749968703549073:=()
def tw6254460231588738344:=()
def tw985303272097981651:=()
def tw15511284110794560541:=()
def tw889399559238294405:=()
def tw15041778045452626487:=()
def tw2971389682631523948:=()
def tw1445843161495685287:=()
def tw15717595338643498798:=()
def tw5392629922173262861:=()
def tw9489733698990070255:=()
def tw8230681403940737249:=()
def tw5966743748866867359:=()
def tw14902366533576803444:=()
def tw654916572992736413:=()
def tw5628572371595642047:=()
def tw13836901259603508084:=()
def tw10317543204815382359:=()
def tw10105372969638719695:=()
def tw17581104718396179224:=()
def tw12866658591324312336:=()
def tw286897054771872370:=()
def tw2389601118328842718:=()
def tw16792507329037592399:=()
def tw10938311879482861107:=()
def tw3438993758156601734:=()
def tw8082504606908712627:=()
def tw3900900419482053500:=()
def tw3352461575862023732:=()
def tw5835350585687455910:=()
def tw4642729835044502442:=()
def tw5220153572395341063:=()
def tw12133077791123350833:=()
def tw42194289653333181:=()
def tw10059205557656890841:=()
def tw18221863105411372551:=()
def tw3096420643431923624:=()
def tw8290415379389907289:=()
def tw18159635200843592117:=()
def tw16454724314734179345:=()
def tw9701308340901599207:=()
def tw12190105465985772336:=()
def tw3459567764169288437:=()
def tw17052875735511758628:=()
def tw5574383497905020367:=()
def tw3955065039565292314:=()
def tw5664555491974442765:=()
def tw10291464549871398573:=()
def tw9983890625054686695:=()
def tw7296240566314001959:=()
def tw9916412916735166371:=()
def tw14769254044219757722:=()
def tw4711355935705348628:=()
def tw18428556935045162657:=()
def tw12385498513985399924:=()
def tw6297635222195380877:=()
def tw17832103388738649373:=()
def tw3516149570585468597:=()
def tw14707485484732597532:=()
def tw2046564977280129297:=()
def tw15562773223180445209:=()
def tw1092671824845923766:=()
def tw658476331805224863:=()
def tw1989382423778562604:=()
def tw5463938958073975276:=()
def tw6046041690825048015:=()
def tw8249178747010807909:=()
def tw13592534726058220622:=()
def tw12830657156355735871:=()
def tw17845781399695386006:=()
def tw3278478485647402959:=()
def tw16234041376628128812:=()
def tw9484972804537791542:=()
def tw5582429330916962998:=()
def tw18256040609205240165:=()
def tw9123496753689844603:=()
def tw1279564454263526734:=()
def tw2423917974168541048:=()
def tw7358361807632253252:=()
def tw7496320365818241332:=()
def tw14881437545075673921:=()
def tw3046906109085041808:=()
def tw12770066957508724283:=()
def tw10964163299892047205:=()
def tw6023620661359541055:=()
def tw5819758699552060568:=()
def tw13290162961358713478:=()
def tw2653463987124159921:=()
def tw10223971336256988721:=()
def tw9172190462871614032:=()
def tw1933183676627947099:=()
def tw17992596849729403361:=()
def tw16784132081586634943:=()
def tw6972714489277582665:=()
def tw566501261972517019:=()
def tw6097906495469926548:=()
def tw9232362844245739544:=()
def tw4209015331456854477:=()
def tw15145776779000009270:=()
def tw9501295818074124075:=()
def tw14113974011042139917:=()
end PySem.W.Fast
open PySem PySem.W PyProof.Rows
local macro_rules | `(tactic| walk_at "d") => `(tactic| first | exact vS.CB (by k_is) (by k_is) (by k_is) (by k_is) | (refine' vS.CB ?a ?l ?c ?k; (case a => k_is); (case l => k_is); (case c => k_is); (case k => k_is)))
local macro_rules | `(tactic| walk_at "x") => `(tactic| (refine' vS.Jk ?a ?b ?c ?d ?e ?f ?g; (case a => k_is); (case b => k_is); (case c => k_is); (case d => k_is); (case e => k_is); (case f => k_is); (case g => k_is)))
local macro_rules | `(tactic| walk_at "m") => `(tactic| first | exact vS.CC (by k_is) (by k_is) (by k_is) (by k_is) (by k_is) | (refine' vS.CC ?a ?i ?l ?c ?k; (case a => k_is); (case i => k_is); (case l => k_is); (case c => k_is); (case k => k_is)))
set_option maxRecDepth 100000 in
set_option maxHeartbeats 0 in
theorem PySem.Challenge.cw_cutrestore_k21_nets_made_and_refused_holds : PySem.Challenge.rw_cutrestore_k21_nets_made_and_refused.Holds := by
 w_on;o_law;k_head;(case hw=>w_witness2)
 k_fill
 refine vS.walk (l:=PySem.Challenge.rw_cutrestore_k21_nets_made_and_refused) rfl rfl (λw h Y=>W.kIn_of Y) ?F
 case F=>
  intro w mg fa h KX G Hg
  refine' vS.all_mk KX G Hg ?aB ?FV ?tyB ?Fx ?vH ?Bt ?vI ?vJ ?Bu ?Bv ?vK ?vL ?Bw ?vM ?tS ?mT ?tT ?mU ?tU ?mV ?mW ?mX ?mY ?c8 ?cK ?cL ?bS ?cE ?ck ?c9 ?bA ?Fy ?Fz ?FA ?FC ?FE ?FF ?zm ?zo ?zp ?zq ?zr ?zt ?iY ?Bx ?lH ?il ?gy ?gz ?ip ?fg ?jF ?jG ?iq ?gA ?fh ?fi ?eu ?dB ?gB ?jH ?lI ?fT ?zu ?fj ?jI ?fk ?gC ?fq ?eA ?ir ?gD ?jJ ?iu ?jK ?jL ?eB ?ft ?dC ?jM ?zv ?jN ?jO ?jP ?jQ ?jR ?jS ?vd ?ve ?FX ?FY ?FZ ?zw ?zx ?zy ?zA ?zB ?zC ?yA ?yB ?pz ?pA ?rp ?cu ?bw ?vf ?vg ?fU ?zD ?rS ?zE ?nY ?rT ?zF ?nZ ?zG ?zH ?zI ?zJ ?gE ?fV ?b9 ?b0 ?b4 ?dq ?bP ?cU ?b5 ?cb ?aF ?lF ?IZ ?Nv ?Nw ?Nx ?Ny ?Nz ?NA ?NB ?NC ?FG ?ND
  (case aB=>k_is)
  (case FV=>k_is)
  (case tyB=>k_is)
  (case Fx=>k_is)
  (case vH=>walk_at "x")
  (case Bt=>walk_at "x")
  (case vI=>walk_at "x")
  (case vJ=>walk_at "x")
  (case Bu=>walk_at "x")
  (case Bv=>walk_at "x")
  (case vK=>walk_at "x")
  (case vL=>walk_at "x")
  (case Bw=>walk_at "x")
  (case vM=>walk_at "x")
  (case tS=>walk_at "x")
  (case mT=>walk_at "x")
  (case tT=>walk_at "x")
  (case mU=>walk_at "x")
  (case tU=>walk_at "x")
  (case mV=>walk_at "x")
  (case mW=>walk_at "x")
  (case mX=>walk_at "x")
  (case mY=>walk_at "x")
  (case c8=>k_is)
  (case cK=>k_is)
  (case cL=>k_is)
  (case bS=>k_is)
  (case cE=>k_is)
  (case ck=>k_is)
  (case c9=>k_is)
  (case bA=>k_is)
  (case Fy=>k_is)
  (case Fz=>k_is)
  (case FA=>k_is)
  (case FC=>k_is)
  (case FE=>k_is)
  (case FF=>k_is)
  (case zm=>k_is)
  (case zo=>k_is)
  (case zp=>k_is)
  (case zq=>k_is)
  (case zr=>k_is)
  (case zt=>k_is)
  (case iY=>k_is)
  (case Bx=>k_is)
  (case lH=>walk_at "d")
  (case il=>walk_at "d")
  (case gy=>walk_at "d")
  (case gz=>walk_at "d")
  (case ip=>walk_at "d")
  (case fg=>walk_at "d")
  (case jF=>walk_at "d")
  (case jG=>walk_at "d")
  (case iq=>walk_at "d")
  (case gA=>walk_at "d")
  (case fh=>walk_at "m")
  (case fi=>walk_at "m")
  (case eu=>walk_at "m")
  (case dB=>walk_at "d")
  (case gB=>walk_at "d")
  (case jH=>walk_at "d")
  (case lI=>walk_at "d")
  (case fT=>walk_at "d")
  (case zu=>walk_at "m")
  (case fj=>walk_at "d")
  (case jI=>walk_at "d")
  (case fk=>walk_at "d")
  (case gC=>walk_at "d")
  (case fq=>walk_at "m")
  (case eA=>walk_at "m")
  (case ir=>walk_at "m")
  (case gD=>walk_at "d")
  (case jJ=>walk_at "d")
  (case iu=>walk_at "d")
  (case jK=>walk_at "d")
  (case jL=>walk_at "d")
  (case eB=>walk_at "d")
  (case ft=>walk_at "d")
  (case dC=>walk_at "d")
  (case jM=>walk_at "m")
  (case zv=>walk_at "d")
  (case jN=>k_is)
  (case jO=>k_is)
  (case jP=>k_is)
  (case jQ=>k_is)
  (case jR=>k_is)
  (case jS=>k_is)
  (case vd=>k_is)
  (case ve=>k_is)
  (case FX=>k_is)
  (case FY=>k_is)
  (case FZ=>k_is)
  (case zw=>k_is)
  (case zx=>k_is)
  (case zy=>k_is)
  (case zA=>k_is)
  (case zB=>k_is)
  (case zC=>k_is)
  (case yA=>k_is)
  (case yB=>k_is)
  (case pz=>k_is)
  (case pA=>k_is)
  (case rp=>k_is)
  (case cu=>k_is)
  (case bw=>k_is)
  (case vf=>k_is)
  (case vg=>k_is)
  (case fU=>k_is)
  (case zD=>k_is)
  (case rS=>k_is)
  (case zE=>k_is)
  (case nY=>k_is)
  (case rT=>k_is)
  (case zF=>k_is)
  (case nZ=>k_is)
  (case zG=>k_is)
  (case zH=>k_is)
  (case zI=>k_is)
  (case zJ=>k_is)
  (case gE=>k_is)
  (case fV=>k_is)
  (case b9=>k_is)
  (case b0=>k_is)
  (case b4=>k_is)
  (case dq=>k_is)
  (case bP=>k_is)
  (case cU=>k_is)
  (case b5=>k_is)
  (case cb=>k_is)
  (case aF=>k_is)
  (case lF=>k_is)
  (case IZ=>first | rfl | decide)
  (case Nv=>k_is)
  (case Nw=>k_is)
  (case Nx=>k_is)
  (case Ny=>k_is)
  (case Nz=>k_is)
  (case NA=>k_is)
  (case NB=>k_is)
  (case NC=>k_is)
  (case FG=>decide +kernel)
  (case ND=>decide +kernel)
