import PyProof.Rows.All
import Wide.All
import OpenK.AllK
import Wide.FinOn
import Lean
import PyProof.EqAt
import PyProof.EqKinds
import PyProof.TupleCall
import PyProof.NeKinds
import PyProof.Rows.Range3
import KE.KIsAll
import PyProof.ExcClass3
import PyProof.InstStoreFacts
import PyProof.ExcArgsOwn
import PyProof.ExcBaseAll.ValueError
import PyProof.ExcAttrAll.ValueError
import PyProof.Draws
import PyProof.ZipIter
import PyProof.SumWalk
import PyProof.Rows.FactsT2
import PyProof.EnumMake
import PyProof.Rows.EnumRows
import KE.KTab
import PyProof.StationsW
import PyProof.RulesAs
import PyProof.NsDelKeeps
import PyProof.PassesOwn
import PyProof.Rows.ListMulArg
import PyProof.StrWalks
import PyProof.MeetsStr
import PyProof.MeetsStr2
import PyProof.StrBlockL
import PyProof.SliceStr2
import PyProof.StrLawsIdx
import PyProof.FitsStr
import PyProof.StrLaws
import PyProof.Rows.FStr
import KE.KIntText
import PyProof.StrLawsTight
import PyProof.Rows.StrIntSpec
import PyProof.Rows.CountFlat
import PyProof.Rows.SeqMore2
import PyProof.SeqRoads
import PyProof.StrLawsAffix
import PyProof.InstEq
import PySem.Challenge.RW_cutrestore_k22_whole_runs_told
set_option compiler.extract_closed false
set_option Elab.async false
set_option linter.all false
set_option maxRecDepth 100000
set_option hygiene false
local macro_rules | `(tactic| grind) => `(tactic| first | exact Or.inl rfl | exact Or.inr rfl)
local macro_rules | `(tactic| symm) => `(tactic| refine D.ok sc (λvs H Q E h => ?_) (λf fT A outer s H vs Q E hr h => ?_))
local macro_rules
 | `(tactic| walk_at "xc") => `(tactic| (refine ⟨?_⟩; intro pins s σ H Q I h))
 | `(tactic| walk_at "xd") => `(tactic| (refine ⟨?_⟩; intro pins s σ H D I h))
 | `(tactic| walk_at "xf") => `(tactic| refine ⟨Ext.set (Ext.refl _) rfl, ?_⟩)
 | `(tactic| walk_at "xg") => `(tactic| obtain ⟨a, u1, u2, u3, k0, rfl, ha, g1, g2, g3⟩ := b4 hx)
set_option hygiene true
abbrev nN:= @PyProof.Rows.boot_isinstance
abbrev Uy:= @PyProof.Rows.boot_int
abbrev JR:= @PyProof.Rows.boot_bool
abbrev lO:= @PySem.F.plainAttrs_list
abbrev nQ:= @PySem.F.slot_list_append
abbrev nR:= @PySem.F.type_list_append
abbrev qe:= @PyProof.Rows.boot_tuple
abbrev um:= @PyProof.Rows.boot_list
abbrev Oy:= @PyProof.Rows.boot_all
abbrev Hn:= @PyProof.Rows.boot_any
namespace L2
open PySem PySem.Spec PyProof.Rows
section
theorem cA {α:Type _}{l:List α}{i:Nat}(h:i < l.length):l[i]?=some l[i]:=List.getElem?_eq_getElem h
abbrev Key:=Sum Int Str
def sX:Key->Value->Bool
 | .inl k,v=>Value.isInt k v
 | .inr x,v=>Value.isStrOf x v
def V3 (w:World):Key->Int
 | .inl k=>hashInt k
 | .inr x=>hashStr w x
theorem dz:∀{k:Key} {v:Value},sX k v=true->(∃i t,k=Sum.inl i/\v=Value.int i t)\/(∃x t,k=Sum.inr x/\v=Value.str x t)
 | .inl i,v,h=>by
  obtain⟨t,e⟩:=Value.isInt_shape (k:=i) (v:=v) h
  exact .inl ⟨i,t,rfl,e⟩
 | .inr x,v,h=>by
  obtain⟨t,e⟩:=Value.isStrOf_shape (x:=x) (v:=v) h
  exact .inr ⟨x,t,rfl,e⟩
theorem AU (i:Int)(t:Tok):sX (.inl i) (.int i t)=true:=by simp[sX,Value.isInt]
theorem AV (x:Str)(t:Tok):sX (.inr x) (.str x t)=true:=by simp[sX,Value.isStrOf]
theorem LD (a b:Int):decide ((Sum.inl a:Key)=Sum.inl b)=(a == b):=by
 by_cases e:a=b
 ·subst e;simp
 ·have h:¬(Sum.inl a:Key)=Sum.inl b:=λq=>e (Sum.inl.inj q)
  rw[decide_eq_false h]
  exact(beq_eq_false_iff_ne.mpr e).symm
theorem LF (a b:Str):decide ((Sum.inr a:Key)=Sum.inr b)=decide (a=b):=by
 by_cases e:a=b
 ·subst e;simp
 ·have h:¬(Sum.inr a:Key)=Sum.inr b:=λq=>e (Sum.inr.inj q)
  rw[decide_eq_false h,decide_eq_false e]
theorem LG (a:Int)(b:Str):decide ((Sum.inl a:Key)=Sum.inr b)=false:=decide_eq_false (λq=>nomatch q)
theorem LH (a:Str)(b:Int):decide ((Sum.inr a:Key)=Sum.inl b)=false:=decide_eq_false (λq=>nomatch q)
def dF (prog:Program)(w:World):PySem.KeyKind prog w Key where
 is:=sX
 hash:=V3 w
 inj:=λv a b ha hb=>by
  rcases dz ha with⟨i,t,rfl,rfl⟩ | ⟨x,t,rfl,rfl⟩
  ·rcases dz hb with⟨j,u,rfl,e⟩ | ⟨y,u,rfl,e⟩
   ·injection e with e1 _;rw[e1]
   ·exact nomatch e
  ·rcases dz hb with⟨j,u,rfl,e⟩ | ⟨y,u,rfl,e⟩
   ·exact nomatch e
   ·injection e with e1 _;rw[e1]
 byValue:=λk v h=>by
  rcases dz h with⟨i,t,rfl,rfl⟩ | ⟨x,t,rfl,rfl⟩ <;> rfl
 pyHash:=λhv h=>by
  rcases dz hv with⟨i,t,rfl,rfl⟩ | ⟨x,t,rfl,rfl⟩
  ·exact wpAny_pyHash_int h
  ·exact wpAny_pyHash_str h
 eqBool:=λhu hv h=>by
  rcases dz hu with⟨i,t,rfl,rfl⟩ | ⟨x,t,rfl,rfl⟩
  ·rcases dz hv with⟨j,u,rfl,rfl⟩ | ⟨y,u,rfl,rfl⟩
   ·rw[LD] at h;exact wpAny_eqBool_int h
   ·rw[LG] at h;exact SeqAt.EqAt.int_str i t y u _ _ _ _ h
  ·rcases dz hv with⟨j,u,rfl,rfl⟩ | ⟨y,u,rfl,rfl⟩
   ·rw[LH] at h;exact SeqAt.EqAt.str_int x t j u _ _ _ _ h
   ·rw[LF] at h;exact wpAny_eqBool_str h
 «strs»:=λk x t v h=>by
  rcases dz h with⟨i,u,rfl,e⟩ | ⟨y,u,rfl,e⟩
  ·exact nomatch e
  ·injection e with e1 _
   subst e1
   cases v <;> rfl
theorem vq (prog:Program)(w:World)(i:Int)(t:Tok):(dF prog w).is (.inl i) (.int i t)=true:=AU i t
theorem vv (prog:Program)(w:World)(x:Str)(t:Tok):(dF prog w).is (.inr x) (.str x t)=true:=AV x t
end
section
variable {a b:Addr}{o u:HO}{H:Hp}
inductive V where
 | bR | bl (b:Bool) | int (i:Int) | str (x:Str) | xy (b:Array UInt8) | CA (b:UInt64) | ref (a:Addr) | ty (n:String)
 deriving DecidableEq
def RelV:V->Value->Prop
 | .bR,u=>u=Value.none
 | .bl b,u=>u=Value.bool b
 | .int i,u=>∃t,u=Value.int i t
 | .str x,u=>∃t,u=Value.str x t
 | .xy b,u=>∃t,u=Value.bytes b t
 | .CA b,u=>∃t,u=Value.float b t
 | .ref a,u=>u=Value.ref a
 | .ty n,u=>u=Value.type n
abbrev Vals:List V->List Value->Prop:=Paired RelV
theorem Vals.length{xs:List V}{us:List Value}(r:Vals xs us):xs.length=us.length:=Paired.length r
theorem Vals.get:∀{xs:List V} {us:List Value} {i:Nat} {x:V},Vals xs us->xs[i]?=some x->∃u,us[i]?=some u/\RelV x u
 | _,_,_,_,.nil,e=>by simp at e
 | _,_,0,_,.cons r _,e=>by simp at e;subst e;exact⟨_,rfl,r⟩
 | _,_,i + 1,x,.cons _ t,e=>by
  obtain⟨u,h1,h2⟩:=Vals.get (i:=i) (x:=x) t (by simpa using e)
  exact⟨u,by simpa using h1,h2⟩
theorem Vals.set{x:V}{u:Value}(r:RelV x u):∀{xs:List V} {us:List Value} (i:Nat),Vals xs us->Vals (xs.set i x) (us.set i u)
 | _,_,_,.nil=>.nil
 | _,_,0,.cons _ t=>.cons r t
 | _,_,i + 1,.cons q t=>.cons q (Vals.set r i t)
theorem Vals.append:∀{xs ys:List V} {us ws:List Value},Vals xs us->Vals ys ws->Vals (xs++ys) (us++ws)
 | _,_,_,_,.nil,s=>s
 | _,_,_,_,.cons r t,s=>.cons r (Vals.append t s)
theorem Vals.take:∀{xs:List V} {us:List Value} (n:Nat),Vals xs us->Vals (xs.take n) (us.take n)
 | _,_,0,_=>.nil
 | _,_,_ + 1,.nil=>.nil
 | _,_,n + 1,.cons r t=>.cons r (Vals.take n t)
theorem Vals.drop:∀{xs:List V} {us:List Value} (n:Nat),Vals xs us->Vals (xs.drop n) (us.drop n)
 | _,_,0,r=>r
 | _,_,_ + 1,.nil=>.nil
 | _,_,n + 1,.cons _ t=>Vals.drop n t
def j6:Option V->Option Value->Prop
 | some v,some u=>RelV v u
 | none,none=>True
 | _,_=>False
def KV {κ:Type}:List (κ×V)->List (κ×Value)->Prop:=Paired λ(p:κ×V) (q:κ×Value)=>p.1=q.1/\RelV p.2 q.2
def kV:Key->V
 | .inl i=>.int i
 | .inr x=>.str x
inductive HO where
 | lst (xs:List V)
 | tup (xs:List V)
 | dK (bc:List (Key×V)) | dT (bc:List (List Key×V))
 | set (S:Int->Bool) (n:Nat)
 | ins (C dx:Addr) (fs:List (Str×V))
 | own (x:Addr)
 | xd (fs:List (Str×V))
 | met (f x:Addr)
 | V4 (lo hi:Int)
 | xA (o:Obj) (u:HO)
 | LI (ps:Array Value)
 | ext (φ:Heap->Prop)
abbrev Hp:=Addr->Option HO
def upd (H:Hp)(a:Addr)(o:HO):Hp:=λb=>if b=a then some o else H b
theorem af:upd H a o a=some o:=by unfold upd;rw[if_pos rfl]
theorem ay (h:b≠a):upd H a o b=H b:=by unfold upd;rw[if_neg h]
theorem qf:upd (upd H a o) a u=upd H a u:=by
 funext b;unfold upd;split <;> rfl
theorem PU (h:H a=some o)(h':H b=some u)(d:o≠u):a≠b:=by
 intro e;subst e;rw[h] at h';exact d (Option.some.inj h')
theorem aq (h:H a=some o)(h':H b=none):a≠b:=by
 intro e;subst e;rw[h] at h';cases h'
section
variable (P:Program)(w:World)
def cR (H:Hp)(h:Heap)(a:Addr):HO->Prop
 | .lst xs=>xs.length<=sizeLine/\∃(aO:List Value) (n:Nat),Vals xs aO/\h.get? a=some {cls:=.type "list",data:=.seq aO.toArray n}
 | .tup xs=>xs.length<=sizeLine/\∃aO:List Value,Vals xs aO/\IsTup h a aO.toArray
 | .dK bc=>bc.length<=sizeLine/\(a == sysModules)=false/\∃vs,KV bc vs/\h.DictOf (dF P w) a vs
 | .dT bc=>bc.length<=sizeLine/\(a == sysModules)=false/\∃xs:List (List Key×Addr×Value),
   Paired (λ(p:List Key×V) (q:List Key×Addr×Value)=>p.1=q.1/\H q.2.1=some (.tup (p.1.map kV))/\RelV p.2 q.2.2) bc xs/\
   ∃o es ep,h.get? a=some o/\o.ExactDict/\o.data=.dict es ep/\es.toList=xs.map (entryOfKey (tupleKind (dF P w)))/\(xs.map (·.1)).Nodup
 | .set S n=>h.SetOf (intKind P w) a S n
 | .ins C dx fs=>H dx=some (.own a)/\fs.length<=1000/\dx≠a/\h.get? a=some (W.instObj C dx)/\
   ∃mA,h.Ns1 dx mA/\(∀f,j6 (fs.lookup f) (mA f))/\PySem.Within mA (fs.map (·.1))
 | .own _=>∃o,h.get? a=some o
 | .xd fs=>∃mA,h.Ns1 a mA/\∀f,j6 (fs.lookup f) (mA f)
 | .V4 lo hi=>∃t u v,h.get? a=some {cls:=.type "range",data:=.fields #[.int lo t,.int hi u,.int 1 v]}
 | .xA o u=>h.get? a=some o/\cR H h a u
 | .LI ps=>h.get? a=some {cls:=.none,data:=.fields ps}
 | .met f x=>h.get? a=some (W.methodObj (.ref f) (.ref x))
 | .ext φ=>φ h/\(∃o,h.get? a=some o)/\∀h1 h2:Heap,φ h1->(∀o,h1.get? a=some o->h2.get? a=some o)->φ h2
def lP (H:Hp)(h:Heap):Prop:=∀a o,H a=some o->cR P w H h a o
end
section
variable {P:Program}{w:World}{H H':Hp}{h h':Heap}{a:Addr}{o:HO}
theorem cR.lt(x:cR P w H h a o):a < h.objs.size:=by
 cases o with
 | lst xs=>obtain⟨_,_,_,_,e⟩:=x;exact Heap.lt_size e
 | tup xs=>obtain⟨_,_,_,p⟩:=x;exact p.lt
 | dK bc=>obtain⟨_,_,_,_,o,_,_,e,_⟩:=x;exact Heap.lt_size e
 | dT bc=>obtain⟨_,_,_,_,o,_,_,e,_⟩:=x;exact Heap.lt_size e
 | set S n=>obtain⟨o,_,_,_,e,_⟩:=x;exact Heap.lt_size e
 | ins C dx fs=>obtain⟨_,_,_,e,_⟩:=x;exact Heap.lt_size e
 | own y=>obtain⟨_,e⟩:=x;exact Heap.lt_size e
 | xd fs=>obtain⟨_,⟨_,_,_,e,_⟩,_⟩:=x;exact Heap.lt_size e
 | V4 lo hi=>obtain⟨_,_,_,e⟩:=x;exact Heap.lt_size e
 | xA ob u=>obtain⟨e,_⟩:=x;exact Heap.lt_size e
 | LI ps=>exact Heap.lt_size (show h.get? a=some _ from x)
 | met f y=>exact Heap.lt_size (show h.get? a=some _ from x)
 | ext φ=>obtain⟨_,⟨_,e⟩,_⟩:=x;exact Heap.lt_size e
theorem Paired.LJ{α β:Type}{F G:α->β->Prop}:∀{l₁:List α} {l₂:List β},Paired F l₁ l₂->(∀a b,F a b->G a b)->Paired G l₁ l₂
 | _,_,.nil,_=>.nil
 | _,_,.cons r t,f=>.cons (f _ _ r) (Paired.LJ t f)
theorem cR.aI(x:cR P w H h a o)(k:∀b u,(b=a\/H b=some (.own a))->h.get? b=some u->h'.get? b=some u)
  (ho:∀b,H b=some (.own a)->H' b=some (.own a)) (ht:∀b xs,H b=some (.tup xs)->H' b=some (.tup xs)):cR P w H' h' a o:=by
 induction o with
 | lst xs=>obtain⟨z,aO,n,r,e⟩:=x;exact⟨z,aO,n,r,k _ _ (.inl rfl) e⟩
 | tup xs=>obtain⟨z,aO,r,ob,e,c⟩:=x;exact⟨z,aO,r,ob,k _ _ (.inl rfl) e,c⟩
 | dK bc=>obtain⟨z,y,vs,r,ob,es,ep,e,c⟩:=x;exact⟨z,y,vs,r,ob,es,ep,k _ _ (.inl rfl) e,c⟩
 | dT bc=>
  obtain⟨z,y,xs,r,ob,es,ep,e,c⟩:=x
  exact⟨z,y,xs,Paired.LJ r λp q z=>⟨z.1,ht _ _ z.2.1,z.2.2⟩,ob,es,ep,k _ _ (.inl rfl) e,c⟩
 | set S n=>obtain⟨ob,es,ep,t,e,c⟩:=x;exact⟨ob,es,ep,t,k _ _ (.inl rfl) e,c⟩
 | ins C dx fs=>
  obtain⟨d,z,ne,e,mA,⟨od,es,ep,e2,c⟩,r⟩:=x
  exact⟨ho _ d,z,ne,k _ _ (.inl rfl) e,mA,⟨od,es,ep,k _ _ (.inr d) e2,c⟩,r⟩
 | own y=>obtain⟨ob,e⟩:=x;exact⟨ob,k _ _ (.inl rfl) e⟩
 | xd fs=>obtain⟨mA,⟨od,es,ep,e,c⟩,r⟩:=x;exact⟨mA,⟨od,es,ep,k _ _ (.inl rfl) e,c⟩,r⟩
 | V4 lo hi=>obtain⟨t,u,v,e⟩:=x;exact⟨t,u,v,k _ _ (.inl rfl) e⟩
 | xA ob u ih=>obtain⟨e,q⟩:=x;exact⟨k _ _ (.inl rfl) e,ih q⟩
 | LI ps=>
  have e:h.get? a=some {cls:=.none,data:=.fields ps}:=x
  show h'.get? a=some {cls:=.none,data:=.fields ps}
  exact k a _ (.inl rfl) e
 | met f y=>
  have e:h.get? a=some (W.methodObj (.ref f) (.ref y)):=x
  show h'.get? a=some (W.methodObj (.ref f) (.ref y))
  exact k a _ (.inl rfl) e
 | ext φ=>obtain⟨p,⟨o,e⟩,st⟩:=x;exact⟨st _ _ p λo q=>k _ _ (.inl rfl) q,⟨o,k _ _ (.inl rfl) e⟩,st⟩
theorem lP.lt(x:lP P w H h)(e:H a=some o):a < h.objs.size:=(x a o e).lt
theorem lP.fresh(x:lP P w H h)(e:h.objs.size<=a):H a=none:=by
 cases q:H a with
 | none=>rfl
 | some u=>exact absurd (Nat.lt_of_lt_of_le (x.lt q) e) (Nat.lt_irrefl _)
theorem lP.kept(x:lP P w H h)(k:∀b u,h.get? b=some u->h'.get? b=some u):lP P w H h':=λa o e=>
 (x a o e).aI (λb u _ q=>k b u q) (λ_ q=>q) λ_ _ q=>q
theorem lP.laid(x:lP P w H h)(k:∀b u,h.get? b=some u->h'.get? b=some u)(hp:h.objs.size<=a)(new:cR P w (upd H a o) h' a o):lP P w (upd H a o) h':=λb u e=>by
 have hn:=x.fresh hp
 by_cases hb:b=a
 ·subst hb;rw[af] at e;cases e;exact new
 ·rw[ay hb] at e
  exact(x b u e).aI (λc v _ q=>k c v q) (λc q=>by rw[ay (aq q hn)];exact q) λc xs q=>by rw[ay (aq q hn)];exact q
end
def Rd (H:Hp)(a:Addr)(u:HO):Prop:=H a=some u\/∃o,H a=some (.xA o u)
theorem Rd.ok{P:Program}{w:World}{h:Heap}(r:Rd H a u)(x:lP P w H h):cR P w H h a u:=by
 rcases r with r | ⟨o,r⟩
 ·exact x a u r
 ·obtain⟨_,q⟩:=x a _ r
  exact q
def PV:Option HO->Prop
 | some (.lst _)=>True
 | some (.dK _)=>True
 | some (.dT _)=>True
 | some (.set _ _)=>True
 | some (.ins _ _ _)=>True
 | some (.ext _)=>True
 | _=>False
section
variable {P:Program}{w:World}{H:Hp}{h h':Heap}{x e:Addr}{o':HO}
theorem lP.write(ok:lP P w H h)(mu:PV (H x))(he:e=x\/H e=some (.own x))(k:∀b u,b≠e->h.get? b=some u->h'.get? b=some u)(Oz:∃u,h'.get? e=some u)
  (new:cR P w (upd H x o') h' x o'):lP P w (upd H x o') h':=λb u q=>by
 have PX:∀c y,H c=some (.own y)->c≠x:=λc y r z=>by subst z;rw[r] at mu;exact mu
 have Ho:∀c xs,H c=some (.tup xs)->c≠x:=λc xs r z=>by subst z;rw[r] at mu;exact mu
 by_cases hb:b=x
 ·subst hb;rw[af] at q;cases q;exact new
 ·rw[ay hb] at q
  by_cases LK:b=e
  ·have q':H b=some (.own x):=by
    rcases he with z | z
    ·exact absurd (LK.trans z) hb
    ·rw[LK];exact z
   rw[q] at q';cases q'
   obtain⟨v,hv⟩:=Oz
   exact⟨v,by rw[LK];exact hv⟩
  ·refine(ok b u q).aI (λc v hc r=>k c v ?_ r) (λc r=>by rw[ay (PX c b r)];exact r) λc xs r=>by rw[ay (Ho c xs r)];exact r
   rcases hc with rfl | hc
   ·exact LK
   ·rintro rfl
    rcases he with z | z
    ·exact PX c b hc z
    ·rw[hc] at z;cases z;exact hb rfl
end
structure Un (fs ex:List Addr)(H H':Hp)(h h':Heap):Prop where
 keep:∀b o,h.get? b=some o->H b=none->b ∉ fs->b ∉ ex->h'.get? b=some o
 slot:∀b o,h.get? b=some o->H b=none->b ∈ fs->b ∉ ex->∃sl,h'.get? b=some {o with slots:=sl}
 free:∀b o,h.get? b=some o->H b=none->b ∉ ex->H' b=none
 there:∀b o,h.get? b=some o->b ∉ ex->∃o',h'.get? b=some o'
 aQ:∀b xs,H b=some (.tup xs)->H' b=some (.tup xs)
 pN:∀b o u,H b=some (.xA o u)->H' b=some (.xA o u)
 qz:∀b ps,H b=some (.LI ps)->∃more,H' b=some (.LI (ps++more))
section
variable {fs xB ex ex':List Addr}{H H1 H2:Hp}{h h1 h2 h':Heap}{a x e:Addr}{o:HO}
theorem Un.any(u:Un fs ex H H1 h h1){b:Addr}{ob:Obj}(q:h.get? b=some ob)(n:H b=none)(hx:b ∉ ex):∃sl,h1.get? b=some {ob with slots:=sl}:=by
 by_cases hb:b ∈ fs
 ·exact u.slot b ob q n hb hx
 ·exact⟨ob.slots,u.keep b ob q n hb hx⟩
theorem Un.trans(a:Un fs ex H H1 h h1)(b:Un fs ex H1 H2 h1 h2):Un fs ex H H2 h h2 where
 keep:=λc ob q n hc hx=>b.keep c ob (a.keep c ob q n hc hx) (a.free c ob q n hx) hc hx
 slot:=λc ob q n hc hx=>by
  obtain⟨sl,e1⟩:=a.slot c ob q n hc hx
  obtain⟨V5,e2⟩:=b.slot c _ e1 (a.free c ob q n hx) hc hx
  exact⟨V5,e2⟩
 free:=λc ob q n hx=>by
  obtain⟨o',e1⟩:=a.there c ob q hx
  exact b.free c o' e1 (a.free c ob q n hx) hx
 there:=λc ob q hx=>by
  obtain⟨o',e1⟩:=a.there c ob q hx
  exact b.there c o' e1 hx
 aQ:=λc xs q=>b.aQ c xs (a.aQ c xs q)
 pN:=λc ob xs q=>b.pN c ob xs (a.pN c ob xs q)
 qz:=λc ps q=>by
  obtain⟨m1,e1⟩:=a.qz c ps q
  obtain⟨m2,e2⟩:=b.qz c _ e1
  exact⟨m1++m2,by rw[e2,Array.append_assoc]⟩
theorem Un.kept(k:∀b u,h.get? b=some u->h'.get? b=some u):Un fs ex H H h h':=
 ⟨λb ob q _ _ _=>k b ob q,λb ob q _ _ _=>⟨ob.slots,k b ob q⟩,λ_ _ _ n _=>n,λb ob q _=>⟨ob,k b ob q⟩,λ_ _ q=>q,λ_ _ _ q=>q,λ_ ps q=>⟨#[],by rw[q];simp⟩⟩
theorem Un.refl:Un fs ex H H h h:=Un.kept λ_ _ q=>q
theorem Un.laid(k:∀b u,h.get? b=some u->h'.get? b=some u)(hp:h.objs.size<=a)(hn:H a=none):Un fs ex H (upd H a o) h h' where
 keep:=λb u q _ _ _=>k b u q
 slot:=λb u q _ _ _=>⟨u.slots,k b u q⟩
 free:=λb u q n _=>by rw[ay (Nat.ne_of_lt (Nat.lt_of_lt_of_le (Heap.lt_size q) hp))];exact n
 there:=λb u q _=>⟨u,k b u q⟩
 aQ:=λb xs q=>by rw[ay (aq q hn)];exact q
 pN:=λb u xs q=>by rw[ay (aq q hn)];exact q
 qz:=λb ps q=>⟨#[],by rw[ay (aq q hn),q];simp⟩
theorem Un.write(mu:PV (H x))(he:e=x\/H e=some (.own x))(k:∀b u,b≠e->h.get? b=some u->h'.get? b=some u)(Oz:∃u,h'.get? e=some u):Un fs ex H (upd H x o) h h':=by
 have hx:∀b,H b=none->b≠x:=λb n z=>by subst z;rw[n] at mu;exact mu
 have hb:∀b,H b=none->b≠e:=λb n z=>by
  subst z
  rcases he with r | r
  ·exact hx b n r
  ·rw[n] at r;cases r
 have hm:∀b u,H b=some u->¬PV (some u)->b≠x:=λb u q nm z=>by subst z;rw[q] at mu;exact nm mu
 refine⟨λb u q n _ _=>k b u (hb b n) q,λb u q n _ _=>⟨u.slots,k b u (hb b n) q⟩,λb u q n _=>by rw[ay (hx b n)];exact n,λb u q _=>?_,
  λb xs q=>by rw[ay (hm b _ q λz=>z)];exact q,λb u xs q=>by rw[ay (hm b _ q λz=>z)];exact q,λb ps q=>⟨#[],by rw[ay (hm b _ q λz=>z),q];simp⟩⟩
 by_cases LK:b=e
 ·subst LK;exact Oz
 ·exact⟨u,k b u LK q⟩
end
def Uz (h:Heap)(H:Hp):List Addr:=(List.range h.objs.size).filter λa=>(H a).isSome
def uo (h:Heap)(H:Hp):Heap:=W.hideAll h (Uz h H)
theorem AW (h:Heap)(H:Hp):(uo h H).objs.size=h.objs.size:=W.hideAll_size _ _
theorem CB {h:Heap}{o:Obj}(e:h.get? b=some o)(n:H b=none):(uo h H).get? b=some o:=
 W.hideAll_get _ e λhm=>by
  have q:(H b).isSome=true:=(List.mem_filter.mp hm).2
  rw[n] at q;simp at q
theorem Hr {h:Heap}{H:Hp}{b:Addr}{o:Obj}(e:(uo h H).get? b=some o):h.get? b=some o/\H b=none:=by
 have e':h.get? b=some o:=W.of_hideAll (Uz h H) e
 refine⟨e',?_⟩
 cases q:H b with
 | none=>rfl
 | some x=>
  have hm:b ∈ Uz h H:=List.mem_filter.mpr ⟨List.mem_range.mpr (Heap.lt_size e'),by simp[q]⟩
  have z:(uo h H).get? b=none:=W.hideAll_none (Uz h H) hm
  rw[z] at e;cases e
def Ht (g h:Heap)(L:Addr):List (Addr×Obj):=(List.range h.objs.size).filterMap λa=>if a=L\/(g.get? a).isSome=true then none else(h.get? a).map λo=>(a,o)
def rest (g h:Heap)(L d:Addr):List (Addr×Obj):=(Ht g h L).filter λp=>decide (p.1≠d)
end
section
variable {A:Around}{ch:List Addr}{t':Nat}{E:Value->Shared->Prop}
structure Mod (K:W.Frag)(mg:Str->Option Value)(base:Heap):Prop where
 OA:K.In base
 glob:base.Ns mainGlobals mg
 blt:∃mb,base.Ns builtinsNs mb/\∀x:Str,x≠"__name__"->mb x=bootBuiltins x
 nolimit:base.NoLimit
structure Cx where
 prog:Program
 w:World
 K:W.Frag
 mg:Str->Option Value
 base:Heap
 A:Around
 N:List Str
 s₀:Shared
 H₀:Hp
 env:Env
 outer:List Env
 stack:List Env
 ex:List Addr
 fn:Str->Bool
 calm:Bool
 pn:List (Addr×Obj)
 xe:Value->Shared->Prop
def AX (l:List Env):List Addr:=l.filterMap (·.frame)
abbrev Cx.fs(X:Cx):List Addr:=AX X.outer
def PY (sc:Scope)(x:Str):Prop:=sc.names.lookup x=some .local\/sc.names.lookup x=some .cell\/sc.names.lookup x=some .free
def Loc (sc:Scope)(x:Str):Prop:=sc.names.lookup x=some .local\/sc.names.lookup x=some .cell
def Look (env:Env)(h:Heap)(m:Str->Option Value)(x:Str)(u:Value):Prop:=
 (env.kindOf x=some .local/\m x=some u)\/((env.kindOf x=some .cell\/env.kindOf x=some .free)/\∃c,env.cells.lookup x=some c/\h.IsCell c (some u))
structure Cx.Ok(X:Cx):Prop where
 mod:Mod X.K X.mg X.base
 kind:X.env.scope.kind=.function
 glob:X.env.globals=mainGlobals
 blt:X.env.builtins=builtinsNs
 above:X.s₀.heap.objs.size<=X.env.locals
 inj:∀x y c,X.env.cells.lookup x=some c->X.env.cells.lookup y=some c->x=y
 has:∀x,(X.env.kindOf x=some .cell\/X.env.kindOf x=some .free)->∃c,X.env.cells.lookup x=some c
 OB:∀x c,X.fn x=true->X.env.cells.lookup x=some c->X.s₀.heap.objs.size<=c
 hd:X.calm=true->X.A.handled=none
 frames:X.A.frames=some X.stack
 PZ:X.stack=X.outer\/(X.stack=X.env::X.outer/\X.env.frame=some X.env.locals)
 UA:∀b ∈ X.ex,b≠X.env.locals/\∀x c,X.env.cells.lookup x=some c->c≠b
 bs:∀b o,X.base.get? b=some o->X.s₀.heap.get? b=some o/\X.H₀ b=none
 Ce:X.base.objs.size<=X.s₀.heap.objs.size
 xK:∀b o,X.base.get? b=some o->b ∉ X.ex
 AY:∀b ∈ X.ex,b ∉ X.fs
 nS:X.s₀.heap.FunFrames X.base X.outer
 JS:∀b ∈ X.fs,X.H₀ b=none
structure Inv (X:Cx)(pins:List (Addr×Obj))(σ:List (Option V))(H:Hp)(s:Shared):Prop where
 ok:X.Ok
 os:s.os=X.s₀.os
 bare:AllBare s.gens
 base:Un X.fs X.ex X.H₀ H X.s₀.heap s.heap
 loc:∃m,s.heap.Ns X.env.locals m/\∀(i:Nat) (x:Str) (v:V),X.N[i]?=some x->σ[i]?=some (some v)->PY X.env.scope x->∃u,RelV v u/\Look X.env s.heap m x u
 cell:∀x c,X.env.cells.lookup x=some c->∃v,s.heap.IsCell c v
 free:H X.env.locals=none
 j8:∀x c,X.env.cells.lookup x=some c->H c=none
 pin:∀p ∈ X.pn++pins,s.heap.get? p.1=some p.2/\H p.1=none/\p.1≠X.env.locals/\p.1 ∉ X.fs/\∀v,p.2.data≠.cell v
 bf:lP X.prog X.w H s.heap
 len:σ.length=X.N.length
section
variable {X:Cx}{pins:List (Addr×Obj)}{σ:List (Option V)}{H H':Hp}{s:Shared}{h':Heap}
theorem Cx.Ok.LL(ok:X.Ok){b:Addr}{o:Obj}(e:X.base.get? b=some o):b ∉ X.fs:=λhb=>by
 have:=(ok.nS.mem hb).1
 rw[e] at this;cases this
theorem Inv.bs(I:Inv X pins σ H s):∀b o,X.base.get? b=some o->s.heap.get? b=some o/\H b=none:=λb o e=>
 ⟨I.base.keep b o (I.ok.bs b o e).1 (I.ok.bs b o e).2 (I.ok.LL e) (I.ok.xK b o e),I.base.free b o (I.ok.bs b o e).1 (I.ok.bs b o e).2 (I.ok.xK b o e)⟩
theorem Inv.bk(I:Inv X pins σ H s):∀b o,X.base.get? b=some o->s.heap.get? b=some o:=λb o e=>(I.bs b o e).1
theorem Inv.mod(I:Inv X pins σ H s):Mod X.K X.mg X.base:=I.ok.mod
theorem Inv.jF(I:Inv X pins σ H s):X.K.In s.heap:=I.ok.mod.OA.keeps I.bk
theorem Inv.fr(I:Inv X pins σ H s):∃m,Fr X.base X.env.locals s.heap m:=
 let ⟨m,hn,_⟩:=I.loc
 ⟨m,hn,I.bk,Nat.le_trans I.ok.Ce I.ok.above⟩
theorem Inv.lt(I:Inv X pins σ H s):X.env.locals < s.heap.objs.size:=let ⟨_,hn,_⟩:=I.loc;hn.lt
theorem Inv.sz(I:Inv X pins σ H s):X.s₀.heap.objs.size<=s.heap.objs.size:=Nat.le_trans I.ok.above (Nat.le_of_lt I.lt)
theorem Inv.LM(I:Inv X pins σ H s){a:Addr}(h:s.heap.objs.size<=a):a ∉ X.fs:=λhb=>by
 obtain⟨_,o,ho,_⟩:=I.ok.nS.mem hb
 exact absurd (Nat.lt_of_lt_of_le (Heap.lt_size ho) (Nat.le_trans I.sz h)) (Nat.lt_irrefl _)
theorem Inv.LN(I:Inv X pins σ H s):∀x c,X.env.cells.lookup x=some c->c≠X.env.locals:=λx c e z=>by
 obtain⟨v,o,ho,hd⟩:=I.cell x c e
 obtain⟨m,⟨o',es,ep,mW,qg,_⟩,_⟩:=I.loc
 rw[z,mW] at ho;cases ho;rw[qg] at hd;cases hd
theorem Inv.nS(I:Inv X pins σ H s):s.heap.FunFrames X.base X.outer:=by
 have all:∀(l:List Env),(∀b ∈ AX l,b ∈ X.fs)->X.s₀.heap.FunFrames X.base l->s.heap.FunFrames X.base l:=by
  intro l
  induction l with
  | nil=>intro _ _;trivial
  | cons env r ih=>
   intro hs hl
   obtain⟨hk,⟨L,o,hf,hn,ho,hd⟩,hr⟩:=hl
   have hL:L ∈ X.fs:=hs L (by unfold AX;rw[List.filterMap_cons,hf];exact List.mem_cons_self)
   obtain⟨sl,e⟩:=I.base.slot L o ho (I.ok.JS L hL) hL λz=>I.ok.AY L z hL
   exact⟨hk,⟨L,_,hf,hn,e,hd⟩,ih (λb hb=>hs b (by unfold AX;rw[List.filterMap_cons,hf];exact List.mem_cons_of_mem _ hb)) hr⟩
 exact all X.outer (λ_ hb=>hb) I.ok.nS
theorem Inv.stack(I:Inv X pins σ H s):s.heap.FunFrames X.base X.stack:=by
 rcases I.ok.PZ with e | ⟨e,hf⟩
 ·rw[e];exact I.nS
 ·rw[e]
  obtain⟨m,hn,_⟩:=I.loc
  refine .cons (by rw[I.ok.kind];decide) hf hn ?_ I.nS
  exact Heap.get?_none_of_le (Nat.le_trans I.ok.Ce I.ok.above)
theorem Inv.uq(I:Inv X pins σ H s):∀b ∈ AX X.stack,b ∈ X.env.locals::X.fs:=λb hb=>by
 rcases I.ok.PZ with e | ⟨e,hf⟩
 ·rw[e] at hb;exact List.mem_cons_of_mem _ hb
 ·rw[e] at hb
  unfold AX at hb
  rw[List.filterMap_cons,hf] at hb
  exact hb
theorem Inv.zi(I:Inv X pins σ H s):∀b ∈ AX X.stack,H b=none:=λb hb=>by
 rcases List.mem_cons.mp (I.uq b hb) with e | hb
 ·rw[e];exact I.free
 ·obtain⟨_,o,ho,_⟩:=I.ok.nS.mem hb
  exact I.base.free b o ho (I.ok.JS b hb) λz=>I.ok.AY b z hb
theorem Inv.step{g':Array GenState}{t':Nat}{d':Drawn}(I:Inv X pins σ H s)
  (GR:∀b ∈ ch,(b ∈ X.ex\/X.s₀.heap.objs.size<=b)/\b≠X.env.locals/\(∀x c,X.env.cells.lookup x=some c->c≠b)/\∀p ∈ X.pn++pins,p.1≠b)
  (keep:∀b o,b≠X.env.locals->b ∉ X.fs->b ∉ ch->s.heap.get? b=some o->H b=none->h'.get? b=some o)
  (slot:∀b o,b≠X.env.locals->b ∈ X.fs->b ∉ ch->s.heap.get? b=some o->H b=none->∃sl,h'.get? b=some {o with slots:=sl}) (free:∀b o,b ∉ ch->s.heap.get? b=some o->H b=none->H' b=none)
  (there:∀b o,b ∉ ch->s.heap.get? b=some o->∃o',h'.get? b=some o')
  (aQ:∀b xs,H b=some (.tup xs)->H' b=some (.tup xs)) (pN:∀b o u,H b=some (.xA o u)->H' b=some (.xA o u)) (qz:∀b ps,H b=some (.LI ps)->∃more,H' b=some (.LI (ps++more)))
  (ns:∀m,s.heap.Ns X.env.locals m->h'.Ns X.env.locals m) (bf:lP X.prog X.w H' h') (hg:AllBare g'):
  Inv X pins σ H' {s with heap:=h',gens:=g',drawn:=d',toks:=t'}:=by
 have neL:∀b o,X.s₀.heap.get? b=some o->b≠X.env.locals:=λb o e=>Nat.ne_of_lt (Nat.lt_of_lt_of_le (Heap.lt_size e) I.ok.above)
 have UB:∀b o,X.s₀.heap.get? b=some o->b ∉ X.ex->b ∉ ch:=λb o e hx hb=>by
  rcases(GR b hb).1 with z | z
  ·exact hx z
  ·exact absurd (Nat.lt_of_lt_of_le (Heap.lt_size e) z) (Nat.lt_irrefl _)
 have cellK:∀x c,X.env.cells.lookup x=some c->∀v,s.heap.IsCell c v->h'.IsCell c v:=λx c e v ⟨o,ho,hd⟩=>by
  have P0:c ∉ ch:=λz=>(GR c z).2.2.1 x c e rfl
  by_cases hc:c ∈ X.fs
  ·obtain⟨sl,q⟩:=slot c o (I.LN x c e) hc P0 ho (I.j8 x c e)
   exact⟨_,q,hd⟩
  ·exact⟨o,keep c o (I.LN x c e) hc P0 ho (I.j8 x c e),hd⟩
 refine⟨I.ok,I.os,hg,⟨λb o e n hb hx=>?_,λb o e n hb hx=>?_,λb o e n hx=>?_,λb o e hx=>?_,λb xs e=>aQ b xs (I.base.aQ b xs e),λb o xs e=>pN b o xs (I.base.pN b o xs e),λb ps e=>?_⟩,?_,λx c e=>?_,?_,λx c e=>?_,λp hp=>?_,bf,I.len⟩
 ·exact keep b o (neL b o e) hb (UB b o e hx) (I.base.keep b o e n hb hx) (I.base.free b o e n hx)
 ·obtain⟨sl,e1⟩:=I.base.slot b o e n hb hx
  obtain⟨V5,e2⟩:=slot b _ (neL b o e) hb (UB b o e hx) e1 (I.base.free b o e n hx)
  exact⟨V5,e2⟩
 ·obtain⟨o',e1⟩:=I.base.there b o e hx
  exact free b o' (UB b o e hx) e1 (I.base.free b o e n hx)
 ·obtain⟨o',e1⟩:=I.base.there b o e hx
  exact there b o' (UB b o e hx) e1
 ·obtain⟨m1,e1⟩:=I.base.qz b ps e
  obtain⟨m2,e2⟩:=qz b _ e1
  exact⟨m1++m2,by rw[e2,Array.append_assoc]⟩
 ·obtain⟨m,hn,hl⟩:=I.loc
  refine⟨m,ns m hn,λi x v e1 e2 e3=>?_⟩
  obtain⟨u,r,l⟩:=hl i x v e1 e2 e3
  refine⟨u,r,?_⟩
  rcases l with l | ⟨k,c,e,z⟩
  ·exact .inl l
  ·exact .inr ⟨k,c,e,cellK x c e _ z⟩
 ·obtain⟨v,z⟩:=I.cell x c e
  exact⟨v,cellK x c e v z⟩
 ·obtain⟨m,⟨o,_,_,ho,_⟩,_⟩:=I.loc
  exact free _ o (λz=>(GR _ z).2.1 rfl) ho I.free
 ·obtain⟨v,o,ho,hd⟩:=I.cell x c e
  exact free c o (λz=>(GR c z).2.2.1 x c e rfl) ho (I.j8 x c e)
 ·obtain⟨e,n,ne,nf,d⟩:=I.pin p hp
  have P0:p.1 ∉ ch:=λz=>(GR p.1 z).2.2.2 p hp rfl
  exact⟨keep p.1 p.2 ne nf P0 e n,free p.1 p.2 P0 e n,ne,nf,d⟩
theorem Inv.un(I:Inv X pins σ H s)(u:Un X.fs [] H H' s.heap h')(bf:lP X.prog X.w H' h'):Inv X pins σ H' {s with heap:=h',toks:=t'}:=by
 obtain⟨m,⟨o,es,ep,ho,r⟩,_⟩:=id I.loc
 obtain⟨sl,hL⟩:=u.any ho I.free (by simp)
 exact I.step (g':=s.gens) (d':=s.drawn) (ch:=[]) (λ_ z=>nomatch z) (λb o _ hb _ e n=>u.keep b o e n hb (by simp)) (λb o _ hb _ e n=>u.slot b o e n hb (by simp)) (λb o _ e n=>u.free b o e n (by simp)) (λb o _ e=>u.there b o e (by simp)) u.aQ u.pN u.qz (λm' hm=>by
  obtain⟨o',V6,V7,mW,r'⟩:=hm
  rw[ho] at mW;cases mW
  exact⟨_,V6,V7,hL,r'⟩) bf I.bare
theorem Inv.call{g':Array GenState}{d':Drawn}(I:Inv X pins σ H s)(u:Un (AX X.stack) ch H H' s.heap h')(bf:lP X.prog X.w H' h')(hg:AllBare g')
  (GR:∀b ∈ ch,(b ∈ X.ex\/X.s₀.heap.objs.size<=b)/\b≠X.env.locals/\(∀x c,X.env.cells.lookup x=some c->c≠b)/\∀p ∈ X.pn++pins,p.1≠b):
  Inv X pins σ H' {s with heap:=h',gens:=g',drawn:=d',toks:=t'}:=by
 obtain⟨m,⟨o,es,ep,ho,r⟩,_⟩:=id I.loc
 obtain⟨sl,hL⟩:=u.any ho I.free λz=>(GR _ z).2.1 rfl
 exact I.step (ch:=ch) GR (λb o hL hb hc e n=>u.keep b o e n (λz=>(List.mem_cons.mp (I.uq b z)).elim hL hb) hc) (λb o _ _ hc e n=>u.any e n hc) (λb o hc e n=>u.free b o e n hc) (λb o hc e=>u.there b o e hc) u.aQ u.pN u.qz (λm' hm=>by
  obtain⟨o',V6,V7,mW,r'⟩:=hm
  rw[ho] at mW;cases mW
  exact⟨_,V6,V7,hL,r'⟩) bf hg
theorem Inv.turned{it:Addr}(I:Inv X pins σ H s)(k:∀b o,b≠it->s.heap.get? b=some o->h'.get? b=some o)(hn:H it=none)(hL:it≠X.env.locals)
  (h1:it ∈ X.ex\/X.s₀.heap.objs.size<=it) (h2:∀x c,X.env.cells.lookup x=some c->c≠it) (h3:∀p ∈ X.pn++pins,p.1≠it):Inv X pins σ H {s with heap:=h',toks:=t'}:=by
 have JT:∀b u,H b=some u->b≠it:=λb u e z=>by rw[z,hn] at e;cases e
 refine I.step (g':=s.gens) (d':=s.drawn) (ch:=[it]) (λb hb=>?_) (λb o _ _ hc e _=>k b o (λz=>hc (by simp[z])) e) (λb o _ _ hc e _=>⟨o.slots,k b o (λz=>hc (by simp[z])) e⟩) (λ_ _ _ _ n=>n)
  (λb o hc e=>⟨o,k b o (λz=>hc (by simp[z])) e⟩) (λ_ _ e=>e) (λ_ _ _ e=>e) (λb ps e=>⟨#[],by rw[e];simp⟩) (λm hm=>?_) (λb u e=>?_) I.bare
 ·have e:b=it:=by simpa using hb
  subst e
  exact⟨h1,hL,h2,h3⟩
 ·obtain⟨o,es,ep,ho,r⟩:=hm
  exact⟨o,es,ep,k _ o (Ne.symm hL) ho,r⟩
 ·refine(I.bf b u e).aI (λc v hc q=>k c v ?_ q) (λ_ q=>q) λ_ _ q=>q
  rcases hc with z | z
  ·rw[z];exact JT b u e
  ·exact JT c _ z
theorem Inv.tok(I:Inv X pins σ H s)(t:Nat):Inv X pins σ H {s with toks:=t}:=I.un (h':=s.heap) (t':=t) Un.refl I.bf
theorem Inv.kept(I:Inv X pins σ H s)(k:∀b u,s.heap.get? b=some u->h'.get? b=some u):Inv X pins σ H {s with heap:=h',toks:=t'}:=I.un (Un.kept k) (I.bf.kept k)
theorem Inv.laid{a:Addr}{o:HO}(I:Inv X pins σ H s)(k:∀b u,s.heap.get? b=some u->h'.get? b=some u)(hp:s.heap.objs.size<=a)(new:cR X.prog X.w (upd H a o) h' a o):
  Inv X pins σ (upd H a o) {s with heap:=h',toks:=t'}:=I.un (Un.laid k hp (I.bf.fresh hp)) (I.bf.laid k hp new)
theorem Inv.write{x e:Addr}{o:HO}(I:Inv X pins σ H s)(mu:PV (H x))(he:e=x\/H e=some (.own x))(k:∀b u,b≠e->s.heap.get? b=some u->h'.get? b=some u)(Oz:∃u,h'.get? e=some u)
  (new:cR X.prog X.w (upd H x o) h' x o):Inv X pins σ (upd H x o) {s with heap:=h',toks:=t'}:=I.un (Un.write mu he k Oz) (I.bf.write mu he k Oz new)
theorem Inv.ur{JU:List (Addr×Obj)}(I:Inv X pins σ H s)(h:∀p ∈ JU,s.heap.get? p.1=some p.2/\H p.1=none/\p.1≠X.env.locals/\p.1 ∉ X.fs/\∀v,p.2.data≠.cell v):Inv X JU σ H s:=
 ⟨I.ok,I.os,I.bare,I.base,I.loc,I.cell,I.free,I.j8,λp hp=>(List.mem_append.mp hp).elim (λz=>I.pin p (List.mem_append_left _ z)) (h p),I.bf,I.len⟩
theorem vz {N:List Str}(hN:N.Nodup){i j:Nat}{x:Str}(a:N[i]?=some x)(b:N[j]?=some x):i=j:=by
 obtain⟨h1,e1⟩:=List.getElem?_eq_some_iff.mp a
 obtain⟨h2,e2⟩:=List.getElem?_eq_some_iff.mp b
 exact(List.getElem_inj hN).mp (e1.trans e2.symm)
theorem AZ {M:Model}{i:Nat}{x:Str}{v:V}{u:Value}{Q:Unit->Shared->Prop}(I:Inv X pins σ H s)(hN:X.N.Nodup)(hi:X.N[i]?=some x)(hx:Loc X.env.scope x)(r:RelV v u)
  (h:∀s',Inv X pins (σ.set i (some v)) H s'->(∃a,Heap.SameBut a s.heap s'.heap/\(a=X.env.locals\/X.env.cells.lookup x=some a))->Q () s') (hf:X.fn x=true\/X.env.scope.names.lookup x=some .local:=by first | exact .inl rfl | exact .inr rfl | assumption):wpAny M A (storeName X.env x u) Q E s:=by
 obtain⟨m,hn,hl⟩:=id I.loc
 have V8:(X.env.scope.kind == .class || (X.env.scope.kind == .module && X.env.locals != X.env.globals))=false:=by rw[I.ok.kind];rfl
 have hiσ:i < σ.length:=by rw[I.len];exact(List.getElem?_eq_some_iff.mp hi).1
 have LN:=I.LN
 have tracked:∀{a:Addr} {h':Heap},(∃o,s.heap.get? a=some o/\H a=none)->Heap.SameBut a s.heap h'->lP X.prog X.w H h':=λ{a h'} ha hs b ob e=>by
  obtain⟨_,_,JV⟩:=ha
  refine(I.bf b ob e).aI (λc w' hc q=>(hs.2 c ?_).trans q) (λ_ q=>q) λ_ _ q=>q
  rintro rfl
  rcases hc with rfl | hc
  ·rw[JV] at e;cases e
  ·rw[JV] at hc;cases hc
 rcases hx with hk | hk
 ·refine wpAny_storeName_local hk hn (λh' hn' hs=>?_) V8
  obtain⟨oL,_,_,hoL,_⟩:=id hn
  refine h _ ⟨I.ok,I.os,I.bare,⟨λb o e n hb hx=>?_,λb o e n hb hx=>?_,I.base.free,λb o e hx=>?_,I.base.aQ,I.base.pN,I.base.qz⟩,⟨_,hn',λj y v' e1 e2 e3=>?_⟩,λy c e=>?_,I.free,I.j8,λp hp=>?_,tracked ⟨oL,hoL,I.free⟩ hs,by simpa using I.len⟩ ⟨_,hs,.inl rfl⟩
  ·exact(hs.2 b (Nat.ne_of_lt (Nat.lt_of_lt_of_le (Heap.lt_size e) I.ok.above))).trans (I.base.keep b o e n hb hx)
  ·obtain⟨sl,e1⟩:=I.base.slot b o e n hb hx
   exact⟨sl,(hs.2 b (Nat.ne_of_lt (Nat.lt_of_lt_of_le (Heap.lt_size e) I.ok.above))).trans e1⟩
  ·obtain⟨o',e1⟩:=I.base.there b o e hx
   exact⟨o',(hs.2 b (Nat.ne_of_lt (Nat.lt_of_lt_of_le (Heap.lt_size e) I.ok.above))).trans e1⟩
  ·by_cases hj:j=i
   ·subst hj
    rw[hi] at e1;cases e1
    rw[List.getElem?_set_self hiσ] at e2
    cases e2
    exact⟨u,r,.inl ⟨hk,by simp⟩⟩
   ·rw[List.getElem?_set_ne (Ne.symm hj)] at e2
    obtain⟨u',r',q⟩:=hl j y v' e1 e2 e3
    refine⟨u',r',?_⟩
    rcases q with⟨k,e⟩ | ⟨k,c,e,z⟩
    ·refine .inl ⟨k,?_⟩
     have:y≠x:=λe=>hj (vz hN e1 (e ▸ hi))
     simp[this,e]
    ·exact .inr ⟨k,c,e,z.sameBut hs (LN y c e)⟩
  ·obtain⟨w',z⟩:=I.cell y c e
   exact⟨w',z.sameBut hs (LN y c e)⟩
  ·obtain⟨e,n,ne,nf,d⟩:=I.pin p hp
   exact⟨(hs.2 p.1 ne).trans e,n,ne,nf,d⟩
 ·have Qa:X.fn x=true:=by
   rcases hf with z | z
   ·exact z
   ·rw[z] at hk;cases hk
  obtain⟨c,hc⟩:=I.ok.has x (.inl hk)
  obtain⟨w',z⟩:=I.cell x c hc
  refine wpAny_storeName_cell I.ok.kind hk hc z (λh' JW hs=>?_)
  obtain⟨oc,UC,V9⟩:=id z
  refine h {s with heap:=h'} ⟨I.ok,I.os,I.bare,⟨λb o e n hb hx=>?_,λb o e n hb hx=>?_,I.base.free,λb o e hx=>?_,I.base.aQ,I.base.pN,I.base.qz⟩,⟨m,hn.sameBut hs (Ne.symm (LN x c hc)),λj y v' e1 e2 e3=>?_⟩,λy c' e=>?_,I.free,I.j8,λp hp=>?_,tracked ⟨oc,UC,I.j8 x c hc⟩ hs,by simpa using I.len⟩ ⟨c,hs,.inr hc⟩
  ·exact(hs.2 b (Nat.ne_of_lt (Nat.lt_of_lt_of_le (Heap.lt_size e) (I.ok.OB x c Qa hc)))).trans (I.base.keep b o e n hb hx)
  ·obtain⟨sl,e1⟩:=I.base.slot b o e n hb hx
   exact⟨sl,(hs.2 b (Nat.ne_of_lt (Nat.lt_of_lt_of_le (Heap.lt_size e) (I.ok.OB x c Qa hc)))).trans e1⟩
  ·obtain⟨o',e1⟩:=I.base.there b o e hx
   exact⟨o',(hs.2 b (Nat.ne_of_lt (Nat.lt_of_lt_of_le (Heap.lt_size e) (I.ok.OB x c Qa hc)))).trans e1⟩
  ·by_cases hj:j=i
   ·subst hj
    rw[hi] at e1;cases e1
    rw[List.getElem?_set_self hiσ] at e2
    cases e2
    exact⟨u,r,.inr ⟨.inl hk,c,hc,JW⟩⟩
   ·rw[List.getElem?_set_ne (Ne.symm hj)] at e2
    obtain⟨u',r',q⟩:=hl j y v' e1 e2 e3
    refine⟨u',r',?_⟩
    rcases q with q | ⟨k,c',e,z'⟩
    ·exact .inl q
    ·refine .inr ⟨k,c',e,z'.sameBut hs ?_⟩
     rintro rfl
     exact hj (vz hN e1 (I.ok.inj _ _ _ e hc ▸ hi))
  ·by_cases hcc:c'=c
   ·subst hcc;exact⟨_,JW⟩
   ·obtain⟨w2,z2⟩:=I.cell y c' e
    exact⟨w2,z2.sameBut hs hcc⟩
  ·obtain⟨e,n,ne,nf,d⟩:=I.pin p hp
   refine⟨(hs.2 p.1 ?_).trans e,n,ne,nf,d⟩
   intro q
   rw[q,UC] at e
   have q':oc=p.2:=Option.some.inj e
   exact d w' (by rw[<-q'];exact V9)
theorem mY {M:Model}{i:Nat}{x:Str}{v:V}{u:Value}{Q:Unit->Shared->Prop}(I:Inv X pins σ H s)(hN:X.N.Nodup)(hi:X.N[i]?=some x)(hx:Loc X.env.scope x)(r:RelV v u)
  (h:∀s',Inv X pins (σ.set i (some v)) H s'->Q () s') (hf:X.fn x=true\/X.env.scope.names.lookup x=some .local:=by first | exact .inl rfl | exact .inr rfl | assumption):wpAny M A (storeName X.env x u) Q E s:=
 AZ I hN hi hx r (λs' I' _=>h s' I') hf
theorem Inv.Qb{s':Shared}(I:Inv X pins σ H s)(ho:s'.os=s.os)(u:Un (AX X.stack) ch H H' s.heap s'.heap)(bf:lP X.prog X.w H' s'.heap)(hg:AllBare s'.gens)
  (GR:∀b ∈ ch,(b ∈ X.ex\/X.s₀.heap.objs.size<=b)/\b≠X.env.locals/\(∀x c,X.env.cells.lookup x=some c->c≠b)/\∀p ∈ X.pn++pins,p.1≠b):Inv X pins σ H' s':=by
 obtain⟨h',g',d',t',o'⟩:=s'
 have e:o'=s.os:=ho
 subst e
 exact I.call (g':=g') (t':=t') (d':=d') u bf hg GR
end
abbrev XK:=Value->Option Addr->Hp->Prop
abbrev St:=List (Option V)
abbrev VK:=V->Hp->Prop
abbrev TE:=St->Hp->VK->Prop
abbrev TT:=St->Hp->(Bool->Hp->Prop)->Prop
abbrev TA:=St->Hp->(List V->Hp->Prop)->Prop
structure Ends where
 nx:St->Hp->Prop
 rt:VK
 bk:St->Hp->Prop:=λ_ _=>False
 ct:St->Hp->Prop:=λ_ _=>False
abbrev TS:=Ends->St->Hp->Prop
def EP (X:Cx)(pins:List (Addr×Obj))(σ:St)(Q:VK)(u:Value)(s':Shared):Prop:=∃v H',Inv X pins σ H' s'/\RelV v u/\Q v H'
def TP (X:Cx)(pins:List (Addr×Obj))(σ:St)(Q:Bool->Hp->Prop)(b:Bool)(s':Shared):Prop:=∃H',Inv X pins σ H' s'/\Q b H'
def AP (X:Cx)(pins:List (Addr×Obj))(σ:St)(Q:List V->Hp->Prop)(us:List Value)(s':Shared):Prop:=∃vs H',Inv X pins σ H' s'/\Vals vs us/\Q vs H'
def SP (X:Cx)(pins:List (Addr×Obj))(D:Ends)(f:Flow)(s':Shared):Prop:=
 match f with
 | .next=>∃σ' H',Inv X pins σ' H' s'/\D.nx σ' H'
 | .brk=>∃σ' H',Inv X pins σ' H' s'/\D.bk σ' H'
 | .cont=>∃σ' H',Inv X pins σ' H' s'/\D.ct σ' H'
 | .ret u=>∃v σ' H',Inv X pins σ' H' s'/\RelV v u/\D.rt v H'
structure PE (X:Cx)(e:Expr)(t:TE):Prop where
 out:
  ∀(pins:List (Addr×Obj)) (s:Shared) (σ:St) (H:Hp) (Q:VK),Inv X pins σ H s->t σ H Q->wpAny (model X.prog X.w) X.A (eval e X.env) (EP X pins σ Q) X.xe s
instance {X:Cx}{e:Expr}{t:TE}:CoeFun (PE X e t) λ_=>
 ∀(pins:List (Addr×Obj)) (s:Shared) (σ:St) (H:Hp) (Q:VK),Inv X pins σ H s->t σ H Q->wpAny (model X.prog X.w) X.A (eval e X.env) (EP X pins σ Q) X.xe s:=⟨PE.out⟩
structure PT (X:Cx)(e:Expr)(t:TT):Prop where
 out:
  ∀(pins:List (Addr×Obj)) (s:Shared) (σ:St) (H:Hp) (Q:Bool->Hp->Prop),Inv X pins σ H s->t σ H Q->wpAny (model X.prog X.w) X.A (isTrue e X.env (eval e X.env)) (TP X pins σ Q) X.xe s
instance {X:Cx}{e:Expr}{t:TT}:CoeFun (PT X e t) λ_=>
 ∀(pins:List (Addr×Obj)) (s:Shared) (σ:St) (H:Hp) (Q:Bool->Hp->Prop),Inv X pins σ H s->t σ H Q->wpAny (model X.prog X.w) X.A (isTrue e X.env (eval e X.env)) (TP X pins σ Q) X.xe s:=⟨PT.out⟩
structure PW (X:Cx)(e:Expr)(t:TT):Prop where
 out:
  ∀(whole:Sem Value) (pins:List (Addr×Obj)) (s:Shared) (σ:St) (H:Hp) (Q:Bool->Hp->Prop),Inv X pins σ H s->t σ H Q->wpAny (model X.prog X.w) X.A (isTrue e X.env whole) (TP X pins σ Q) X.xe s
instance {X:Cx}{e:Expr}{t:TT}:CoeFun (PW X e t) λ_=>
 ∀(whole:Sem Value) (pins:List (Addr×Obj)) (s:Shared) (σ:St) (H:Hp) (Q:Bool->Hp->Prop),Inv X pins σ H s->t σ H Q->wpAny (model X.prog X.w) X.A (isTrue e X.env whole) (TP X pins σ Q) X.xe s:=⟨PW.out⟩
theorem PW.pt{X:Cx}{e:Expr}{t:TT}(h:PW X e t):PT X e t:=⟨h.out _⟩
structure PA (X:Cx)(es:List Expr)(t:TA):Prop where
 out:
  ∀(pos:Pos) (pins:List (Addr×Obj)) (s:Shared) (σ:St) (H:Hp) (Q:List V->Hp->Prop),Inv X pins σ H s->t σ H Q->wpAny (model X.prog X.w) X.A (spliced (backTo pos (starEach es X.env))) (AP X pins σ Q) X.xe s
instance {X:Cx}{es:List Expr}{t:TA}:CoeFun (PA X es t) λ_=>
 ∀(pos:Pos) (pins:List (Addr×Obj)) (s:Shared) (σ:St) (H:Hp) (Q:List V->Hp->Prop),Inv X pins σ H s->t σ H Q->wpAny (model X.prog X.w) X.A (spliced (backTo pos (starEach es X.env))) (AP X pins σ Q) X.xe s:=⟨PA.out⟩
structure PS (X:Cx)(st:Stmt)(t:TS):Prop where
 out:
  ∀(pins:List (Addr×Obj)) (s:Shared) (σ:St) (H:Hp) (D:Ends),Inv X pins σ H s->t D σ H->wpAny (model X.prog X.w) X.A (exec st X.env) (SP X pins D) X.xe s
instance {X:Cx}{st:Stmt}{t:TS}:CoeFun (PS X st t) λ_=>
 ∀(pins:List (Addr×Obj)) (s:Shared) (σ:St) (H:Hp) (D:Ends),Inv X pins σ H s->t D σ H->wpAny (model X.prog X.w) X.A (exec st X.env) (SP X pins D) X.xe s:=⟨PS.out⟩
structure uu (X:Cx)(st:List Stmt)(t:TS):Prop where
 out:
  ∀(pins:List (Addr×Obj)) (s:Shared) (σ:St) (H:Hp) (D:Ends),Inv X pins σ H s->t D σ H->wpAny (model X.prog X.w) X.A (execs st X.env) (SP X pins D) X.xe s
instance {X:Cx}{st:List Stmt}{t:TS}:CoeFun (uu X st t) λ_=>
 ∀(pins:List (Addr×Obj)) (s:Shared) (σ:St) (H:Hp) (D:Ends),Inv X pins σ H s->t D σ H->wpAny (model X.prog X.w) X.A (execs st X.env) (SP X pins D) X.xe s:=⟨uu.out⟩
theorem dq {α:Type}{t:Sem α}{Q Q':α->Shared->Prop}{M:Model}{s:Shared}(h:wpAny M A t Q E s)(hQ:∀a s,Q a s->Q' a s):wpAny M A t Q' E s:=wpAny_mono h hQ λ_ _ x=>x
end
section
variable {pins:List (Addr×Obj)}{pos:Pos}{σ:St}{x:Str}{u:Value}{E Q:Value->Shared->Prop}
section
variable {X:Cx}
theorem bin {a b:Expr}{ta tb:TE}(ha:PE X a ta)(hb:PE X b tb){pins:List (Addr×Obj)}{s:Shared}{σ:St}{H:Hp}{R:V->V->Hp->Prop}(I:Inv X pins σ H s)(h:ta σ H λx H1=>tb σ H1 λy H2=>R x y H2)
  {α:Type} {Q:α->Shared->Prop} {f:Value->Value->Sem α}
  (hf:∀v u s2 x y H2,Inv X pins σ H2 s2->RelV x v->RelV y u->R x y H2->wpAny (model X.prog X.w) X.A (f v u) Q X.xe s2):
  wpAny (model X.prog X.w) X.A (eval a X.env) (λv s₁=>wpAny (model X.prog X.w) X.A (eval b X.env) (λu s₂=>wpAny (model X.prog X.w) X.A (f v u) Q X.xe s₂) X.xe s₁) X.xe s:=by
 refine dq (ha pins s σ H _ I h) λv s1 ⟨x,H1,I1,r1,q1⟩=>?_
 refine dq (hb pins s1 σ H1 _ I1 q1) λu s2 ⟨y,H2,I2,r2,q2⟩=>?_
 exact hf v u s2 x y H2 I2 r1 r2 q2
def CC (i:Nat):TE:=λσ H Q=>∃v,σ[i]?=some (some v)/\Q v H
def tC (v:V):TE:=λ_ H Q=>Q v H
theorem CF {i:Nat}(hN:X.N[i]?=some x)(hv:PY X.env.scope x)(hd:(x == ("__debug__":Str))=false:=by decide)(A0:(x == ("__classdict__":Str))=false:=by decide):PE X (.Name x pos) (CC i):=by
 walk_at "xc"
 obtain⟨v,e,h⟩:=h
 obtain⟨m,hn,hl⟩:=I.loc
 obtain⟨u,r,l⟩:=hl i x v hN e hv
 have fin:EP X pins σ Q u s:=⟨v,H,I,r,h⟩
 rcases l with⟨hk,hm⟩ | ⟨hk,c,hc,zj⟩
 ·exact wpAny_Name (wpAny_loadName_local I.ok.kind hk hn hm fin) hd
 ·rcases hk with hk | hk
  ·exact wpAny_Name (wpAny_loadName_cell I.ok.kind hk hc zj fin) hd
  ·exact wpAny_Name (wpAny_loadName_free I.ok.kind hk hc zj fin A0) hd
theorem ag {i j pos}:PE X (.Constant (.int i) j pos) (tC (.int i)):=.mk λ_ _ _ H _ I h=>wpAny_Constant_int ⟨.int i,H,I.tok _,⟨_,rfl⟩,h⟩
theorem eV {b j pos}:PE X (.Constant (.bool b) j pos) (tC (.bl b)):=.mk λ_ _ _ H _ I h=>Constant_bool ⟨.bl b,H,I,rfl,h⟩
theorem j9 {j pos}:PE X (.Constant .none j pos) (tC .bR):=.mk λ_ _ _ H _ I h=>Constant_none ⟨.bR,H,I,rfl,h⟩
theorem aB {x j pos}:PE X (.Constant (.str x) j pos) (tC (.str x)):=.mk λ_ _ _ H _ I h=>Calls.Constant_str ⟨.str x,H,I.tok _,⟨_,rfl⟩,h⟩
def Gl (X:Cx)(x:Str):Prop:=X.env.kindOf x=some .globalImplicit
theorem qh {s:Shared}{H:Hp}(I:Inv X pins σ H s)(hg:Gl X x)(hm:X.mg x=some u)(h:Q u s)
  (hd:(x == ("__debug__":Str))=false:=by decide):wpAny (model X.prog X.w) X.A (eval (.Name x pos) X.env) Q E s:=
 Calls.Name_function_global I.ok.kind hg (Calls.loadGlobal_global (by rw[I.ok.glob];exact I.mod.glob.keeps I.bk) hm h) hd
theorem nU {s:Shared}{H:Hp}(I:Inv X pins σ H s)(hg:Gl X x)(hm:X.mg x=none)(hv:bootBuiltins x=some u)(h:Q u s)
  (hn:x≠"__name__":=by decide) (hd:(x == ("__debug__":Str))=false:=by decide):wpAny (model X.prog X.w) X.A (eval (.Name x pos) X.env) Q E s:=by
 obtain⟨mb,h1,h2⟩:=I.mod.blt
 exact Calls.Name_function_global I.ok.kind hg (Calls.loadGlobal_builtin (by rw[I.ok.glob];exact I.mod.glob.keeps I.bk) hm (by rw[I.ok.blt];exact h1.keeps I.bk) ((h2 x hn).trans hv) h) hd
theorem zk {v:V}(hg:Gl X x)(hm:X.mg x=some u)(r:RelV v u)(hd:(x == ("__debug__":Str))=false:=by decide):PE X (.Name x pos) (tC v):=
 .mk λ_ _ _ H _ I h=>qh I hg hm ⟨v,H,I,r,h⟩ hd
theorem bO {v:V}(hg:Gl X x)(hm:X.mg x=none)(hv:bootBuiltins x=some u)(r:RelV v u)(hn:x≠"__name__":=by decide)(hd:(x == ("__debug__":Str))=false:=by decide):PE X (.Name x pos) (tC v):=
 .mk λ_ _ _ H _ I h=>nU I hg hm hv ⟨v,H,I,r,h⟩ hn hd
variable {a b:Expr}{ta tb:TE}{pos:Pos}
structure PC (X:Cx)(op:CmpOp)(a b:Expr)(t:TE):Prop where
 out:
  ∀(pins:List (Addr×Obj)) (s:Shared) (σ:St) (H:Hp) (Q:VK),Inv X pins σ H s->t σ H Q->
   wpAny (model X.prog X.w) X.A (eval a X.env) (λv s₁=>wpAny (model X.prog X.w) X.A (eval b X.env) (λu s₂=>wpAny (model X.prog X.w) X.A (compareOp op v u) (EP X pins σ Q) X.xe s₂) X.xe s₁) X.xe s
instance {X:Cx}{op:CmpOp}{a b:Expr}{t:TE}:CoeFun (PC X op a b t) λ_=>
 ∀(pins:List (Addr×Obj)) (s:Shared) (σ:St) (H:Hp) (Q:VK),Inv X pins σ H s->t σ H Q->
  wpAny (model X.prog X.w) X.A (eval a X.env) (λv s₁=>wpAny (model X.prog X.w) X.A (eval b X.env) (λu s₂=>wpAny (model X.prog X.w) X.A (compareOp op v u) (EP X pins σ Q) X.xe s₂) X.xe s₁) X.xe s:=⟨PC.out⟩
theorem CG (b:Expr){op:CmpOp}(h:op≠.In)(h2:op≠.NotIn):behindInMarks op b=false:=by
 have e1:(op == CmpOp.In)=false:=by cases op <;> first | rfl | exact absurd rfl h
 have e2:(op == CmpOp.NotIn)=false:=by cases op <;> first | rfl | exact absurd rfl h2
 cases b <;> simp[behindInMarks,e1,e2]
def tB (t:TE):TT:=λσ H Q=>t σ H λx H1=>∃c,x=.bl c/\Q c H1
theorem LO {op:CmpOp}{t:TE}(h:PC X op a b t)(h1:behindInMarks op b=false:=by first | exact CG _ (by decide) (by decide) | rfl):PT X (.Compare a [op] [b] pos) (tB t):=by
 refine⟨?_⟩
 intro pins s σ H Q I hw
 refine wpAny_isTrue_Compare1 (dq (h pins s σ H _ I hw) λv s1 h1=>dq h1 λu s2 h2=>dq h2 λc s3 ⟨x,H1,I1,r1,q1⟩=>?_) h1
 obtain⟨d,rfl,q⟩:=q1
 cases r1
 exact wpAny_truthy_bool ⟨H1,I1,q⟩
theorem LP {e:Expr}{t:TE}(h:PE X e t)(he:∀whole,isTrue e X.env whole=(do let v <-whole;standAt e.pos;holding [v] (truthy v)):=by intro _;rfl):PT X e (tB t):=by
 refine⟨?_⟩
 intro pins s σ H Q I hw
 refine isTrue_plain (dq (h pins s σ H _ I hw) λv s1 ⟨x,H1,I1,r1,q1⟩=>?_) (he _)
 obtain⟨d,rfl,q⟩:=q1
 cases r1
 exact wpAny_truthy_bool ⟨H1,I1,q⟩
variable {tA UD:TT}{rest:List Expr}
def LQ (t u:TT):TT:=λσ H Q=>t σ H λc H1=>if c=true then u σ H1 Q else Q false H1
def Wa (t u:TT):TT:=λσ H Q=>t σ H λc H1=>if c=true then Q true H1 else u σ H1 Q
def LR (t:TT):TT:=λσ H Q=>t σ H λc H1=>Q (!c) H1
theorem pw_and1 (ha:PT X a tA):PW X (.BoolOp .And [a] pos) tA:=by
 refine⟨?_⟩
 intro wh pins s σ H Q I h
 refine isTrue_and (dq (ha pins s σ H Q I h) λc s1 e=>?_)
 cases c with
 | true=>exact isTrue_and_nil e
 | false=>exact e
theorem pw_or1 (ha:PT X a tA):PW X (.BoolOp .Or [a] pos) tA:=by
 refine⟨?_⟩
 intro wh pins s σ H Q I h
 refine isTrue_or (dq (ha pins s σ H Q I h) λc s1 e=>?_)
 cases c with
 | false=>exact isTrue_or_nil e
 | true=>exact e
theorem pw_and (ha:PT X a tA)(hb:PW X (.BoolOp .And (b::rest) pos) UD):PW X (.BoolOp .And (a::b::rest) pos) (LQ tA UD):=by
 refine⟨?_⟩
 intro wh pins s σ H Q I h
 refine isTrue_and (dq (ha pins s σ H _ I h) λc s1 ⟨H1,I1,q1⟩=>?_)
 cases c with
 | true=>exact hb wh pins s1 σ H1 Q I1 q1
 | false=>exact⟨H1,I1,q1⟩
theorem pw_or (ha:PT X a tA)(hb:PW X (.BoolOp .Or (b::rest) pos) UD):PW X (.BoolOp .Or (a::b::rest) pos) (Wa tA UD):=by
 refine⟨?_⟩
 intro wh pins s σ H Q I h
 refine isTrue_or (dq (ha pins s σ H _ I h) λc s1 ⟨H1,I1,q1⟩=>?_)
 cases c with
 | true=>exact⟨H1,I1,q1⟩
 | false=>exact hb wh pins s1 σ H1 Q I1 q1
theorem bT (ha:PT X a tA):PT X (.UnaryOp .Not a pos) (LR tA):=by
 walk_at "xc"
 exact isTrue_not (ha pins s σ H (λc H1=>Q (!c) H1) I h)
def CH (ta tb:TE):TE:=λσ H Q=>ta σ H λx H1=>∃c,x=.bl c/\if c=true then tb σ H1 Q else Q (.bl false) H1
def LS (ta tb:TE):TE:=λσ H Q=>ta σ H λx H1=>∃c,x=.bl c/\if c=true then Q (.bl true) H1 else tb σ H1 Q
def CI (ta:TE):TE:=λσ H Q=>ta σ H λx H1=>∃c,x=.bl c/\Q (.bl (!c)) H1
theorem iR {op}{t:TE}(h:PE X a t):PE X (.BoolOp op [a] pos) t:=.mk λpins s σ H Q I hw=>BoolOp_one (h pins s σ H Q I hw)
theorem iS (ha:PE X a ta)(hb:PE X (.BoolOp .And (b::rest) pos) tb):PE X (.BoolOp .And (a::b::rest) pos) (CH ta tb):=by
 walk_at "xc"
 refine BoolOp_and (dq (ha pins s σ H _ I h) λv s1 ⟨x,H1,I1,r1,q1⟩=>?_)
 obtain⟨c,rfl,q1⟩:=q1
 cases r1
 refine wpAny_truthy_bool ?_
 cases c with
 | true=>exact hb pins s1 σ H1 Q I1 q1
 | false=>exact⟨.bl false,H1,I1,rfl,q1⟩
theorem Qc (ha:PE X a ta)(hb:PE X (.BoolOp .Or (b::rest) pos) tb):PE X (.BoolOp .Or (a::b::rest) pos) (LS ta tb):=by
 walk_at "xc"
 refine BoolOp_or (dq (ha pins s σ H _ I h) λv s1 ⟨x,H1,I1,r1,q1⟩=>?_)
 obtain⟨c,rfl,q1⟩:=q1
 cases r1
 refine wpAny_truthy_bool ?_
 cases c with
 | false=>exact hb pins s1 σ H1 Q I1 q1
 | true=>exact⟨.bl true,H1,I1,rfl,q1⟩
theorem xM (ha:PE X a ta):PE X (.UnaryOp .Not a pos) (CI ta):=by
 walk_at "xc"
 refine UnaryOp_ (dq (ha pins s σ H _ I h) λv s1 ⟨x,H1,I1,r1,q1⟩=>?_)
 obtain⟨c,rfl,q1⟩:=q1
 cases r1
 exact not_of (wpAny_truthy_bool ⟨.bl (!c),H1,I1,rfl,q1⟩)
def Wb (t:TT)(ta tb:TE):TE:=λσ H Q=>t σ H λc H1=>if c=true then ta σ H1 Q else tb σ H1 Q
theorem CJ {c:Expr}(hc:PT X c tA)(ha:PE X a ta)(hb:PE X b tb):PE X (.IfExp c a b pos) (Wb tA ta tb):=by
 walk_at "xc"
 refine wpAny_IfExp (dq (hc pins s σ H _ I h) λd s1 ⟨H1,I1,q1⟩=>?_)
 cases d with
 | true=>exact ha pins s1 σ H1 Q I1 q1
 | false=>exact hb pins s1 σ H1 Q I1 q1
end
end
section
variable {X:Cx}{e tg:Expr}{pins:List (Addr×Obj)}{i:Nat}{σ:St}{x:Str}{te:TE}{K:W.Frag}
def aP (K:W.Frag)(H:Hp)(a:Addr)(xs:List V):Prop:=
 Rd H a (.lst xs)\/
  ∃(o:Obj) (aO:Array Value) (n:Nat),K.lookup a=some o/\o.cls=.type "list"/\o.dict=none/\o.data=.seq aO n/\aO.size<=sizeLine/\Vals xs aO.toList
def bJ (K:W.Frag)(H:Hp)(a:Addr)(xs:List V):Prop:=
 Rd H a (.tup xs)\/
  ∃(o:Obj) (aO:Array Value) (n:Nat),K.lookup a=some o/\o.cls=.type "tuple"/\o.data=.seq aO n/\aO.size<=sizeLine/\Vals xs aO.toList
def Wc:Value->Option V
 | .none=>some .bR
 | .bool b=>some (.bl b)
 | .int i _=>some (.int i)
 | .str x _=>some (.str x)
 | .bytes b _=>some (.xy b)
 | .float b _=>some (.CA b)
 | .ref a=>some (.ref a)
 | .type n=>some (.ty n)
 | _=>none
theorem RelV.abs{x:V}{u:Value}(r:RelV x u):Wc u=some x:=by
 cases x with
 | bR=>cases r;rfl
 | bl _=>cases r;rfl
 | int _=>obtain⟨t,rfl⟩:=r;rfl
 | str _=>obtain⟨t,rfl⟩:=r;rfl
 | xy _=>obtain⟨t,rfl⟩:=r;rfl
 | CA _=>obtain⟨t,rfl⟩:=r;rfl
 | ref _=>cases r;rfl
 | ty _=>cases r;rfl
theorem RelV.inj{x y:V}{u:Value}(r:RelV x u)(q:RelV y u):x=y:=Option.some.inj (r.abs.symm.trans q.abs)
theorem Vals.inj:∀{xs ys:List V} {us:List Value},Vals xs us->Vals ys us->xs=ys
 | _,_,_,.nil,.nil=>rfl
 | _,_,_,.cons r t,.cons r' t'=>by rw[r.inj r',Vals.inj t t']
section
variable {X:Cx}{pins:List (Addr×Obj)}{σ:St}{H:Hp}{s:Shared}{a:Addr}{xs ys:List V}
theorem aP.of(h:H a=some (.lst xs)):aP K H a xs:=.inl (.inl h)
theorem bJ.of(h:H a=some (.tup xs)):bJ K H a xs:=.inl (.inl h)
theorem Inv.list(I:Inv X pins σ H s)(h:aP X.K H a xs):∃aO:List Value,Vals xs aO/\PlainL s.heap a aO.toArray/\xs.length<=sizeLine:=by
 rcases h with h | ⟨o,aO,n,hk,hc,hd,hs,hz,r⟩
 ·obtain⟨z,aO,n,r,e⟩:=h.ok I.bf
  exact⟨aO,r,⟨_,n,e,rfl,rfl,rfl⟩,z⟩
 ·refine⟨aO.toList,r,⟨o,n,I.jF a o hk,hc,hd,by simpa using hs⟩,?_⟩
  have e:=r.length
  simp only[Array.length_toList] at e
  omega
theorem Inv.tuple(I:Inv X pins σ H s)(h:bJ X.K H a xs):∃aO:List Value,Vals xs aO/\IsTup s.heap a aO.toArray/\xs.length<=sizeLine:=by
 rcases h with h | ⟨o,aO,n,hk,hc,hs,hz,r⟩
 ·obtain⟨z,aO,r,p⟩:=h.ok I.bf
  exact⟨aO,r,p,z⟩
 ·refine⟨aO.toList,r,⟨o,I.jF a o hk,hc,n,by simpa using hs⟩,?_⟩
  have e:=r.length
  simp only[Array.length_toList] at e
  omega
theorem Inv.vA(I:Inv X pins σ H s)(h:aP X.K H a xs)(h':aP X.K H a ys):xs=ys:=by
 obtain⟨aO,r,⟨o,n,e,_,_,d⟩,_⟩:=I.list h
 obtain⟨kb,r',⟨o',n',e',_,_,d'⟩,_⟩:=I.list h'
 rw[e] at e';cases e'
 rw[d] at d'
 injection d' with d1 _
 have:aO=kb:=by simpa using congrArg Array.toList d1
 subst this
 exact r.inj r'
theorem Inv.sY(I:Inv X pins σ H s)(h:bJ X.K H a xs)(h':bJ X.K H a ys):xs=ys:=by
 obtain⟨aO,r,⟨o,e,_,n,d⟩,_⟩:=I.tuple h
 obtain⟨kb,r',⟨o',e',_,n',d'⟩,_⟩:=I.tuple h'
 rw[e] at e';cases e'
 rw[d] at d'
 injection d' with d1 _
 have:aO=kb:=by simpa using congrArg Array.toList d1
 subst this
 exact r.inj r'
end
abbrev Cx.nV(X:Cx)(E:Value->Shared->Prop):Cx:={X with xe:=E}
abbrev Cx.xN(X:Cx):Cx:=X.nV λ_ _=>False
theorem Cx.Ok.nV(ok:X.Ok)(E:Value->Shared->Prop):(X.nV E).Ok:=
 ⟨ok.mod,ok.kind,ok.glob,ok.blt,ok.above,ok.inj,ok.has,ok.OB,ok.hd,ok.frames,ok.PZ,ok.UA,ok.bs,ok.Ce,ok.xK,ok.AY,ok.nS,ok.JS⟩
theorem Cx.Ok.g9{E:Value->Shared->Prop}(ok:(X.nV E).Ok):X.Ok:=
 ⟨ok.mod,ok.kind,ok.glob,ok.blt,ok.above,ok.inj,ok.has,ok.OB,ok.hd,ok.frames,ok.PZ,ok.UA,ok.bs,ok.Ce,ok.xK,ok.AY,ok.nS,ok.JS⟩
section
variable {X:Cx}{pins:List (Addr×Obj)}{σ:St}{H:Hp}{s:Shared}{E:Value->Shared->Prop}
theorem Inv.nV(I:Inv X pins σ H s)(E:Value->Shared->Prop):Inv (X.nV E) pins σ H s:=⟨I.ok.nV E,I.os,I.bare,I.base,I.loc,I.cell,I.free,I.j8,I.pin,I.bf,I.len⟩
theorem Inv.g9(I:Inv (X.nV E) pins σ H s):Inv X pins σ H s:=⟨I.ok.g9,I.os,I.bare,I.base,I.loc,I.cell,I.free,I.j8,I.pin,I.bf,I.len⟩
theorem SP.g9{D:Ends}{f:Flow}{s':Shared}(h:SP (X.nV E) pins D f s'):SP X pins D f s':=by
 cases f with
 | next=>obtain⟨σ',H',I,q⟩:=h;exact⟨σ',H',I.g9,q⟩
 | brk=>obtain⟨σ',H',I,q⟩:=h;exact⟨σ',H',I.g9,q⟩
 | cont=>obtain⟨σ',H',I,q⟩:=h;exact⟨σ',H',I.g9,q⟩
 | ret u=>obtain⟨v,σ',H',I,r,q⟩:=h;exact⟨v,σ',H',I.g9,r,q⟩
theorem PE.xN{t:TE}(h:PE X.xN e t):PE X e t:=.mk λpins s σ H Q I hw=>
 wpAny_mono (h pins s σ H Q (I.nV _) hw) (λ_ _ ⟨v,H',I',r,q⟩=>⟨v,H',I'.g9,r,q⟩) λ_ _ z=>False.elim z
theorem PT.xN{t:TT}(h:PT X.xN e t):PT X e t:=.mk λpins s σ H Q I hw=>
 wpAny_mono (h pins s σ H Q (I.nV _) hw) (λ_ _ ⟨H',I',q⟩=>⟨H',I'.g9,q⟩) λ_ _ z=>False.elim z
theorem uu.xN{st:List Stmt}{t:TS}(h:uu X.xN st t):uu X st t:=.mk λpins s σ H D I hw=>
 wpAny_mono (h pins s σ H D (I.nV _) hw) (λ_ _ q=>q.g9) λ_ _ z=>False.elim z
end
section
variable {X:Cx}{st:Stmt}{rest:List Stmt}{t u:TS}{e:Expr}{te:TE}{pos:Pos}
def CK:TS:=λD σ H=>D.nx σ H
def A7 (t u:TS):TS:=λD σ H=>t {D with nx:=u D} σ H
theorem aG:uu X [] CK:=.mk λ_ _ σ H _ I h=>wpAny_execs_nil ⟨σ,H,I,h⟩
theorem aj (h1:PS X st t)(h2:uu X rest u):uu X (st::rest) (A7 t u):=by
 walk_at "xd"
 refine wpAny_execs_cons (dq (h1 pins s σ H {D with nx:=u D} I h) λf s1 q=>?_)
 cases f with
 | next=>
  obtain⟨σ',H',I',q⟩:=q
  exact h2 pins s1 σ' H' D I' q
 | ret v=>exact q
 | brk=>exact q
 | cont=>exact q
theorem ao (h1:PS X st t):uu X [st] t:=by
 walk_at "xd"
 refine wpAny_execs_cons (dq (h1 pins s σ H D I h) λf s1 q=>?_)
 cases f with
 | next=>exact wpAny_execs_nil q
 | ret v=>exact q
 | brk=>exact q
 | cont=>exact q
theorem Inv.quiet{H:Hp}{s:Shared}(I:Inv X pins σ H s):interactive X.env=false:=by simp[interactive,I.ok.kind]
def zm (te:TE):TS:=λD σ H=>te σ H λ_ H1=>D.nx σ H1
theorem Hu (he:PE X e te)(hs:swapsWith e none pos.line X.env=pure false:=by rfl):PS X (.Expr e pos) (zm te):=by
 walk_at "xd"
 exact wpAny_Expr_any (dq (he pins s σ H _ I h) λv s1 ⟨x,H1,I1,r1,q1⟩=>⟨σ,H1,I1,q1⟩) I.quiet hs
def LU (te:TE):TS:=λD σ H=>te σ H D.rt
theorem aE (he:PE X e te):PS X (.Return (some e) pos) (LU te):=by
 walk_at "xd"
 exact wpAny_Return_some (dq (he pins s σ H _ I h) λv s1 ⟨x,H1,I1,r1,q1⟩=>⟨x,σ,H1,I1,r1,q1⟩)
def JX:TS:=λD _ H=>D.rt .bR H
def A8 (c:TT)(t u:TS):TS:=λD σ H=>c σ H λb H1=>if b=true then t D σ H1 else u D σ H1
theorem aS {c:Expr}{a b:List Stmt}{tc:TT}(hc:PT X c tc)(ha:uu X a t)(hb:uu X b u):PS X (.If c a b pos) (A8 tc t u):=by
 walk_at "xd"
 refine wpAny_If (dq (hc pins s σ H _ I h) λd s1 ⟨H1,I1,q1⟩=>?_)
 cases d with
 | true=>exact ha pins s1 σ H1 D I1 q1
 | false=>exact hb pins s1 σ H1 D I1 q1
def xO:TS:=λ_ _ _=>False
theorem dA:PS X st xO:=.mk λ_ _ _ _ _ _ h=>h.elim
end
abbrev TG:=V->St->Hp->(St->Hp->Prop)->Prop
abbrev JY:=List V->St->Hp->(St->Hp->Prop)->Prop
structure PG (X:Cx)(target:Expr)(t:TG):Prop where
 out:
  ∀(pins:List (Addr×Obj)) (s:Shared) (σ:St) (H:Hp) (v:V) (u:Value) (Q:St->Hp->Prop),Inv X pins σ H s->RelV v u->t v σ H Q->
   wpAny (model X.prog X.w) X.A (assign target X.env u) (λ_ s'=>∃σ' H',Inv X pins σ' H' s'/\Q σ' H') X.xe s
instance {X:Cx}{target:Expr}{t:TG}:CoeFun (PG X target t) λ_=>
 ∀(pins:List (Addr×Obj)) (s:Shared) (σ:St) (H:Hp) (v:V) (u:Value) (Q:St->Hp->Prop),Inv X pins σ H s->RelV v u->t v σ H Q->
  wpAny (model X.prog X.w) X.A (assign target X.env u) (λ_ s'=>∃σ' H',Inv X pins σ' H' s'/\Q σ' H') X.xe s:=⟨PG.out⟩
structure OC (X:Cx)(ts:List Expr)(t:JY):Prop where
 out:
  ∀(pins:List (Addr×Obj)) (s:Shared) (σ:St) (H:Hp) (vs:List V) (us:List Value) (Q:St->Hp->Prop),Inv X pins σ H s->Vals vs us->t vs σ H Q->
   wpAny (model X.prog X.w) X.A (assignInOrder ((assignEach ts X.env).map (·.2)) us) (λ_ s'=>∃σ' H',Inv X pins σ' H' s'/\Q σ' H') X.xe s
instance {X:Cx}{ts:List Expr}{t:JY}:CoeFun (OC X ts t) λ_=>
 ∀(pins:List (Addr×Obj)) (s:Shared) (σ:St) (H:Hp) (vs:List V) (us:List Value) (Q:St->Hp->Prop),Inv X pins σ H s->Vals vs us->t vs σ H Q->
  wpAny (model X.prog X.w) X.A (assignInOrder ((assignEach ts X.env).map (·.2)) us) (λ_ s'=>∃σ' H',Inv X pins σ' H' s'/\Q σ' H') X.xe s:=⟨OC.out⟩
abbrev LV:=V->V->V->Hp->(Hp->Prop)->Prop
def LW (X:Cx)(t:LV):Prop:=
 ∀(pins:List (Addr×Obj)) (s:Shared) (σ:St) (H:Hp) (o i v:V) (ov iv u:Value) (Q:Hp->Prop),Inv X pins σ H s->RelV o ov->RelV i iv->RelV v u->t o i v H Q->
  wpAny (model X.prog X.w) X.A (setItem ov iv u) (λ_ s'=>∃H',Inv X pins σ H' s'/\Q H') X.xe s
abbrev UE:=V->V->Hp->VK->Prop
def PIp (X:Cx)(op:Operator)(t:UE):Prop:=
 ∀(pins:List (Addr×Obj)) (s:Shared) (σ:St) (H:Hp) (x y:V) (v u:Value) (Q:VK),Inv X pins σ H s->RelV x v->RelV y u->t x y H Q->
  wpAny (model X.prog X.w) X.A (inplaceOp op v u) (EP X pins σ Q) X.xe s
section
variable {X:Cx}{pos:Pos}
def gR (i:Nat):TG:=λv σ H Q=>Q (σ.set i (some v)) H
theorem aU (hN:X.N.Nodup)(hi:X.N[i]?=some x)(hx:Loc X.env.scope x)(hf:X.fn x=true\/X.env.scope.names.lookup x=some .local:=by first | exact .inl rfl | exact .inr rfl | assumption):PG X (.Name x pos) (gR i):=by
 refine⟨?_⟩
 intro pins s σ H v u Q I r h
 exact wpAny_assign_Name (mY I hN hi hx r (λs' I'=>⟨_,H,I',h⟩) hf)
def Hv:JY:=λvs σ H Q=>vs=[]/\Q σ H
def pI (t:TG)(u:JY):JY:=λvs σ H Q=>∃v r,vs=v::r/\t v σ H λσ' H'=>u r σ' H' Q
theorem zo:OC X [] Hv:=by
 refine⟨?_⟩
 intro pins s σ H vs us Q I r h
 obtain⟨e,h⟩:=h
 subst e
 cases r
 exact assignInOrder_nil ⟨σ,H,I,h⟩
theorem kd {es:List Expr}{t:TG}{u:JY}(h1:PG X e t)(h2:OC X es u)
  (hs:(assignEach (e::es) X.env).map (·.2)=assign e X.env::(assignEach es X.env).map (·.2):=by rfl):OC X (e::es) (pI t u):=by
 refine⟨?_⟩
 intro pins s σ H vs us Q I r h
 obtain⟨v,vr,e1,h⟩:=h
 subst e1
 cases r with
 | cons r rr=>
  rw[hs]
  refine assignInOrder_cons (dq (h1 pins s σ H _ _ _ I r h) λ_ s1 ⟨σ1,H1,I1,q1⟩=>?_)
  exact h2 pins s1 σ1 H1 _ _ Q I1 rr q1
def Hw (K:W.Frag)(n:Nat)(t:JY):TG:=λv σ H Q=>∃a xs,v=.ref a/\bJ K H a xs/\xs.length=n/\t xs σ H Q
theorem CL {es:List Expr}{k:Nat}{t:JY}{n:Nat}(hc:X.calm=true)(h:OC X es t)
  (hn:(assignEach es X.env).length=n:=by rfl) (qA:(assignEach es X.env).findIdx? (·.1)=none:=by rfl):PG X (.Tuple es k pos) (Hw X.K n t):=by
 refine⟨?_⟩
 intro pins s σ H v u Q I r hw
 obtain⟨a,xs,e1,hq,hl,hw⟩:=hw
 subst e1
 cases r
 obtain⟨aO,rv,ht,hz⟩:=I.tuple hq
 refine assign_Tuple_tuple (I.ok.hd hc) ht (by simp[hn,<-hl,rv.length]) qA λh' hx=>?_
 have I1:Inv X pins σ H {s with heap:=h'}:=I.kept (t':=s.toks) λb o e=>hx b o (Nat.ne_of_lt (Heap.lt_size e)) e
 exact h pins _ σ H xs _ Q I1 (by simpa using rv) hw
def LX (to ti:TE)(t:LV):TG:=λv σ H Q=>to σ H λo H1=>ti σ H1 λi H2=>t o i v H2 λH3=>Q σ H3
theorem iT {o i:Expr}{to ti:TE}{t:LV}(ho:PE X o to)(hi:PE X i ti)(hs:LW X t)
  (ha:∀v,assign (.Subscript o i pos) X.env v=(do
   let ov <-holding [v] (eval o X.env)
   let iv <-holding [v,ov] (eval i X.env)
   standAt pos
   holding [v,ov,iv] (setItem ov iv v)
   release [v,ov,iv] []):=by intro _;rfl):PG X (.Subscript o i pos) (LX to ti t):=by
 refine⟨?_⟩
 intro pins s σ H v u Q I r h
 rw[ha]
 refine wpAny_bind (wpAny_holding (dq (ho pins s σ H _ I h) λov s1 ⟨x,H1,I1,r1,q1⟩=>?_))
 refine wpAny_bind (wpAny_holding (dq (hi pins s1 σ H1 _ I1 q1) λiv s2 ⟨y,H2,I2,r2,q2⟩=>?_))
 refine wpAny_bind (wpAny_standAt (wpAny_bind (wpAny_holding (dq (hs pins s2 σ H2 x y v ov iv u _ I2 r1 r2 r q2) λ_ s3 ⟨H3,I3,q3⟩=>?_))))
 exact wpAny_release ⟨σ,H3,I3,q3⟩
def A9 (te:TE)(g:TG):TS:=λD σ H=>te σ H λx H1=>g x σ H1 D.nx
theorem fA {g:TG}(he:PE X e te)(hg:PG X tg g)(hs:swapsWithSole [tg] e pos.line X.env=pure false:=by rfl)(hw:swappedStores [tg] e X.env=pure none:=by rfl)
  (h1:(assignEach [tg] X.env).map (·.2)=[assign tg X.env]:=by rfl):PS X (.Assign [tg] e pos) (A9 te g):=by
 walk_at "xd"
 refine wpAny_Assign_stores (dq (he pins s σ H _ I h) λv s1 ⟨x,H1,I1,r1,q1⟩=>?_) hs hw
 rw[h1]
 exact dq (hg pins s1 σ H1 x v _ I1 r1 q1) λ_ s2 q=>q
theorem CM {pos':Pos}(hN:X.N.Nodup)(hi:X.N[i]?=some x)(hx:Loc X.env.scope x)(he:PE X e te)(hs:swapsWith e (some (.Name x pos')) pos.line X.env=pure false:=by rfl)(hf:X.fn x=true\/X.env.scope.names.lookup x=some .local:=by first | exact .inl rfl | exact .inr rfl | assumption):
  PS X (.Assign [.Name x pos'] e pos) (A9 te (gR i)):=by
 walk_at "xd"
 refine wpAny_Assign_Name (dq (he pins s σ H _ I h) λv s1 ⟨y,H1,I1,r1,q1⟩=>?_) hs
 exact mY I1 hN hi hx r1 (λs2 I2=>⟨_,H1,I2,q1⟩) hf
def LY (i:Nat)(te:TE)(ti:UE):TS:=λD σ H=>∃x,σ[i]?=some (some x)/\te σ H λy H1=>ti x y H1 λz H2=>D.nx (σ.set i (some z)) H2
theorem LZ {op:Operator}{ti:UE}{pos':Pos}(hN:X.N.Nodup)(hi:X.N[i]?=some x)(hx:Loc X.env.scope x)(he:PE X e te)(ho:PIp X op ti)(hf:X.fn x=true\/X.env.scope.names.lookup x=some .local:=by first | exact .inl rfl | exact .inr rfl | assumption):
  PS X (.AugAssign (.Name x pos') op e pos) (LY i te ti):=by
 walk_at "xd"
 obtain⟨v,e1,h⟩:=h
 obtain⟨m,hn,hl⟩:=I.loc
 have vis:PY X.env.scope x:=by rcases hx with k | k;exact .inl k;exact .inr (.inl k)
 obtain⟨u,r,l⟩:=hl i x v hi e1 vis
 refine wpAny_AugAssign_Name ?_
 have go:wpAny (model X.prog X.w) X.A (eval e X.env) (λw s₂=>wpAny (model X.prog X.w) X.A (inplaceOp op u w) (λr s₃=>wpAny (model X.prog X.w) X.A (storeName X.env x r) (λ_=>SP X pins D .next) X.xe s₃) X.xe s₂) X.xe s:=by
  refine dq (he pins s σ H _ I h) λw s1 ⟨y,H1,I1,r1,q1⟩=>?_
  refine dq (ho pins s1 σ H1 v y u w _ I1 r r1 q1) λz s2 ⟨zv,H2,I2,r2,q2⟩=>?_
  exact mY I2 hN hi hx r2 (λs3 I3=>⟨_,H2,I3,q2⟩) hf
 rcases l with⟨hk,hm⟩ | ⟨hk,c,hc,zj⟩
 ·exact wpAny_loadName_local I.ok.kind hk hn hm go
 ·rcases hk with hk | hk
  ·exact wpAny_loadName_cell I.ok.kind hk hc zj go
  ·rcases hx with k | k
   ·have:X.env.scope.names.lookup x=some .free:=hk
    rw[k] at this;cases this
   ·have:X.env.scope.names.lookup x=some .free:=hk
    rw[k] at this;cases this
def Wd (f:Int->Int->Int):UE:=λx y H Q=>∃i j,x=.int i/\y=.int j/\Q (.int (f i j)) H
theorem L0:PIp X .Add (Wd λi j=>i + j):=by
 intro pins s σ H x y v u Q I r1 r2 h
 obtain⟨i,j,e1,e2,q⟩:=h
 subst e1;subst e2
 obtain⟨t,rfl⟩:=r1
 obtain⟨t',rfl⟩:=r2
 exact iadd_int ⟨.int _,H,I.tok _,⟨_,rfl⟩,q⟩
end
section
variable {X:Cx}{pos:Pos}
def uv (c:TT)(tb:TS):TS:=λD σ H=>∃W:Nat->St->Hp->Prop,(∃m,W m σ H)/\∀m σ H,W m σ H->
 c σ H λb H1=>if b=true then ∃N:St->Hp->Prop,(∀σ' H',N σ' H'->∃m',m' < m/\W m' σ' H')/\tb {D with nx:=N,ct:=N,bk:=D.nx} σ H1 else D.nx σ H1
theorem CP {c:Expr}{body:List Stmt}{tc:TT}{tb:TS}(hp:PassesOwn (model X.prog X.w) X.A X.env X.xe)(hc:PT X c tc)(hb:uu X body tb):PS X (.While c body [] pos) (uv tc tb):=by
 walk_at "xd"
 obtain⟨W,⟨m0,w0⟩,turn⟩:=h
 refine wpAny_While (codeAny_whileLoop (λn s'=>∃σ' H',Inv X pins σ' H' s'/\W n σ' H') ?_ m0 ⟨σ,H,I,w0⟩)
 rintro n s1 ⟨σ1,H1,I1,w1⟩
 refine wpAny_passesOwn hp (dq (hc pins s1 σ1 H1 _ I1 (turn n σ1 H1 w1)) λb s2 ⟨H2,I2,q2⟩=>?_)
 cases b with
 | true=>
  obtain⟨N,hN,q2⟩:=q2
  rw[if_pos rfl]
  refine wpAny_passesOwn hp (dq (hb pins s2 σ1 H2 _ I2 q2) λf s3 q3=>?_)
  cases f with
  | next=>
   obtain⟨σ3,H3,I3,n3⟩:=q3
   obtain⟨m',hm,w3⟩:=hN σ3 H3 n3
   exact⟨m',hm,σ3,H3,I3,w3⟩
  | cont=>
   obtain⟨σ3,H3,I3,n3⟩:=q3
   obtain⟨m',hm,w3⟩:=hN σ3 H3 n3
   exact⟨m',hm,σ3,H3,I3,w3⟩
  | brk=>exact q3
  | ret v=>exact q3
 | false=>
  rw[if_neg Bool.false_ne_true]
  exact wpAny_execs_nil ⟨σ1,H2,I2,q2⟩
end
structure It where
 go:Nat->Hp->Prop
 Hx:Nat->Hp->V->Hp->Prop
 stop:Nat->Hp->Prop
def nW (X:Cx)(pins:List (Addr×Obj))(H:Hp)(b:Addr):Prop:=
 H b=none/\b≠X.env.locals/\b ∉ X.fs/\(b ∈ X.ex\/X.s₀.heap.objs.size<=b)/\(∀x c,X.env.cells.lookup x=some c->c≠b)/\∀p ∈ X.pn++pins,p.1≠b
theorem Inv.CQ{H H':Hp}{s:Shared}{b:Addr}(I:Inv X pins σ H s)(hb:s.heap.objs.size<=b)(hn:H' b=none):nW X pins H' b:=by
 refine⟨hn,Nat.ne_of_gt (Nat.lt_of_lt_of_le I.lt hb),I.LM hb,.inr (Nat.le_trans I.sz hb),λx c e z=>?_,λp hp z=>?_⟩
 ·obtain⟨v,q⟩:=I.cell x c e
  exact absurd (Nat.lt_of_lt_of_le q.lt (by rw[z];exact hb)) (Nat.lt_irrefl _)
 ·exact absurd (Nat.lt_of_lt_of_le (Heap.lt_size (I.pin p hp).1) (by rw[z];exact hb)) (Nat.lt_irrefl _)
structure Turn (P:Program)(w:World)(K:W.Frag)(tg:Expr)(J:It)(fp:List Addr)(it:Addr)(tn:Nat->Heap->Prop):Prop where
 mem:it ∈ fp
 obj:∀i h,tn i h->∀b ∈ fp,∃o,h.get? b=some o/\∀v,o.data≠.cell v
 keep:∀i h h',tn i h->(∀b ∈ fp,∀o,h.get? b=some o->h'.get? b=some o)->tn i h'
 item:∀(X:Cx),X.prog=P->X.w=w->X.K=K->X.calm=true->∀(i:Nat) (pins:List (Addr×Obj)) (s:Shared) (σ:St) (H:Hp) (E:Value->Shared->Prop),Inv X pins σ H s->(∀b ∈ fp,nW X pins H b)->tn i s.heap->J.go i H->
  wpAny (model P w) X.A (pyNext (.ref it)) (λr s1=>∃u,r=some u/\
   wpAny (model P w) X.A (letOwnedTupleGo tg (.ref it) u) (λ_ s2=>∃x H',Inv X pins σ H' s2/\RelV x u/\J.Hx i H x H'/\tn (i + 1) s2.heap/\∀b ∈ fp,H' b=none) E s1) E s
 done:∀(X:Cx),X.prog=P->X.w=w->X.K=K->X.calm=true->∀(i:Nat) (pins:List (Addr×Obj)) (s:Shared) (σ:St) (H:Hp) (E:Value->Shared->Prop),Inv X pins σ H s->(∀b ∈ fp,nW X pins H b)->tn i s.heap->J.stop i H->
  wpAny (model P w) X.A (pyNext (.ref it)) (λr s1=>r=none/\Inv X pins σ H s1) E s
 self:∀(A:Around) (i:Nat) (s:Shared) (Q:Value->Shared->Prop) (E:Value->Shared->Prop),tn i s.heap->Q (.ref it) s->wpAny (model P w) A (pyIter (.ref it)) Q E s
abbrev TI:=St->Hp->(It->Hp->Prop)->Prop
def We (X:Cx)(pins:List (Addr×Obj))(σ:St)(tg:Expr)(R:It->Hp->Prop)(UG:Value)(s2:Shared):Prop:=
 ∃(it:Addr) (fp:List Addr) (tn:Nat->Heap->Prop) (J:It) (H':Hp),UG=.ref it/\Inv X pins σ H' s2/\Turn X.prog X.w X.K tg J fp it tn/\tn 0 s2.heap/\(∀b ∈ fp,nW X pins H' b)/\R J H'
structure PI (X:Cx)(tg iter:Expr)(wi:TI):Prop where
 out:
  ∀(pins:List (Addr×Obj)) (s:Shared) (σ:St) (H:Hp) (R:It->Hp->Prop),Inv X pins σ H s->wi σ H R->
   wpAny (model X.prog X.w) X.A (eval iter X.env) (λv s1=>wpAny (model X.prog X.w) X.A (pyIter v) (We X pins σ tg R) X.xe s1) X.xe s
instance {X:Cx}{tg iter:Expr}{wi:TI}:CoeFun (PI X tg iter wi) λ_=>
 ∀(pins:List (Addr×Obj)) (s:Shared) (σ:St) (H:Hp) (R:It->Hp->Prop),Inv X pins σ H s->wi σ H R->
  wpAny (model X.prog X.w) X.A (eval iter X.env) (λv s1=>wpAny (model X.prog X.w) X.A (pyIter v) (We X pins σ tg R) X.xe s1) X.xe s:=⟨PI.out⟩
theorem CS {M:Model}{A:Around}{E:Value->Shared->Prop}{s:Shared}{tg:Expr}{it:Addr}{u:Value}{o:Obj}{n:String}{vs:Array Value}{Q:Unit->Shared->Prop}(ho:s.heap.get? it=some o)(hc:o.cls=.type n)(hd:o.data=.fields vs)
    (hn:["enumerate","zip","dict_itemiterator","dict_reverseitemiterator","odict_iterator","itertools.zip_longest","itertools.pairwise"].contains n=false) (hQ:Q () s):wpAny M A (letOwnedTupleGo tg (.ref it) u) Q E s:=by
  unfold letOwnedTupleGo
  cases tg <;> first
    | exact wpAny_pure hQ
    | (cases u <;> first
        | exact wpAny_pure hQ
        | (refine wpAny_bind (wpAny_load ho ?_)
           rw[hc,hd]
           show wpAny M A (if (["enumerate","zip","dict_itemiterator","dict_reverseitemiterator","odict_iterator","itertools.zip_longest","itertools.pairwise"].contains n && vs[0]? == some (rawInt _))=true then _ else _) Q E s
           rw[if_neg (by intro h;rw[hn,Bool.false_and] at h;cases h)]
           exact wpAny_pure hQ))
def qB (K:W.Frag)(a:Addr):It:=
 ⟨λi H=>∃xs x,aP K H a xs/\xs[i]?=some x,λi H x H'=>H'=H/\∀xs,aP K H a xs->xs[i]?=some x,λi H=>∃xs,aP K H a xs/\xs.length<=i⟩
def Hy (K:W.Frag)(a:Addr):It:=
 ⟨λi H=>∃xs x,bJ K H a xs/\xs[i]?=some x,λi H x H'=>H'=H/\∀xs,bJ K H a xs->xs[i]?=some x,λi H=>∃xs,bJ K H a xs/\xs.length<=i⟩
def xP (lo:Int)(n:Nat):It:=⟨λi _=>i < n,λi H x H'=>H'=H/\x=.int (lo + i),λi _=>n<=i⟩
theorem Ba {P:Program}{w:World}(a it:Addr):Turn P w K tg (qB K a) [it] it (λi h=>h.IsListIter it a i) where
 mem:=by simp
 obj:=λi h st b hb=>by
  have e:b=it:=by simpa using hb
  subst e
  obtain⟨o,e,c,d⟩:=st
  exact⟨o,e,λv z=>by rw[d] at z;cases z⟩
 keep:=λi h h' st k=>st.at λo e=>k it (by simp) o e
 item:=by
  intro X hP hw hK hc i pins s σ H E I hf st hg
  subst hP hw hK
  obtain⟨xs,x,hq,hx⟩:=hg
  obtain⟨aO,rv,p,hz⟩:=I.list hq
  obtain⟨u,hu,ru⟩:=rv.get hx
  obtain⟨f0,f1,f2,f3,f4,f5⟩:=hf it (by simp)
  refine wpAny_pyNext_list_item st p.isList (x:=u) (by simpa using hu) λh' CT sb=>?_
  have I1:Inv X pins σ H {s with heap:=h'}:=I.turned (t':=s.toks) (λb o hb e=>(sb.2 b hb).trans e) f0 f1 f3 f4 f5
  obtain⟨o,e,c,d⟩:=id CT
  exact⟨u,rfl,CS (s:={s with heap:=h'}) e c d (by decide) ⟨x,H,I1,ru,⟨rfl,λys hy=>by rw[I.vA hy hq];exact hx⟩,CT,λb hb=>(hf b hb).1⟩⟩
 done:=by
  intro X hP hw hK hc i pins s σ H E I hf st hg
  subst hP hw hK
  obtain⟨xs,hq,hx⟩:=hg
  obtain⟨aO,rv,p,hz⟩:=I.list hq
  obtain⟨f0,f1,f2,f3,f4,f5⟩:=hf it (by simp)
  have hl:=rv.length
  exact wpAny_pyNext_list_end (I.ok.hd hc) st p.isList (by simp;omega) λh' eb=>⟨rfl,I.turned (t':=s.toks) (λb o hb e=>eb b o hb e) f0 f1 f3 f4 f5⟩
 self:=λ_ _ _ _ _ st h=>wpAny_pyIter_listiter st h
theorem xQ {P:Program}{w:World}(a it:Addr):Turn P w K tg (Hy K a) [it] it (λi h=>h.IsTupleIter it a i) where
 mem:=by simp
 obj:=λi h st b hb=>by
  have e:b=it:=by simpa using hb
  subst e
  obtain⟨o,e,c,d⟩:=st
  exact⟨o,e,λv z=>by rw[d] at z;cases z⟩
 keep:=λi h h' st k=>st.at λo e=>k it (by simp) o e
 item:=by
  intro X hP hw hK hc i pins s σ H E I hf st hg
  subst hP hw hK
  obtain⟨xs,x,hq,hx⟩:=hg
  obtain⟨aO,rv,p,hz⟩:=I.tuple hq
  obtain⟨u,hu,ru⟩:=rv.get hx
  obtain⟨f0,f1,f2,f3,f4,f5⟩:=hf it (by simp)
  refine wpAny_pyNext_tuple_item st (show s.heap.IsTuple a aO.toArray from p) (x:=u) (by simpa using hu) λh' CT sb=>?_
  have I1:Inv X pins σ H {s with heap:=h'}:=I.turned (t':=s.toks) (λb o hb e=>(sb.2 b hb).trans e) f0 f1 f3 f4 f5
  obtain⟨o,e,c,d⟩:=id CT
  exact⟨u,rfl,CS (s:={s with heap:=h'}) e c d (by decide) ⟨x,H,I1,ru,⟨rfl,λys hy=>by rw[I.sY hy hq];exact hx⟩,CT,λb hb=>(hf b hb).1⟩⟩
 done:=by
  intro X hP hw hK hc i pins s σ H E I hf st hg
  subst hP hw hK
  obtain⟨xs,hq,hx⟩:=hg
  obtain⟨aO,rv,p,hz⟩:=I.tuple hq
  obtain⟨f0,f1,f2,f3,f4,f5⟩:=hf it (by simp)
  have hl:=rv.length
  exact wpAny_pyNext_tuple_end (I.ok.hd hc) st (show s.heap.IsTuple a aO.toArray from p) (by simp;omega) λh' eb=>⟨rfl,I.turned (t':=s.toks) (λb o hb e=>eb b o hb e) f0 f1 f3 f4 f5⟩
 self:=λ_ _ _ _ _ st h=>wpAny_pyIter_tupleiter st h
theorem xR {P:Program}{w:World}(it:Addr)(lo:Int)(n:Nat):Turn P w K tg (xP lo n) [it] it (λi h=>IsRangeIter h it (lo + (i:Nat) * 1) ((n:Int) - (i:Nat)) 1) where
 mem:=by simp
 obj:=λi h st b hb=>by
  have e:b=it:=by simpa using hb
  subst e
  exact⟨_,st,λv z=>by
   have z':Data.fields _=Data.cell v:=z
   cases z'⟩
 keep:=λi h h' st k=>k it (by simp) _ st
 item:=by
  intro X hP hw hK hc i pins s σ H E I hf st hg
  subst hP hw hK
  obtain⟨f0,f1,f2,f3,f4,f5⟩:=hf it (by simp)
  have W:=Walks.range (prog:=X.prog) (w:=X.w) (I.ok.hd hc) it lo 1 n
  refine W.item i s _ _ hg st λv h' tk hv CT kk=>?_
  obtain⟨t,rfl⟩:=hv
  have I1:Inv X pins σ H {s with heap:=h',toks:=tk}:=I.turned (λb o hb e=>kk b o (by simpa using hb) e) f0 f1 f3 f4 f5
  refine⟨_,rfl,CS (s:={s with heap:=h',toks:=tk}) (n:="range_iterator") CT rfl rfl (by decide) ⟨.int (lo + i),H,I1,⟨t,?_⟩,⟨rfl,rfl⟩,CT,λb hb=>(hf b hb).1⟩⟩
  rw[Int.mul_one]
 done:=by
  intro X hP hw hK hc i pins s σ H E I hf st hg
  subst hP hw hK
  obtain⟨f0,f1,f2,f3,f4,f5⟩:=hf it (by simp)
  exact wpAny_pyNext_range_end (I.ok.hd hc) st (by have:n<=i:=hg;omega) λh' eb=>⟨rfl,I.turned (t':=s.toks) (λb o hb e=>eb b o hb e) f0 f1 f3 f4 f5⟩
 self:=λ_ _ _ _ _ st h=>wpAny_pyIter_rangeiter st h
end
section
variable {D:Ends}{H:Hp}{pins:List (Addr×Obj)}{s:Shared}{σ:St}{g:TG}{tb:TS}
section
variable {X:Cx}{tg:Expr}
theorem CU {R:It->Hp->Prop}{E:Value->Shared->Prop}{lo hi:Int}{t u v:Tok}{tk:Nat}(I:Inv X pins σ H s)(h1:-(2 ^ 62)<=lo)(h2:lo < 2 ^ 62)(h3:-(2 ^ 62)<=hi)(h4:hi < 2 ^ 62)
  (q:R (xP lo (hi - lo).toNat) H):wpAny (model X.prog X.w) X.A (pyIter (.ref s.heap.objs.size)) (We X pins σ tg R) E {s with heap:=s.heap.push {cls:=.type "range",data:=.fields #[.int lo t,.int hi u,.int 1 v]},toks:=tk}:=by
 refine wpAny_pyIter_range (IsRange.new ..) (small_one h1 h2 h3 h4) ?_
 have I1:Inv X pins σ H {s with heap:=s.heap.push {cls:=.type "range",data:=.fields #[.int lo t,.int hi u,.int 1 v]},toks:=tk}:=I.kept λb o e=>Heap.get?_push_of_some _ e
 refine⟨(s.heap.push {cls:=.type "range",data:=.fields #[.int lo t,.int hi u,.int 1 v]}).objs.size,[(s.heap.push {cls:=.type "range",data:=.fields #[.int lo t,.int hi u,.int 1 v]}).objs.size],_,_,H,rfl,
  I1.kept (t':=tk) λb o e=>Heap.get?_push_of_some _ e,xR _ lo (hi - lo).toNat,?_,λb hb=>?_,q⟩
 ·have e1:lo + ((0:Nat):Int) * 1=lo:=by simp
  have e2:(((hi - lo).toNat:Nat):Int) - ((0:Nat):Int)=Builtin.Range.rangeSize lo hi 1:=by rw[rangeSize_one];split <;> omega
  show IsRangeIter _ _ (lo + ((0:Nat):Int) * 1) ((((hi - lo).toNat:Nat):Int) - ((0:Nat):Int)) 1
  rw[e1,e2]
  exact Heap.get?_push_size _ rfl
 ·have e:b=(s.heap.push {cls:=.type "range",data:=.fields #[.int lo t,.int hi u,.int 1 v]}).objs.size:=by simpa using hb
  subst e
  exact I1.CQ (Nat.le_refl _) (I1.bf.fresh (Nat.le_refl _))
def CV (ta:TA):TI:=λσ H R=>ta σ H λvs H1=>∃j:Int,vs=[.int j]/\-(2 ^ 62)<=j/\j < 2 ^ 62/\R (xP 0 j.toNat) H1
def JZ (ta:TA):TI:=λσ H R=>ta σ H λvs H1=>∃i j:Int,vs=[.int i,.int j]/\(-(2 ^ 62)<=i/\i < 2 ^ 62/\-(2 ^ 62)<=j/\j < 2 ^ 62)/\R (xP i (j - i).toNat) H1
theorem cY {a:Expr}{ta:TA}{p pos:Pos}(hg:Gl X "range")(hm:X.mg "range"=none)(ha:PA X [a] ta)(hs:starEach [a] X.env=[(false,eval a X.env)]:=by rfl):PI X tg (.Call (.Name "range" p) [a] [] pos) (CV ta):=by
 refine⟨?_⟩
 intro pins s σ H R I h
 refine Call_ (nU I hg hm boot_range (PyProof.Rows.callWith_type1 (dq (ha pos pins s σ H _ I h) λus s1 ⟨vs,H1,I1,r1,q1⟩=>?_) hs rfl))
 obtain⟨j,e,q1,q2,q⟩:=q1
 subst e
 cases r1 with
 | cons r rr=>
  cases rr
  obtain⟨t,rfl⟩:=r
  exact call_range_1 (CU I1 (by omega) (by omega) q1 q2 (by simpa using q))
def L3 (wi:TI)(g:TG)(tb:TS):TS:=λD σ H=>wi σ H λJ H1=>∃W:Nat->Nat->St->Hp->Prop,(∃m,W 0 m σ H1)/\∀i m σ H,W i m σ H->
 (J.stop i H/\D.nx σ H)\/(J.go i H/\∃N:St->Hp->Prop,(∀σ' H',N σ' H'->∃m',m' < m/\W (i + 1) m' σ' H')/\∀x H',J.Hx i H x H'->g x σ H' λσ2 H2=>tb {D with nx:=N,ct:=N,bk:=D.nx} σ2 H2)
def nX (fp:List Addr)(h:Heap):List (Addr×Obj):=fp.filterMap λb=>(h.get? b).map λo=>(b,o)
theorem jG {fp:List Addr}{h:Heap}{b:Addr}{o:Obj}(hb:b ∈ fp)(e:h.get? b=some o):(b,o) ∈ nX fp h:=List.mem_filterMap.mpr ⟨b,hb,by rw[e];rfl⟩
theorem Bb {fp:List Addr}{h:Heap}{p:Addr×Obj}(hp:p ∈ nX fp h):p.1 ∈ fp/\h.get? p.1=some p.2:=by
 obtain⟨b,hb,e⟩:=List.mem_filterMap.mp hp
 cases q:h.get? b with
 | none=>rw[q] at e;cases e
 | some o=>
  rw[q] at e
  have e':(b,o)=p:=Option.some.inj e
  subst e'
  exact⟨hb,q⟩
theorem Inv.pinned{fp:List Addr}(I:Inv X pins σ H s)(hf:∀b ∈ fp,nW X pins H b)(ho:∀b ∈ fp,∃o,s.heap.get? b=some o/\∀v,o.data≠.cell v):Inv X (pins++nX fp s.heap) σ H s:=
 I.ur λp hp=>(List.mem_append.mp hp).elim (λz=>I.pin p (List.mem_append_right _ z)) λz=>by
  obtain⟨hb,e⟩:=Bb z
  obtain⟨f0,f1,f2,_⟩:=hf p.1 hb
  obtain⟨o,e',d⟩:=ho p.1 hb
  rw[e] at e';cases e'
  exact⟨e,f0,f1,f2,d⟩
theorem Inv.ke{pl:List (Addr×Obj)}(I:Inv X (pins++pl) σ H s):Inv X pins σ H s:=I.ur λp hp=>I.pin p (List.mem_append_right _ (List.mem_append_left _ hp))
theorem eZ {iter:Expr}{body:List Stmt}{wi:TI}{pos:Pos}(hp:PassesOwn (model X.prog X.w) X.A X.env X.xe)(hc:X.calm=true)(hi:PI X tg iter wi)(hg:PG X tg g)(hb:uu X body tb)
  (hs:∀x,foldedSetIterable iter X.env x=pure x:=by intro _;rfl):PS X (.For tg iter body [] pos) (L3 wi g tb):=by
 walk_at "xd"
 refine wpAny_For (dq (hi pins s σ H _ I h) λv s1 h1=>dq h1 λUG s2 h2=>?_) hs
 obtain⟨it,fp,tn,J,H2,e,I2,T,zp,f2,W,⟨m0,w0⟩,turn⟩:=h2
 subst e
 have xS:∀{H':Hp},(∀b ∈ fp,H' b=none)->∀b ∈ fp,nW X pins H' b:=λhn b hb=>⟨hn b hb,(f2 b hb).2⟩
 refine codeAny_forLoop_any (λn s'=>∃i σ' H',Inv X pins σ' H' s'/\tn i s'.heap/\(∀b ∈ fp,H' b=none)/\W i n σ' H') ?_ m0 ⟨0,σ,H2,I2,zp,λb hb=>(f2 b hb).1,w0⟩
 rintro n s3 ⟨i,σ3,H3,I3,nO,Qd,w3⟩
 rcases turn i n σ3 H3 w3 with⟨stop,qn⟩ | ⟨go,N,hN,step⟩
 ·refine wpAny_passesOwn hp (dq (T.done X rfl rfl rfl hc i pins s3 σ3 H3 X.xe I3 (xS Qd) nO stop) λr s4 ⟨hr,I4⟩=>?_)
  subst hr
  exact wpAny_execs_nil ⟨σ3,H3,I4,qn⟩
 ·refine wpAny_passesOwn hp (dq (T.item X rfl rfl rfl hc i pins s3 σ3 H3 X.xe I3 (xS Qd) nO go) λr s4 ⟨u,hr,h4⟩=>?_)
  subst hr
  refine wpAny_passesOwn hp (dq h4 λ_ s5 ⟨x,H5,I5,r5,y5,lI,Wf⟩=>?_)
  have Wg:=I5.pinned (xS Wf) (T.obj _ _ lI)
  refine wpAny_passesOwn hp (dq (hg _ s5 σ3 H5 x u _ Wg r5 (step x H5 y5)) λ_ s6 ⟨σ6,H6,I6,q6⟩=>?_)
  refine wpAny_passesOwn hp (dq (hb _ s6 σ6 H6 _ I6 q6) λf s7 q7=>?_)
  have again:∀{σ7:St} {H7:Hp},Inv X (pins++nX fp s5.heap) σ7 H7 s7->N σ7 H7->∃m,m < n/\∃i σ' H',Inv X pins σ' H' s7/\tn i s7.heap/\(∀b ∈ fp,H' b=none)/\W i m σ' H':=λ{σ7 H7} I7 n7=>by
   obtain⟨m',hm,w7⟩:=hN σ7 H7 n7
   refine⟨m',hm,i + 1,σ7,H7,I7.ke,T.keep _ _ _ lI λb hb o e=>(I7.pin (b,o) (List.mem_append_right _ (List.mem_append_right _ (jG hb e)))).1,λb hb=>?_,w7⟩
   obtain⟨o,e,d⟩:=T.obj _ _ lI b hb
   exact(I7.pin (b,o) (List.mem_append_right _ (List.mem_append_right _ (jG hb e)))).2.1
  cases f with
  | next=>obtain⟨σ7,H7,I7,n7⟩:=q7;exact again I7 n7
  | cont=>obtain⟨σ7,H7,I7,n7⟩:=q7;exact again I7 n7
  | brk=>obtain⟨σ7,H7,I7,q7⟩:=q7;exact⟨σ7,H7,I7.ke,q7⟩
  | ret v=>obtain⟨x7,σ7,H7,I7,r7,q7⟩:=q7;exact⟨x7,σ7,H7,I7.ke,r7,q7⟩
end
theorem jq {K:W.Frag}{a:Addr}{xs:List V}(Pv:Nat->St->Hp->Prop)(h0:Pv 0 σ H)(hl:∀i σ H,i<=xs.length->Pv i σ H->aP K H a xs)
  (hs:∀i x σ H,xs[i]?=some x->Pv i σ H->g x σ H λσ2 H2=>tb {D with nx:=Pv (i + 1),ct:=Pv (i + 1),bk:=D.nx} σ2 H2) (hd:∀σ H,Pv xs.length σ H->D.nx σ H):
  ∃W:Nat->Nat->St->Hp->Prop,(∃m,W 0 m σ H)/\∀i m σ H,W i m σ H->
   ((qB K a).stop i H/\D.nx σ H)\/((qB K a).go i H/\∃N:St->Hp->Prop,(∀σ' H',N σ' H'->∃m',m' < m/\W (i + 1) m' σ' H')/\∀x H',(qB K a).Hx i H x H'->g x σ H' λσ2 H2=>tb {D with nx:=N,ct:=N,bk:=D.nx} σ2 H2):=by
 refine⟨λi m σ H=>m=xs.length - i/\i<=xs.length/\Pv i σ H,⟨xs.length,by simp,Nat.zero_le _,h0⟩,?_⟩
 rintro i m σ H ⟨rfl,hi,p⟩
 have q:=hl i σ H hi p
 by_cases kf:i < xs.length
 ·refine .inr ⟨⟨xs,xs[i],q,by simp[kf]⟩,Pv (i + 1),λσ' H' p'=>⟨xs.length - (i + 1),by omega,rfl,kf,p'⟩,λx H' y=>?_⟩
  obtain⟨e,y⟩:=y
  subst e
  exact hs i x σ _ (y xs q) p
 ·have e:i=xs.length:=by omega
  subst e
  exact .inl ⟨⟨xs,q,Nat.le_refl _⟩,hd σ H p⟩
theorem Hz {K:W.Frag}{a:Addr}{xs:List V}(Pv:Nat->St->Hp->Prop)(h0:Pv 0 σ H)(hl:∀i σ H,i<=xs.length->Pv i σ H->bJ K H a xs)
  (hs:∀i x σ H,xs[i]?=some x->Pv i σ H->g x σ H λσ2 H2=>tb {D with nx:=Pv (i + 1),ct:=Pv (i + 1),bk:=D.nx} σ2 H2) (hd:∀σ H,Pv xs.length σ H->D.nx σ H):
  ∃W:Nat->Nat->St->Hp->Prop,(∃m,W 0 m σ H)/\∀i m σ H,W i m σ H->
   ((Hy K a).stop i H/\D.nx σ H)\/((Hy K a).go i H/\∃N:St->Hp->Prop,(∀σ' H',N σ' H'->∃m',m' < m/\W (i + 1) m' σ' H')/\∀x H',(Hy K a).Hx i H x H'->g x σ H' λσ2 H2=>tb {D with nx:=N,ct:=N,bk:=D.nx} σ2 H2):=by
 refine⟨λi m σ H=>m=xs.length - i/\i<=xs.length/\Pv i σ H,⟨xs.length,by simp,Nat.zero_le _,h0⟩,?_⟩
 rintro i m σ H ⟨rfl,hi,p⟩
 have q:=hl i σ H hi p
 by_cases kf:i < xs.length
 ·refine .inr ⟨⟨xs,xs[i],q,by simp[kf]⟩,Pv (i + 1),λσ' H' p'=>⟨xs.length - (i + 1),by omega,rfl,kf,p'⟩,λx H' y=>?_⟩
  obtain⟨e,y⟩:=y
  subst e
  exact hs i x σ _ (y xs q) p
 ·have e:i=xs.length:=by omega
  subst e
  exact .inl ⟨⟨xs,q,Nat.le_refl _⟩,hd σ H p⟩
theorem jr {lo:Int}{n:Nat}(Pv:Nat->St->Hp->Prop)(h0:Pv 0 σ H)
  (hs:∀i σ H,i < n->Pv i σ H->g (.int (lo + i)) σ H λσ2 H2=>tb {D with nx:=Pv (i + 1),ct:=Pv (i + 1),bk:=D.nx} σ2 H2) (hd:∀σ H,Pv n σ H->D.nx σ H):
  ∃W:Nat->Nat->St->Hp->Prop,(∃m,W 0 m σ H)/\∀i m σ H,W i m σ H->
   ((xP lo n).stop i H/\D.nx σ H)\/((xP lo n).go i H/\∃N:St->Hp->Prop,(∀σ' H',N σ' H'->∃m',m' < m/\W (i + 1) m' σ' H')/\∀x H',(xP lo n).Hx i H x H'->g x σ H' λσ2 H2=>tb {D with nx:=N,ct:=N,bk:=D.nx} σ2 H2):=by
 refine⟨λi m σ H=>m=n - i/\i<=n/\Pv i σ H,⟨n,by simp,Nat.zero_le _,h0⟩,?_⟩
 rintro i m σ H ⟨rfl,hi,p⟩
 by_cases kf:i < n
 ·refine .inr ⟨kf,Pv (i + 1),λσ' H' p'=>⟨n - (i + 1),by omega,rfl,kf,p'⟩,λx H' y=>?_⟩
  obtain⟨e,y⟩:=y
  subst e y
  exact hs i σ _ kf p
 ·have e:i=n:=by omega
  subst e
  exact .inl ⟨Nat.le_refl _,hd σ H p⟩
end
section
variable {op:CmpOp}{g:Int->Int->Int}
abbrev R2:=V->V->Hp->VK->Prop
def gA (X:Cx)(f:Value->Value->Sem Value)(r:R2):Prop:=
 ∀(pins:List (Addr×Obj)) (s:Shared) (σ:St) (H:Hp) (x y:V) (v u:Value) (Q:VK),Inv X pins σ H s->RelV x v->RelV y u->r x y H Q->
  wpAny (model X.prog X.w) X.A (f v u) (EP X pins σ Q) X.xe s
def Wh (X:Cx)(f:Value->Sem Value)(r:V->Hp->VK->Prop):Prop:=
 ∀(pins:List (Addr×Obj)) (s:Shared) (σ:St) (H:Hp) (x:V) (v:Value) (Q:VK),Inv X pins σ H s->RelV x v->r x H Q->
  wpAny (model X.prog X.w) X.A (f v) (EP X pins σ Q) X.xe s
def fg (X:Cx)(f:Value)(r:List V->Hp->VK->Prop):Prop:=
 ∀(pins:List (Addr×Obj)) (s:Shared) (σ:St) (H:Hp) (xs:List V) (us:List Value) (Q:VK),Inv X pins σ H s->Vals xs us->r xs H Q->
  wpAny (model X.prog X.w) X.A (call f us) (EP X pins σ Q) X.xe s
def Wi (X:Cx)(r:V->Hp->(Bool->Hp->Prop)->Prop):Prop:=
 ∀(pins:List (Addr×Obj)) (s:Shared) (σ:St) (H:Hp) (x:V) (v:Value) (Q:Bool->Hp->Prop),Inv X pins σ H s->RelV x v->r x H Q->
  wpAny (model X.prog X.w) X.A (truthy v) (TP X pins σ Q) X.xe s
def HA (r:R2)(ta tb:TE):TE:=λσ H Q=>ta σ H λx H1=>tb σ H1 λy H2=>r x y H2 Q
def Wj (r:V->Hp->VK->Prop)(ta:TE):TE:=λσ H Q=>ta σ H λx H1=>r x H1 Q
def rI (C:Int->Int->Prop)(g:Int->Int->V):R2:=λx y H Q=>∃i j,x=.int i/\y=.int j/\C i j/\Q (g i j) H
def HB (g:Int->Int->V):R2:=λx y H Q=>∃i j,x=.int i/\y=.int j/\Q (g i j) H
def rU (g:Int->V):V->Hp->VK->Prop:=λx H Q=>∃i,x=.int i/\Q (g i) H
section
variable {X:Cx}{a b c:Expr}{ta tb tc:TE}{pos:Pos}
theorem L4 (ha:PE X a ta)(hb:PE X b tb){pins:List (Addr×Obj)}{s:Shared}{σ:St}{H:Hp}{R:V->V->Hp->Prop}(I:Inv X pins σ H s)
  (h:ta σ H λx H1=>tb σ H1 λy H2=>R x y H2) {Q:Value->Shared->Prop} {f:Value->Value->Sem Value}
  (hf:∀v u s2 x y H2,Inv X pins σ H2 s2->RelV x v->RelV y u->R x y H2->wpAny (model X.prog X.w) X.A (f v u) Q X.xe s2):
  wpAny (model X.prog X.w) X.A (eval a X.env) (λv s₁=>wpAny (model X.prog X.w) X.A (eval b X.env) (λu s₂=>wpAny (model X.prog X.w) X.A (f v u) Q X.xe s₂) X.xe s₁) X.xe s:=by
 refine dq (ha pins s σ H _ I h) λv s1 ⟨x,H1,I1,r1,q1⟩=>?_
 refine dq (hb pins s1 σ H1 _ I1 q1) λu s2 ⟨y,H2,I2,r2,q2⟩=>?_
 exact hf v u s2 x y H2 I2 r1 r2 q2
theorem aY {op:Operator}{r:R2}(ho:gA X (binaryOp op) r)(ha:PE X a ta)(hb:PE X b tb):PE X (.BinOp a op b pos) (HA r ta tb):=by
 walk_at "xc"
 exact wpAny_BinOp (L4 ha hb I h λv u s2 x y H2 I2 rx ry q=>ho pins s2 σ H2 x y v u Q I2 rx ry q)
theorem js {op:UnaryOp}{r:V->Hp->VK->Prop}(ho:Wh X (unaryOp op) r)(ha:PE X a ta):PE X (.UnaryOp op a pos) (Wj r ta):=by
 walk_at "xc"
 exact UnaryOp_ (dq (ha pins s σ H _ I h) λv s1 ⟨x,H1,I1,r1,q1⟩=>ho pins s1 σ H1 x v Q I1 r1 q1)
theorem UH {f:Value->Value->Sem Value}{C:Int->Int->Prop}
  (rule:∀(i j:Int) (t u:Tok) (s:Shared) (Q:Value->Shared->Prop) (E:Value->Shared->Prop),C i j->Q (.int (g i j) s.toks) {s with toks:=s.toks + 1}->wpAny (model X.prog X.w) X.A (f (.int i t) (.int j u)) Q E s):
  gA X f (rI C λi j=>.int (g i j)):=by
 intro pins s σ H x y v u Q I rx ry h
 obtain⟨i,j,rfl,rfl,hc,q⟩:=h
 obtain⟨t,rfl⟩:=rx
 obtain⟨t',rfl⟩:=ry
 exact rule i j t t' s _ _ hc ⟨.int (g i j),H,I.tok _,⟨_,rfl⟩,q⟩
theorem Qe {f:Value->Value->Sem Value}
  (rule:∀(i j:Int) (t u:Tok) (s:Shared) (Q:Value->Shared->Prop) (E:Value->Shared->Prop),Q (.int (g i j) s.toks) {s with toks:=s.toks + 1}->wpAny (model X.prog X.w) X.A (f (.int i t) (.int j u)) Q E s):
  gA X f (HB λi j=>.int (g i j)):=by
 intro pins s σ H x y v u Q I rx ry h
 obtain⟨i,j,rfl,rfl,q⟩:=h
 obtain⟨t,rfl⟩:=rx
 obtain⟨t',rfl⟩:=ry
 exact rule i j t t' s _ _ ⟨.int (g i j),H,I.tok _,⟨_,rfl⟩,q⟩
theorem HC {f:Value->Value->Sem Value}{g:Int->Int->Bool}
  (rule:∀(i j:Int) (t u:Tok) (s:Shared) (Q:Value->Shared->Prop) (E:Value->Shared->Prop),Q (.bool (g i j)) s->wpAny (model X.prog X.w) X.A (f (.int i t) (.int j u)) Q E s):
  gA X f (HB λi j=>.bl (g i j)):=by
 intro pins s σ H x y v u Q I rx ry h
 obtain⟨i,j,rfl,rfl,q⟩:=h
 obtain⟨t,rfl⟩:=rx
 obtain⟨t',rfl⟩:=ry
 exact rule i j t t' s _ _ ⟨.bl (g i j),H,I,rfl,q⟩
def HE (i j:Int):Prop:=0<=j/\j<=1000000/\i.natAbs < 2 ^ 64
def CW (i j:Int):Prop:=(-(2 ^ 64) < i/\i < 2 ^ 64)\/(-(2 ^ 64) < j/\j < 2 ^ 64)
theorem CW.ok{i j:Int}(h:CW i j):IntMulOk i j:=by
 rcases h with⟨h1,h2⟩ | ⟨h1,h2⟩
 ·exact .of_left (intBits_le_64 h1 h2)
 ·exact .of_right (intBits_le_64 h1 h2)
theorem L5:gA X (binaryOp .Add) (HB λi j=>.int (i + j)):=Qe λ_ _ _ _ _ _ _ q=>add_int q
theorem L6:gA X (binaryOp .Sub) (HB λi j=>.int (i - j)):=Qe λ_ _ _ _ _ _ _ q=>sub_int q
theorem L7:gA X (binaryOp .Mult) (rI CW λi j=>.int (i * j)):=UH λ_ _ _ _ _ _ _ hc q=>mul_int q hc.ok
theorem L8:gA X (binaryOp .Mod) (rI (λ_ j=>0 < j) λi j=>.int (i % j)):=UH λi j _ _ _ _ _ hc q=>by
 have h1:(0:Int) < j:=hc
 exact mod_int' (by omega) (by rw[Int.fmod_eq_emod_of_nonneg i (by omega)];exact q)
theorem L9:gA X (binaryOp .Pow) (rI HE λi j=>.int (i ^ j.toNat)):=UH λ_ _ _ _ _ _ _ hc q=>pow_int_small hc.1 hc.2.1 hc.2.2 q
theorem unI {f:Value->Sem Value}{g:Int->Int}
  (rule:∀(i:Int) (t:Tok) (s:Shared) (Q:Value->Shared->Prop) (E:Value->Shared->Prop),Q (.int (g i) s.toks) {s with toks:=s.toks + 1}->wpAny (model X.prog X.w) X.A (f (.int i t)) Q E s):
  Wh X f (rU λi=>.int (g i)):=by
 intro pins s σ H x v Q I rx h
 obtain⟨i,rfl,q⟩:=h
 obtain⟨t,rfl⟩:=rx
 exact rule i t s _ _ ⟨.int (g i),H,I.tok _,⟨_,rfl⟩,q⟩
theorem fU:Wh X (unaryOp .USub) (rU λi=>.int (-i)):=unI λ_ _ _ _ _ q=>neg_int q
end
def HF:V->V->Bool
 | .bR,.bR=>true | .bR,.int _=>true | .int _,.bR=>true | .bR,.bl _=>true | .bl _,.bR=>true | .bR,.str _=>true | .str _,.bR=>true
 | .int _,.int _=>true | .bl _,.bl _=>true | .str _,.str _=>true | .xy _,.xy _=>true
 | .int _,.str _=>true | .str _,.int _=>true | .bl _,.str _=>true | .str _,.bl _=>true
 | _,_=>false
def rEq:R2:=λx y H Q=>HF x y=true/\Q (.bl (decide (x=y))) H
def rNe:R2:=λx y H Q=>HF x y=true/\Q (.bl (!decide (x=y))) H
theorem zq {i j:Int}:decide (V.int i=V.int j)=(i == j):=by
 rw[Bool.eq_iff_iff]
 simp
theorem CY {i j:Bool}:decide (V.bl i=V.bl j)=(i == j):=by
 rw[Bool.eq_iff_iff]
 simp
theorem zr {i j:Str}:decide (V.str i=V.str j)=(i == j):=by
 rw[Bool.eq_iff_iff]
 simp
theorem zt {i j:Array UInt8}:decide (V.xy i=V.xy j)=(i.toList == j.toList):=by
 rw[Bool.eq_iff_iff]
 cases i
 cases j
 simp
section
variable {X:Cx}{a b c:Expr}{ta tb tc:TE}{pos:Pos}
theorem cf {pins:List (Addr×Obj)}{σ:St}{H:Hp}{s:Shared}{Q:VK}{k k':Bool}(I:Inv X pins σ H s)(q:Q (.bl k) H)(e:k=k'):EP X pins σ Q (.bool k') s:=by
 subst e
 exact⟨.bl k,H,I,rfl,q⟩
theorem Qf:gA X (compareOp .Eq) rEq:=by
 intro pins s σ H x y v u Q I rx ry h
 obtain⟨hs,q⟩:=h
 cases x with
 | bR=>
  cases rx
  cases y with
  | bR=>cases ry;exact PySem.EqNone.eq_none_none (cf I q (by simp))
  | bl j=>cases ry;exact PySem.EqNone.eq_none_bool (cf I q (by simp))
  | int j=>obtain⟨t',rfl⟩:=ry;exact PySem.EqNone.eq_none_int (cf I q (by simp))
  | str j=>obtain⟨t',rfl⟩:=ry;exact PySem.EqNone.eq_none_str (cf I q (by simp))
  | _=>exact absurd (show false=true from hs) Bool.false_ne_true
 | bl i=>
  cases rx
  cases y with
  | bR=>cases ry;exact PySem.EqNone.eq_bool_none (cf I q (by simp))
  | bl j=>cases ry;exact eq_bool (cf I q CY)
  | str j=>obtain⟨t',rfl⟩:=ry;exact PySem.EqMixed.eq_bool_str (cf I q (by simp))
  | _=>exact absurd (show false=true from hs) Bool.false_ne_true
 | int i=>
  obtain⟨t,rfl⟩:=rx
  cases y with
  | bR=>cases ry;exact PySem.EqNone.eq_int_none (cf I q (by simp))
  | int j=>obtain⟨t',rfl⟩:=ry;exact eq_int (cf I q zq)
  | str j=>obtain⟨t',rfl⟩:=ry;exact PySem.EqMixed.eq_int_str (cf I q (by simp))
  | _=>exact absurd (show false=true from hs) Bool.false_ne_true
 | str i=>
  obtain⟨t,rfl⟩:=rx
  cases y with
  | bR=>cases ry;exact PySem.EqNone.eq_str_none (cf I q (by simp))
  | bl j=>cases ry;exact PySem.EqMixed.eq_str_bool (cf I q (by simp))
  | int j=>obtain⟨t',rfl⟩:=ry;exact PySem.EqMixed.eq_str_int (cf I q (by simp))
  | str j=>obtain⟨t',rfl⟩:=ry;exact eq_str (cf I q zr)
  | _=>exact absurd (show false=true from hs) Bool.false_ne_true
 | xy i=>
  obtain⟨t,rfl⟩:=rx
  cases y with
  | xy j=>obtain⟨t',rfl⟩:=ry;exact W.eq_bytes (cf I q zt)
  | _=>exact absurd (show false=true from hs) Bool.false_ne_true
 | _=>cases y <;> exact absurd (show false=true from hs) Bool.false_ne_true
theorem Qg:gA X (compareOp .NotEq) rNe:=by
 intro pins s σ H x y v u Q I rx ry h
 obtain⟨hs,q⟩:=h
 cases x with
 | bR=>
  cases rx
  cases y with
  | bR=>cases ry;exact PySem.EqNone.ne_none_none (cf I q (by simp))
  | bl j=>cases ry;exact PySem.EqNone.ne_none_bool (cf I q (by simp))
  | int j=>obtain⟨t',rfl⟩:=ry;exact PySem.EqNone.ne_none_int (cf I q (by simp))
  | str j=>obtain⟨t',rfl⟩:=ry;exact PySem.EqNone.ne_none_str (cf I q (by simp))
  | _=>exact absurd (show false=true from hs) Bool.false_ne_true
 | bl i=>
  cases rx
  cases y with
  | bR=>cases ry;exact PySem.EqNone.ne_bool_none (cf I q (by simp))
  | bl j=>cases ry;exact ne_bool (cf I q (congrArg not CY))
  | str j=>obtain⟨t',rfl⟩:=ry;exact PySem.EqMixed.ne_bool_str (cf I q (by simp))
  | _=>exact absurd (show false=true from hs) Bool.false_ne_true
 | int i=>
  obtain⟨t,rfl⟩:=rx
  cases y with
  | bR=>cases ry;exact PySem.EqNone.ne_int_none (cf I q (by simp))
  | int j=>obtain⟨t',rfl⟩:=ry;exact ne_int (cf I q (congrArg not zq))
  | str j=>obtain⟨t',rfl⟩:=ry;exact PySem.EqMixed.ne_int_str (cf I q (by simp))
  | _=>exact absurd (show false=true from hs) Bool.false_ne_true
 | str i=>
  obtain⟨t,rfl⟩:=rx
  cases y with
  | bR=>cases ry;exact PySem.EqNone.ne_str_none (cf I q (by simp))
  | bl j=>cases ry;exact PySem.EqMixed.ne_str_bool (cf I q (by simp))
  | int j=>obtain⟨t',rfl⟩:=ry;exact PySem.EqMixed.ne_str_int (cf I q (by simp))
  | str j=>obtain⟨t',rfl⟩:=ry;exact ne_str (cf I q (congrArg not zr))
  | _=>exact absurd (show false=true from hs) Bool.false_ne_true
 | xy i=>
  obtain⟨t,rfl⟩:=rx
  cases y with
  | xy j=>obtain⟨t',rfl⟩:=ry;exact W.ne_bytes (cf I q (congrArg not zt))
  | _=>exact absurd (show false=true from hs) Bool.false_ne_true
 | _=>cases y <;> exact absurd (show false=true from hs) Bool.false_ne_true
theorem Qh:gA X (compareOp .Lt) (HB λi j=>.bl (decide (i < j))):=HC λ_ _ _ _ _ _ _ q=>lt_int q
theorem Qi:gA X (compareOp .LtE) (HB λi j=>.bl (decide (i<=j))):=HC λ_ _ _ _ _ _ _ q=>le_int q
theorem Qj:gA X (compareOp .Gt) (HB λi j=>.bl (decide (j < i))):=HC λ_ _ _ _ _ _ _ q=>gt_int q
theorem Qk:gA X (compareOp .GtE) (HB λi j=>.bl (decide (j<=i))):=HC λ_ _ _ _ _ _ _ q=>ge_int q
theorem Ma:gA X (compareOp .Is) (λx y H Q=>y=.bR/\Q (.bl (decide (x=.bR))) H):=by
 intro pins s σ H x y v u Q I rx ry h
 obtain⟨rfl,q⟩:=h
 cases ry
 refine is_none_gen (cf I q ?_)
 cases x <;> first
  | (cases rx;rfl)
  | (obtain⟨t,rfl⟩:=rx;rfl)
theorem HG:gA X (compareOp .IsNot) (λx y H Q=>y=.bR/\Q (.bl (!decide (x=.bR))) H):=by
 intro pins s σ H x y v u Q I rx ry h
 obtain⟨rfl,q⟩:=h
 cases ry
 refine isnot_none_gen (cf I q ?_)
 cases x <;> first
  | (cases rx;rfl)
  | (obtain⟨t,rfl⟩:=rx;rfl)
theorem aC (b:Expr){op:CmpOp}(h:op≠.In:=by decide)(h2:op≠.NotIn:=by decide):behindInMarks op b=false:=by
 have e1:(op == CmpOp.In)=false:=by cases op <;> first | rfl | exact absurd rfl h
 have e2:(op == CmpOp.NotIn)=false:=by cases op <;> first | rfl | exact absurd rfl h2
 cases b <;> simp[behindInMarks,e1,e2]
theorem gT {r:R2}(ho:gA X (compareOp op) r)(ha:PE X a ta)(hb:PE X b tb)(hm:behindInMarks op b=false):PE X (.Compare a [op] [b] pos) (HA r ta tb):=by
 walk_at "xc"
 exact wpAny_Compare1 (L4 ha hb I h λv u s2 x y H2 I2 rx ry q=>ho pins s2 σ H2 x y v u Q I2 rx ry q) hm
def zu (t:TE):TT:=λσ H Q=>t σ H λx H'=>∃k,x=.bl k/\Q k H'
theorem zw {r:R2}(ho:gA X (compareOp op) r)(ha:PE X a ta)(hb:PE X b tb)(hm:behindInMarks op b=false):PT X (.Compare a [op] [b] pos) (zu (HA r ta tb)):=by
 walk_at "xc"
 refine wpAny_isTrue_Compare1 (dq (ha pins s σ H _ I h) λv s1 ⟨x,H1,I1,r1,q1⟩=>dq (hb pins s1 σ H1 _ I1 q1) λu s2 ⟨y,H2,I2,r2,q2⟩=>
  dq (ho pins s2 σ H2 x y v u _ I2 r1 r2 q2) λc s3 ⟨z,H3,I3,r3,k,e,q3⟩=>?_) hm
 subst e
 cases r3
 exact wpAny_truthy_bool ⟨H3,I3,q3⟩
def xT (r r':R2)(ta tb tc:TE):TE:=λσ H Q=>ta σ H λx H1=>tb σ H1 λy H2=>r x y H2 λz H3=>∃k,z=.bl k/\
 (if k=true then tc σ H3 λw' H4=>r' y w' H4 Q else Q (.bl false) H3)
theorem vB {Wk:CmpOp}{r r':R2}(ho:gA X (compareOp op) r)(mW:gA X (compareOp Wk) r')(ha:PE X a ta)(hb:PE X b tb)(hc:PE X c tc)
  (hm:lastMarks [op,Wk] [b,c]=false:=by with_unfolding_all rfl):PE X (.Compare a [op,Wk] [b,c] pos) (xT r r' ta tb tc):=by
 walk_at "xc"
 refine Compare_chain (dq (ha pins s σ H _ I h) λv s1 ⟨x,H1,I1,r1,q1⟩=>chain_link (dq (hb pins s1 σ H1 _ I1 q1) λu s2 ⟨y,H2,I2,r2,q2⟩=>
  dq (ho pins s2 σ H2 x y v u _ I2 r1 r2 q2) λd s3 ⟨z,H3,I3,r3,k,e,q3⟩=>?_)) hm
 subst e
 cases r3
 refine wpAny_truthy_bool ?_
 cases k with
 | false=>exact ite_ff ⟨.bl false,H3,I3,rfl,q3⟩
 | true=>exact ite_tt (chain_last (dq (hc pins s3 σ H3 _ I3 q3) λw' s4 ⟨z',H4,I4,r4,q4⟩=>mW pins s4 σ H4 y z' u w' Q I4 r2 r4 q4))
def Wl (K:W.Frag)(x:V)(H:Hp)(k:Bool):Prop:=
 match x with
 | .bR=>k=false
 | .bl b=>k=b
 | .int i=>k=(i != 0)
 | .str y=>y.length<=sizeLine/\k=((y.length:Int) != 0)
 | .xy y=>y.size<=sizeLine/\k=((y.size:Int) != 0)
 | .ref p=>(∃xs,aP K H p xs/\k= !xs.isEmpty)\/(∃xs,bJ K H p xs/\k= !xs.isEmpty)\/∃bc,H p=some (.dK bc)/\k= !bc.isEmpty
 | _=>False
theorem xU {κ:Type}{bc:List (κ×V)}{vs:List (κ×Value)}(r:KV bc vs):(!vs.isEmpty)= !bc.isEmpty:=by
 cases r <;> rfl
theorem qC {xs:List V}{aO:List Value}(r:Vals xs aO):(!aO.toArray.isEmpty)= !xs.isEmpty:=by
 cases r <;> simp
theorem nY:(sizeLine:Nat) < 2 ^ 63:=by rw[sizeLine_eq];decide
theorem Wm:Wi X (λx H Q=>∃k,Wl X.K x H k/\Q k H):=by
 intro pins s σ H x v Q I rx h
 obtain⟨k,e,q⟩:=h
 have hl:=nY
 have hs:sizeLine=16777216:=sizeLine_eq
 cases x with
 | bR=>
  cases rx
  have e':k=false:=e
  subst e'
  exact truthy_none ⟨H,I,q⟩
 | bl b=>
  cases rx
  have e':k=b:=e
  subst e'
  exact wpAny_truthy_bool ⟨H,I,q⟩
 | int i=>
  obtain⟨t,rfl⟩:=rx
  have e':k=(i != 0):=e
  subst e'
  exact PySem.P.truthy_int ⟨H,I,q⟩
 | str y=>
  obtain⟨t,rfl⟩:=rx
  obtain⟨hy,e'⟩:y.length<=sizeLine/\k=((y.length:Int) != 0):=e
  subst e'
  exact PySem.P.truthy_str (by omega) ⟨H,I.tok _,q⟩
 | xy y=>
  obtain⟨t,rfl⟩:=rx
  obtain⟨hy,e'⟩:y.size<=sizeLine/\k=((y.size:Int) != 0):=e
  subst e'
  exact W.truthy_bytes (by omega) ⟨H,I.tok _,q⟩
 | ref p=>
  cases rx
  have e':(∃xs,aP X.K H p xs/\k= !xs.isEmpty)\/(∃xs,bJ X.K H p xs/\k= !xs.isEmpty)\/∃bc,H p=some (.dK bc)/\k= !bc.isEmpty:=e
  rcases e' with⟨xs,hx,e'⟩ | ⟨xs,hx,e'⟩ | ⟨bc,hx,e'⟩
  ·subst e'
   obtain⟨aO,r,pl,hz⟩:=I.list hx
   have hlen:=r.length
   exact wpAny_truthy_list pl.isList (by simp only[List.size_toArray];omega) ⟨H,I.tok _,by rw[qC r];exact q⟩
  ·subst e'
   obtain⟨aO,r,pl,hz⟩:=I.tuple hx
   have hlen:=r.length
   exact truthy_tuple pl (by simp only[List.size_toArray];omega) ⟨H,I.tok _,by rw[qC r];exact q⟩
  ·subst e'
   obtain⟨hz,hS,vs,r,m⟩:bc.length<=sizeLine/\(p == sysModules)=false/\∃vs,KV bc vs/\s.heap.DictOf (dF X.prog X.w) p vs:=I.bf p _ hx
   have hlen:bc.length=vs.length:=Paired.length r
   exact wpAny_truthy_dict hS m (by omega) ⟨H,I.tok _,by rw[xU r];exact q⟩
 | _=>exact(show False from e).elim
theorem xV:gA X (binaryOp .Add) (λx y H Q=>∃i j,x=.str i/\y=.str j/\i.length + j.length<=sizeLine/\Q (.str (i++j)) H):=by
 intro pins s σ H x y v u Q I rx ry h
 obtain⟨i,j,rfl,rfl,hz,q⟩:=h
 obtain⟨t,rfl⟩:=rx
 obtain⟨t',rfl⟩:=ry
 exact add_str (λt' tk=>⟨.str (i++j),H,I.tok _,⟨_,rfl⟩,q⟩) hz
theorem vals1 {x:V}{us:List Value}(r:Vals [x] us):∃u,us=[u]/\RelV x u:=by
 cases r with
 | cons r1 r2=>cases r2;exact⟨_,rfl,r1⟩
theorem vals2 {x y:V}{us:List Value}(r:Vals [x,y] us):∃u w',us=[u,w']/\RelV x u/\RelV y w':=by
 cases r with
 | cons r1 r2=>
  cases r2 with
  | cons r3 r4=>cases r4;exact⟨_,_,rfl,r1,r3⟩
theorem Bc (hc:X.calm=true):fg X (.builtin "max") (λxs H Q=>∃i j,xs=[.int i,.int j]/\Q (.int (if j > i then j else i)) H):=by
 intro pins s σ H xs us Q I r h
 obtain⟨i,j,rfl,q⟩:=h
 obtain⟨u,w',rfl,⟨t,rfl⟩,⟨t',rfl⟩⟩:=vals2 r
 refine max_two_ints (I.ok.hd hc) λh' tk k=>⟨_,H,I.kept k,?_,q⟩
 by_cases hj:j > i
 ·rw[if_pos hj,if_pos hj];exact⟨_,rfl⟩
 ·rw[if_neg hj,if_neg hj];exact⟨_,rfl⟩
theorem nZ:fg X (.type "int") (λxs H Q=>(∃i,xs=[.int i]/\Q (.int i) H)\/∃k,xs=[.bl k]/\Q (.int (if k then 1 else 0)) H):=by
 intro pins s σ H xs us Q I r h
 rcases h with⟨i,rfl,q⟩ | ⟨k,rfl,q⟩
 ·obtain⟨u,rfl,t,rfl⟩:=vals1 r
  exact call_int_int ⟨.int i,H,I,⟨_,rfl⟩,q⟩
 ·obtain⟨u,rfl,r1⟩:=vals1 r
  cases r1
  exact call_int_bool ⟨.int (if k then 1 else 0),H,I.tok _,⟨_,rfl⟩,q⟩
def CZ (K:W.Frag)(x:V)(H:Hp)(n:Nat):Prop:=
 match x with
 | .str y=>y.length<=sizeLine/\n=y.length
 | .xy y=>y.size<=sizeLine/\n=y.size
 | .ref p=>(∃xs,aP K H p xs/\n=xs.length)\/∃xs,bJ K H p xs/\n=xs.length
 | _=>False
theorem C0:fg X (.builtin "len") (λxs H Q=>∃x n,xs=[x]/\CZ X.K x H n/\Q (.int n) H):=by
 intro pins s σ H xs us Q I r h
 obtain⟨x,n,rfl,e,q⟩:=h
 obtain⟨u,rfl,rx⟩:=vals1 r
 have hl:=nY
 have hs:sizeLine=16777216:=sizeLine_eq
 cases x with
 | str y=>
  obtain⟨t,rfl⟩:=rx
  obtain⟨hy,e'⟩:y.length<=sizeLine/\n=y.length:=e
  subst e'
  exact len_str (by omega) ⟨.int _,H,I.tok _,⟨_,rfl⟩,q⟩
 | xy y=>
  obtain⟨t,rfl⟩:=rx
  obtain⟨hy,e'⟩:y.size<=sizeLine/\n=y.size:=e
  subst e'
  exact W.len_bytes (by omega) ⟨.int _,H,I.tok _,⟨_,rfl⟩,q⟩
 | ref p=>
  cases rx
  have e':(∃xs,aP X.K H p xs/\n=xs.length)\/∃xs,bJ X.K H p xs/\n=xs.length:=e
  rcases e' with⟨xs,hx,e'⟩ | ⟨xs,hx,e'⟩
  ·subst e'
   obtain⟨aO,r',pl,hz⟩:=I.list hx
   have hlen:=r'.length
   exact Calls.call_len_list pl.isList (by simp only[List.size_toArray];omega) ⟨.int xs.length,H,I.tok _,⟨_,by simp only[List.size_toArray];rw[hlen]⟩,q⟩
  ·subst e'
   obtain⟨aO,r',pl,hz⟩:=I.tuple hx
   have hlen:=r'.length
   exact len_tuple pl (by simp only[List.size_toArray];omega) ⟨.int xs.length,H,I.tok _,⟨_,by simp only[List.size_toArray];rw[hlen]⟩,q⟩
 | _=>exact(show False from e).elim
end
end
section
variable {C:Addr}{mA:Str->Option Value}{Q:Value->Shared->Prop}
structure xW (h:Heap)(x dx C:Addr)(mA:Str->Option Value):Prop where
 obj:h.get? x=some (W.instObj C dx)
 ns:h.Ns1 dx mA
 ne:dx≠x
theorem Bd {h:Heap}{dx:Addr}(n:h.Ns1 dx mA):∃od,h.get? dx=some od/\∀name,W.lookIn name od=some (mA name):=by
 obtain⟨o,es,ep,ho,hd,hk,_,hm⟩:=n
 refine⟨o,ho,λname=>?_⟩
 have e:=hm name
 unfold nsFind findBy at e
 rw[<-Array.find?_toList] at e
 unfold W.lookIn
 rw[hd]
 dsimp only
 split
 ·rename_i y q
  rw[q] at e
  exact congrArg some e
 ·rename_i q
  rw[q] at e
  have a:es.toList.any (·.refKey)=false:=by
   rw[List.any_eq_false]
   intro y hy
   obtain⟨z,t,Wn⟩:=hk y (Array.mem_toList_iff.mp hy)
   simp[DictEntry.refKey,Wn]
  have a':¬es.toList.any (·.refKey)=true:=by rw[a];exact Bool.false_ne_true
  rw[if_neg a']
  exact congrArg some e
theorem xW.look{h:Heap}{x dx:Addr}(I:xW h x dx C mA):∃od,W.InstAt h x (W.instObj C dx) C (some od)/\∀name,W.lookIn name od=some (mA name):=
 let ⟨od,ho,hl⟩:=Bd I.ns
 ⟨od,⟨I.obj,rfl,rfl,ho⟩,hl⟩
section
variable {prog:Program}{w:World}{A:Around}{E:Value->Shared->Prop}{s:Shared}{K:W.Frag}{x dx C f:Addr}{mA:Str->Option Value}{name:Str}{v:Value}
theorem get_map {expr:Bool}(X:K.In s.heap)(I:xW s.heap x dx C mA)(hg:W.plainGet K C name=true)(hh:W.hasDictIn K C=true)
  (ha:W.findIn K (.ref C) name=some none) (hv:mA name=some v) (Wo:W.handedIn v=true) (h:Q v {s with toks:=s.toks + 1}):
  wpAny (model prog w) A (getAttr (.ref x) name expr) Q E s:=by
 obtain⟨od,J,hl⟩:=I.look
 exact W.get_value X J (W.plainGet_of hg).1 (W.findObj_own hh ha rfl (by rw[hl,hv])) Wo h
theorem C8 {pl:Sem Bool}{Q:Value×List Value->Shared->Prop}(X:K.In s.heap)(I:xW s.heap x dx C mA)(hg:W.plainGet K C name=true)
  (hf:W.findIn K (.ref C) name=some (some (.ref f))) (ht:W.isFn K (.ref f)=true) (hv:mA name=none) (h:Q (.ref f,[.ref x]) s):
  wpAny (model prog w) A (getMethod (.ref x) name pl) Q E s:=by
 obtain⟨od,J,hl⟩:=I.look
 exact W.method_fn X J (W.plainGet_of hg).1 (W.plainGet_of hg).2 hf (beq_iff_eq.mp ht) (by show(W.lookIn name od).map (·.isSome)=some false;rw[hl,hv];rfl) h
theorem HH {ns:List Str}{Q:Unit->Shared->Prop}(X:K.In s.heap)(I:xW s.heap x dx C mA)
  (hs:W.findIn K (.ref C) "__setattr__"=some (some (.builtin "object.__setattr__"))) (hp:W.plainOver K C=true) (ht:W.takerIn K C name=some none) (hh:W.hasDictIn K C=true)
  (hw:PySem.Within mA ns) (hsz:ns.length<=sizeLine)
  (h:∀h',xW h' x dx C (λy=>if y=name then some v else mA y)->Heap.SameBut dx s.heap h'->Q () {s with heap:=h',toks:=s.toks + 2}):
  wpAny (model prog w) A (setAttr (.ref x) name v) Q E s:=by
 obtain⟨od,J,hl⟩:=I.look
 refine W.set_plain X J hs (W.osa_open (s:={s with toks:=s.toks + 1}) (r:=none) X J hp ht λb=>?_)
 obtain⟨cd,hc,qg⟩:=W.any_some hh
 have hx:s.heap.get? x=some ⟨.ref C,some dx,.plain,#[]⟩:=I.obj
 refine wpAny_bind (wpAny_pure (wpAny_bind (wpAny_bind (wpAny_loadPart hx (wpAny_bind (W.Looks.here (s:={s with toks:=s.toks + 1}) (W.looks_clsIn X hc) ?_))))))
 rw[qg]
 refine wpAny_pure (a:=some dx) (wpAny_bind (wpAny_pure (wpAny_bind ?_)))
 refine wpAny_nsSet1 (s:={s with toks:=s.toks + 1}) I.ns λh' UI xC=>?_
 obtain⟨oD,esD,epD,hoD,hdD,hcD⟩:=UI.count (PySem.Within.cons name v hw)
 refine wpAny_bind (wpAny_lookBehind hoD (by rw[hdD];exact pastItsLine_dict (Nat.le_trans hcD (by rw[List.length_cons];omega))) ?_)
 exact wpAny_pure (h _ ⟨(xC.2 _ (Ne.symm I.ne)).trans I.obj,UI,I.ne⟩ xC)
theorem C9 {R:Result->Shared->Prop}{vs:List Value}{kw:List (Str×Value)}(X:K.In s.heap)(hm:W.makesIn K C=true)
  (hi:W.findIn K (.ref C) "__init__"=some (some (.ref f))) (hf:W.typeIn K (.ref f)=some (.type "function"))
  (h:codeAny (model prog w) (A.under (.builtin "type.__call__" ⟨.ref C::vs,kw⟩)) (.call (.ref f) ⟨.ref (s.heap.objs.size + 1)::vs,kw⟩) (W.InitBack (s.heap.objs.size + 1) R)
   {s with heap:=(s.heap.push W.emptyDict).push (W.instObj C s.heap.objs.size)}):
  codeAny (model prog w) A (.call (.ref C) ⟨vs,kw⟩) R s:=by
 obtain⟨hh,g,d,t,os⟩:=s
 exact W.make_core (W.makes_of X hm) (W.looks_findIn X hi) (λself=>W.bind_fn X self hf) (.inl rfl) h
end
def bo (f:Str)(v:V):List (Str×V)->List (Str×V)
 | []=>[(f,v)]
 | (g,x)::r=>if g=f then(g,v)::r else(g,x)::bo f v r
theorem bt (f g:Str)(v:V):∀fs:List (Str×V),(bo f v fs).lookup g=if g=f then some v else fs.lookup g
 | []=>by
  show List.lookup g [(f,v)]=_
  by_cases h:g=f
  ·have hb:(g == f)=true:=beq_iff_eq.mpr h
   simp only[List.lookup,hb,if_pos h]
  ·have hb:(g == f)=false:=beq_eq_false_iff_ne.mpr h
   simp only[List.lookup,hb,if_neg h]
 | (k,x)::r=>by
  have ih:=bt f g v r
  rw[show bo f v ((k,x)::r)=(if k=f then(k,v)::r else(k,x)::bo f v r) from rfl]
  by_cases hk:k=f
  ·rw[if_pos hk]
   by_cases h:g=k
   ·have hb:(g == k)=true:=beq_iff_eq.mpr h
    simp only[List.lookup,hb,if_pos (h.trans hk)]
   ·have hb:(g == k)=false:=beq_eq_false_iff_ne.mpr h
    simp only[List.lookup,hb,if_neg (λe:g=f=>h (e.trans hk.symm))]
  ·rw[if_neg hk]
   by_cases h:g=k
   ·have hb:(g == k)=true:=beq_iff_eq.mpr h
    simp only[List.lookup,hb,if_neg (λe:g=f=>hk (h.symm.trans e))]
   ·have hb:(g == k)=false:=beq_eq_false_iff_ne.mpr h
    simp only[List.lookup,hb]
    exact ih
theorem n0 (f:Str)(v:V):∀fs:List (Str×V),f ∈ (bo f v fs).map (·.1)/\∀g,g ∈ fs.map (·.1)->g ∈ (bo f v fs).map (·.1)
 | []=>⟨by simp[bo],λg h=>by simp at h⟩
 | (k,x)::r=>by
  obtain⟨i1,i2⟩:=n0 f v r
  rw[show bo f v ((k,x)::r)=(if k=f then(k,v)::r else(k,x)::bo f v r) from rfl]
  by_cases hk:k=f
  ·rw[if_pos hk]
   subst hk
   exact⟨by simp,λg h=>by simpa using h⟩
  ·rw[if_neg hk]
   refine⟨?_,λg h=>?_⟩
   ·rw[List.map_cons]
    exact List.mem_cons_of_mem _ i1
   ·rw[List.map_cons] at h ⊢
    rcases List.mem_cons.mp h with e | e
    ·exact List.mem_cons.mpr (.inl e)
    ·exact List.mem_cons_of_mem _ (i2 g e)
theorem kg (f:Str)(v:V):∀fs:List (Str×V),(bo f v fs).length<=fs.length + 1
 | []=>by simp[bo]
 | (k,x)::r=>by
  have ih:=kg f v r
  rw[show bo f v ((k,x)::r)=(if k=f then(k,v)::r else(k,x)::bo f v r) from rfl]
  by_cases hk:k=f
  ·rw[if_pos hk,List.length_cons,List.length_cons];omega
  ·rw[if_neg hk,List.length_cons,List.length_cons];omega
theorem j6.some_of{v:V}{o:Option Value}(r:j6 (some v) o):∃u,o=some u/\RelV v u:=by
 cases o with
 | none=>exact(show False from r).elim
 | some u=>exact⟨u,rfl,r⟩
theorem j6.none_of{o:Option Value}(r:j6 none o):o=none:=by
 cases o with
 | none=>rfl
 | some u=>exact(show False from r).elim
theorem Be {v:V}{u:Value}(r:RelV v u):W.handedIn u=true:=by
 cases v with
 | bR=>cases(show u=Value.none from r);rfl
 | bl b=>cases(show u=Value.bool b from r);rfl
 | int i=>obtain⟨t,e⟩:=(show ∃t,u=Value.int i t from r);cases e;rfl
 | str x=>obtain⟨t,e⟩:=(show ∃t,u=Value.str x t from r);cases e;rfl
 | xy b=>obtain⟨t,e⟩:=(show ∃t,u=Value.bytes b t from r);cases e;rfl
 | CA b=>obtain⟨t,e⟩:=(show ∃t,u=Value.float b t from r);cases e;rfl
 | ref a=>cases(show u=Value.ref a from r);rfl
 | ty n=>cases(show u=Value.type n from r);rfl
section
variable {P:Program}{w:World}{H H':Hp}{h h':Heap}{a C dx:Addr}{fs xB:List (Str×V)}
theorem mZ (bf:lP P w H h)(e:H a=some (.ins C dx fs)):∃mA,xW h a dx C mA/\(∀f,j6 (fs.lookup f) (mA f))/\PySem.Within mA (fs.map (·.1))/\fs.length<=1000/\H dx=some (.own a):=by
 obtain⟨d,z,ne,ob,mA,n,r,q⟩:=(show cR P w H h a (.ins C dx fs) from bf a _ e)
 exact⟨mA,⟨ob,n,ne⟩,r,q,z,d⟩
end
structure sZ (K:W.Frag)(C:Addr):Prop where
 pg:W.plainGet K C Str.empty=true
 hd:W.hasDictIn K C=true
 po:W.plainOver K C=true
 sa:W.findIn K (.ref C) "__setattr__"=some (some (.builtin "object.__setattr__"))
theorem sZ.get{K:W.Frag}(c:sZ K C)(f:Str):W.plainGet K C f=true:=c.pg
def cT (K:W.Frag)(C:Addr)(f:Str):Prop:=W.findIn K (.ref C) f=some none
theorem cT.Ql{K:W.Frag}{f:Str}(n:cT K C f):W.takerIn K C f=some none:=by
 unfold W.takerIn
 rw[show W.findIn K (.ref C) f=some none from n]
 rfl
structure Meth (K:W.Frag)(C:Addr)(m:Str)(f:Addr):Prop where
 at_:W.findIn K (.ref C) m=some (some (.ref f))
 fn:W.isFn K (.ref f)=true
 kp:W.keepIn K (.ref f)=true
section
variable {X:Cx}{pins:List (Addr×Obj)}{σ:St}{H:Hp}{s:Shared}{a C dx:Addr}{fs:List (Str×V)}{f:Str}{v:V}{A:Around}{E:Value->Shared->Prop}
theorem xX {b:Bool}(I:Inv X pins σ H s)(e:H a=some (.ins C dx fs))(c:sZ X.K C)(n:cT X.K C f)(l:fs.lookup f=some v)
  (h:∀u s',Inv X pins σ H s'->RelV v u->Q u s'):wpAny (model X.prog X.w) A (getAttr (.ref a) f b) Q E s:=by
 obtain⟨mA,O,r,_,_,_⟩:=mZ I.bf e
 obtain⟨u,hu,ru⟩:=j6.some_of (v:=v) (o:=mA f) (by rw[<-l];exact r f)
 exact get_map I.jF O (c.get f) c.hd n hu (Be ru) (h u _ (I.tok _) ru)
theorem lQ {m:Str}{g:Addr}{pl:Sem Bool}{Q:Value×List Value->Shared->Prop}(I:Inv X pins σ H s)(e:H a=some (.ins C dx fs))(c:sZ X.K C)(k:Meth X.K C m g)(l:fs.lookup m=none)
  (h:Q (.ref g,[.ref a]) s):wpAny (model X.prog X.w) A (getMethod (.ref a) m pl) Q E s:=by
 obtain⟨mA,O,r,_,_,_⟩:=mZ I.bf e
 have hn:mA m=none:=j6.none_of (by rw[<-l];exact r m)
 exact C8 I.jF O (c.get m) k.at_ k.fn hn h
theorem xY {y:V}{u:Value}{Q:Unit->Shared->Prop}(I:Inv X pins σ H s)(e:H a=some (.ins C dx fs))(c:sZ X.K C)(n:cT X.K C f)(hl:fs.length < 1000)(ry:RelV y u)
  (h:∀s',Inv X pins σ (upd H a (.ins C dx (bo f y fs))) s'->Q () s'):wpAny (model X.prog X.w) A (setAttr (.ref a) f u) Q E s:=by
 obtain⟨mA,O,r,wi,_,ho⟩:=mZ I.bf e
 have hz:(fs.map (·.1)).length<=sizeLine:=by rw[List.length_map,sizeLine_eq];omega
 refine HH I.jF O c.sa c.po n.Ql c.hd wi hz λh' O' sb=>h _ ?_
 have hd:∃o,h'.get? dx=some o:=let ⟨o,_,_,e',_⟩:=O'.ns;⟨o,e'⟩
 refine I.write (x:=a) (e:=dx) (by rw[e];exact True.intro) (.inr ho) (λb q hb z=>(sb.2 b hb).trans z) hd ?_
 refine⟨by rw[ay O.ne];exact ho,?_,O.ne,O'.obj,_,O'.ns,λg=>?_,λg hg=>?_⟩
 ·have:=kg f y fs;omega
 ·show j6 ((bo f y fs).lookup g) (if g=f then some u else mA g)
  rw[bt]
  by_cases q:g=f
  ·rw[if_pos q,if_pos q];exact ry
  ·rw[if_neg q,if_neg q];exact r g
 ·by_cases q:g=f
  ·rw[q];exact(n0 f y fs).1
  ·refine(n0 f y fs).2 g (wi g λz=>hg ?_)
   show(if g=f then some u else mA g)=none
   rw[if_neg q];exact z
theorem Inv.made(I:Inv X pins σ H s):Inv X pins σ (upd (upd H s.heap.objs.size (.own (s.heap.objs.size + 1))) (s.heap.objs.size + 1) (.ins C s.heap.objs.size []))
  {s with heap:=(s.heap.push W.emptyDict).push (W.instObj C s.heap.objs.size)}:=by
 have e1:(s.heap.push W.emptyDict).get? s.heap.objs.size=some W.emptyDict:=Heap.get?_push_size s.heap rfl
 have e2:((s.heap.push W.emptyDict).push (W.instObj C s.heap.objs.size)).get? (s.heap.objs.size + 1)=some (W.instObj C s.heap.objs.size):=by
  have:=Heap.get?_push_size (s.heap.push W.emptyDict) (o:=W.instObj C s.heap.objs.size) rfl
  rwa [Heap.size_push] at this
 have e3:(s.heap.push W.emptyDict).Ns s.heap.objs.size (λ_=>none):=⟨W.emptyDict,#[],_,e1,rfl,(λe he=>absurd he (by simp)),λ_=>rfl⟩
 have I1:=I.laid (a:=s.heap.objs.size) (o:=.own (s.heap.objs.size + 1)) (h':=s.heap.push W.emptyDict) (t':=s.toks) (λb u q=>Heap.get?_push_of_some _ q) (Nat.le_refl _) ⟨_,e1⟩
 refine I1.laid (a:=s.heap.objs.size + 1) (o:=.ins C s.heap.objs.size []) (t':=s.toks) (λb u q=>Heap.get?_push_of_some _ q) (Nat.le_of_eq (Heap.size_push _ _)) ?_
 have ne:s.heap.objs.size≠s.heap.objs.size + 1:=Nat.ne_of_lt (Nat.lt_succ_self _)
 refine⟨by rw[ay ne,af],Nat.zero_le _,ne,e2,λ_=>none,(Heap.Ns1.of_empty e3).at λo q=>Heap.get?_push_of_some _ q,λ_=>True.intro,λy hy=>absurd rfl hy⟩
theorem HI {prog:Program}{w:World}{env:Env}{e:Expr}{f:Str}{pos:Pos}{s:Shared}(hb:attributeBase e f env (eval e env)=eval e env)
  (h:wpAny (model prog w) A (eval e env) (λo s₁=>wpAny (model prog w) A (getAttr o f true) Q E s₁) E s):wpAny (model prog w) A (eval (.Attribute e f pos) env) Q E s:=
 Attribute_any_ h (by rw[arm_eval_Attribute,hb])
end
def HJ (K:W.Frag)(ta:TE)(f:Str):TE:=λσ H Q=>ta σ H λx H1=>∃a C dx fs v,x=.ref a/\H1 a=some (.ins C dx fs)/\sZ K C/\cT K C f/\fs.lookup f=some v/\Q v H1
def Mb (K:W.Frag)(ta tv:TE)(f:Str):TS:=λD σ H=>tv σ H λy H1=>ta σ H1 λx H2=>∃a C dx fs,x=.ref a/\H2 a=some (.ins C dx fs)/\sZ K C/\cT K C f/\fs.length < 1000/\
 D.nx σ (upd H2 a (.ins C dx (bo f y fs)))
section
variable {X:Cx}{o e value:Expr}{f:Str}{pos pos' Mc:Pos}{ta tv:TE}
theorem bI (he:PE X e ta)(hb:attributeBase e f X.env (eval e X.env)=eval e X.env):PE X (.Attribute e f pos) (HJ X.K ta f):=by
 walk_at "xc"
 refine HI hb (dq (he pins s σ H _ I h) λu s1 ⟨x,H1,I1,rx,a,C,dx,fs,v,ex,ea,c,n,l,q⟩=>?_)
 subst ex
 obtain rfl:u=Value.ref a:=rx
 exact xX I1 ea c n l λu' s2 I2 ru=>⟨v,H1,I2,ru,q⟩
theorem fB (ha:PE X o ta)(hv:PE X value tv)(hs:swapsWith value (some (.Attribute o f pos')) pos.line X.env=pure false):PS X (.Assign [.Attribute o f pos'] value pos) (Mb X.K ta tv f):=by
 walk_at "xd"
 refine plainObj_wpAny_Assign_Attribute (dq (hv pins s σ H _ I h) λu s1 ⟨y,H1,I1,ry,q⟩=>dq (ha pins s1 σ H1 _ I1 q) λov s2 ⟨x,H2,I2,rx,a,C,dx,fs,ex,ea,c,n,l,q2⟩=>?_) hs
 subst ex
 obtain rfl:ov=Value.ref a:=rx
 exact xY I2 ea c n l ry λs3 I3=>⟨σ,_,I3,q2⟩
theorem J0 {pl:Sem Bool}{m:Str}{apos:Pos}{args:List Expr}{pins:List (Addr×Obj)}{s:Shared}{σ:St}{H:Hp}{te:TE}(he:PE X e te)(I:Inv X pins σ H s)
  (h:te σ H λx H1=>∃a C dx fs g,x=.ref a/\H1 a=some (.ins C dx fs)/\sZ X.K C/\Meth X.K C m g/\fs.lookup m=none/\
   ∀s1,Inv X pins σ H1 s1->wpAny (model X.prog X.w) X.A (callWith pos (.ref g) [.ref a] (backTo pos (starEach args X.env)) (backToKw pos (keywordEach [] X.env))) Q X.xe s1)
  (ht:eval (.Call (.Attribute e m apos) args [] pos) X.env=(do
   let ov <-eval e X.env
   standAt apos.atName
   let (f,first) <-holding [ov] (getMethod ov m pl)
   callWith pos f first (backTo pos (starEach args X.env)) (backToKw pos (keywordEach [] X.env)))):
  wpAny (model X.prog X.w) X.A (eval (.Call (.Attribute e m apos) args [] pos) X.env) Q X.xe s:=by
 refine W.methodCall_KW (pl:=pl) (dq (he pins s σ H _ I h) λu s1 ⟨x,H1,I1,rx,a,C,dx,fs,g,ex,ea,c,k,l,q⟩=>?_) ht
 subst ex
 obtain rfl:u=Value.ref a:=rx
 exact lQ I1 ea c k l (q s1 I1)
end
section
variable {X:Cx}{pins:List (Addr×Obj)}{σ:St}{H:Hp}{s:Shared}{A:Around}{E:Value->Shared->Prop}{Q:Value->Shared->Prop}{c:Value}{b:Bool}
inductive fV (K:W.Frag)(H:Hp):V->Value->Prop where
  | bR:fV K H .bR (.type "NoneType")
  | bl (x:Bool):fV K H (.bl x) (.type "bool")
  | int (i:Int):fV K H (.int i) (.type "int")
  | str (x:Str):fV K H (.str x) (.type "str")
  | CA (x:UInt64):fV K H (.CA x) (.type "float")
  | lst {a:Addr} {xs:List V} (e:H a=some (.lst xs)):fV K H (.ref a) (.type "list")
  | xA {a:Addr} {o:Obj} {xs:List V} (e:H a=some (.xA o (.lst xs))):fV K H (.ref a) (.type "list")
  | tup {a:Addr} {xs:List V} (e:H a=some (.tup xs)):fV K H (.ref a) (.type "tuple")
  | dK {a:Addr} {bc:List (Key×V)} (e:H a=some (.dK bc)):fV K H (.ref a) (.type "dict")
  | dT {a:Addr} {bc:List (List Key×V)} (e:H a=some (.dT bc)):fV K H (.ref a) (.type "dict")
  | ins {a C dx:Addr} {fs:List (Str×V)} (e:H a=some (.ins C dx fs)) (cl:sZ K C) (ha:W.findIn K (.ref C) "__class__"=some (some (.builtin "object.__class__")))
      (hn:W.specialIn K (.builtin "object.__class__") "__get__"=some (some (.builtin "getset_descriptor.__get__"))) (UJ:W.takesIn K (.builtin "object.__class__")=some true)
      (hm:W.mroIn K C (.type "object")=some true):fV K H (.ref a) (.ref C)
theorem tf {x:V}{u t:Value}(I:Inv X pins σ H s)(rx:RelV x u)(ty:fV X.K H x t)(e:W.kitOne X.K t c=some b)(h:∀tk,Q (.bool b) {s with toks:=tk}):
  wpAny (model X.prog X.w) A (call (.builtin "isinstance") [u,c]) Q E s:=by
 cases ty with
 | bR=>cases(show u=Value.none from rx);exact W.kia_one W.kitx_none I.jF True.intro e (λz=>nomatch z) h
 | bl y=>cases(show u=Value.bool y from rx);exact W.kia_one W.kitx_bool I.jF True.intro e (λz=>nomatch z) h
 | int i=>obtain⟨t,q⟩:=(show ∃t,u=Value.int i t from rx);cases q;exact W.kia_one W.kitx_int I.jF True.intro e (λz=>nomatch z) h
 | str y=>obtain⟨t,q⟩:=(show ∃t,u=Value.str y t from rx);cases q;exact W.kia_one W.kitx_str I.jF True.intro e (λz=>nomatch z) h
 | CA y=>obtain⟨t,q⟩:=(show ∃t,u=Value.float y t from rx);cases q;exact W.kia_one W.kitx_float I.jF True.intro e (λz=>nomatch z) h
 | @lst a xs ea=>
  cases(show u=Value.ref a from rx)
  obtain⟨_,_,n,_,h1⟩:=(show cR X.prog X.w H s.heap a (.lst xs) from I.bf a _ ea)
  exact W.kia_one W.kitx_list I.jF ⟨_,h1,rfl⟩ e (λz=>nomatch z) h
 | @xA a ob xs ea=>
  cases(show u=Value.ref a from rx)
  obtain⟨_,_,_,n,_,h1⟩:=(show cR X.prog X.w H s.heap a (.xA ob (.lst xs)) from I.bf a _ ea)
  exact W.kia_one W.kitx_list I.jF ⟨_,h1,rfl⟩ e (λz=>nomatch z) h
 | @tup a xs ea=>
  cases(show u=Value.ref a from rx)
  obtain⟨_,_,_,p⟩:=(show cR X.prog X.w H s.heap a (.tup xs) from I.bf a _ ea)
  obtain⟨o,h1,h2,_⟩:=p
  exact W.kia_one W.kitx_tuple I.jF ⟨o,h1,h2⟩ e (λz=>nomatch z) h
 | @dK a bc ea=>
  cases(show u=Value.ref a from rx)
  obtain⟨_,_,vs,_,p⟩:=(show cR X.prog X.w H s.heap a (.dK bc) from I.bf a _ ea)
  obtain⟨o,es,ep,h1,h2,_⟩:=p
  exact W.kia_one W.kitx_dict I.jF ⟨o,h1,h2.1⟩ e (λz=>nomatch z) h
 | @dT a bc ea=>
  cases(show u=Value.ref a from rx)
  obtain⟨_,_,xs,_,o,es,ep,h1,h2,_⟩:=(show cR X.prog X.w H s.heap a (.dT bc) from I.bf a _ ea)
  exact W.kia_one W.kitx_dict I.jF ⟨o,h1,h2.1⟩ e (λz=>nomatch z) h
 | @ins a C dx fs ea cl ha hn UJ hm=>
  cases(show u=Value.ref a from rx)
  obtain⟨mA,O,_⟩:=mZ I.bf ea
  obtain⟨od,J,_⟩:=O.look
  exact W.kia_one (W.kitx_own (cl.get _) cl.hd ha hn UJ hm) I.jF J e (λz=>nomatch z) h
end
end
section
variable {A:Around}{H:Hp}{kw:List (Str×Value)}{us:List Value}{s:Shared}{mg:Str->Option Value}{K:W.Frag}
structure eP (k:Nat)(A:Around):Prop where
 hd:A.handled=none
 dp:A.depth + 3 * k + 5 < recursionLimit
 un:A.units + 16 * k + 200 < cLine
theorem eP.mono{j k:Nat}(r:eP k A)(h:j<=k):eP j A:=⟨r.hd,by have:=r.dp;omega,by have:=r.un;omega⟩
theorem eP.deeper{k:Nat}(r:eP (k + 1) A)(env:Env):eP k (A.deeper env):=
 ⟨r.hd,by have:=r.dp;show A.depth + 1 + 3 * k + 5 < _;omega,by have:=r.un;show A.units + 3 + 16 * k + 200 < _;omega⟩
theorem xZ {C:Addr}:(A.under (.builtin "type.__call__" ⟨.ref C::us,kw⟩)).depth=A.depth + 1:=by
 first | rfl | simp[Around.under,Code.weight,Code.isCreation,Code.isGuard,Code.isCaller,Code.frames,Code.isFrame,guardIds]
theorem x6 {C:Addr}:(A.under (.builtin "type.__call__" ⟨.ref C::us,kw⟩)).units=A.units + 1:=by
 first | rfl | simp[Around.under,Code.cUnits,Code.frames,Code.isFrame]
theorem eP.make{k:Nat}(r:eP (k + 1) A)(C:Addr)(us:List Value)(kw:List (Str×Value)):eP k (A.under (.builtin "type.__call__" ⟨.ref C::us,kw⟩)):=
 ⟨r.hd,by have:=r.dp;rw[xZ];omega,by have:=r.un;rw[x6];omega⟩
theorem eP.depth{k:Nat}(r:eP k A):A.depth < recursionLimit:=by have:=r.dp;omega
theorem eP.units{k:Nat}(r:eP k A):A.units + 64 < cLine:=by have:=r.un;omega
def Dc:TA:=λ_ H Q=>Q [] H
def zx (ta:TE)(tr:TA):TA:=λσ H Q=>ta σ H λx H1=>tr σ H1 λxs H2=>Q (x::xs) H2
section
variable {X:Cx}{e:Expr}{es:List Expr}{te:TE}{t:TA}{pos:Pos}
theorem aa:PA X [] Dc:=.mk λ_ _ _ _ H Q I h=>Calls.spliced_nil ⟨[],H,I,.nil,h⟩
theorem HK (ha:PE X e te)(hr:PA X es t)(hs:starEach (e::es) X.env=(false,eval e X.env)::starEach es X.env:=by rfl):PA X (e::es) (zx te t):=by
 refine⟨?_⟩
 intro pos pins s σ H Q I h
 rw[hs]
 show wpAny _ _ (spliced ((false,eval e X.env)::backTo pos (starEach es X.env))) _ _ s
 refine Calls.spliced_cons (dq (ha pins s σ H _ I h) λu s1 ⟨x,H1,I1,r1,q1⟩=>?_)
 exact dq (hr pos pins s1 σ H1 _ I1 q1) λus s2 ⟨xs,H2,I2,r2,q2⟩=>⟨x::xs,H2,I2,.cons r1 r2,q2⟩
def Md (t:TA):TE:=λσ H Q=>t σ H λxs H1=>xs.length<=sizeLine/\∀p,H1 p=none->Q (.ref p) (upd H1 p (.tup xs))
def Me (t:TA):TE:=λσ H Q=>t σ H λxs H1=>xs.length<=sizeLine/\∀p,H1 p=none->Q (.ref p) (upd H1 p (.lst xs))
theorem bC {x1}(h:PA X es t):PE X (.Tuple es x1 pos) (Md t):=by
 refine⟨?_⟩
 intro pins s σ H Q I hq
 refine wpAny_Tuple_spliced (dq (h pos pins s σ H _ I hq) λus s1 ⟨xs,H1,I1,r,z,q⟩=>⟨by rw[<-r.length];exact z,?_⟩)
 have hf:H1 s1.heap.objs.size=none:=I1.bf.fresh (Nat.le_refl _)
 refine⟨.ref s1.heap.objs.size,upd H1 s1.heap.objs.size (.tup xs),I1.laid (t':=s1.toks) (λb u e=>Heap.get?_push_of_some _ e) (Nat.le_refl _) ?_,rfl,q _ hf⟩
 exact⟨z,us,r,⟨_,Heap.get?_push_size _ rfl,rfl,_,rfl⟩⟩
theorem bN (h:PA X es t):PE X (.List es pos) (Me t):=by
 refine⟨?_⟩
 intro pins s σ H Q I hq
 refine wpAny_List_spliced (dq (h pos pins s σ H _ I hq) λus s1 ⟨xs,H1,I1,r,z,q⟩=>⟨by rw[<-r.length];exact z,?_⟩)
 have hf:H1 s1.heap.objs.size=none:=I1.bf.fresh (Nat.le_refl _)
 refine⟨.ref s1.heap.objs.size,upd H1 s1.heap.objs.size (.lst xs),I1.laid (t':=s1.toks) (λb u e=>Heap.get?_push_of_some _ e) (Nat.le_refl _) ?_,rfl,q _ hf⟩
 exact⟨z,us,0,r,Heap.get?_push_size _ rfl⟩
end
abbrev Sp:=List V->Hp->VK->XK->Prop
abbrev GS:=List Env->Hp->Shared->XK->Value->Shared->Prop
structure x8 (P:Program)(w:World)(K:W.Frag)(mg:Str->Option Value)(base:Heap)(A:Around)(outer:List Env)(s:Shared)(H:Hp):Prop where
 frames:A.frames=some outer
 mod:Mod K mg base
 bs:∀b o,base.get? b=some o->s.heap.get? b=some o/\H b=none
 Ce:base.objs.size<=s.heap.objs.size
 nS:s.heap.FunFrames base outer
 JS:∀b ∈ AX outer,H b=none
 bf:lP P w H s.heap
 bare:AllBare s.gens
def CE (outer:List Env)(P:Program)(w:World)(H:Hp)(s:Shared)(Q:VK)(u:Value)(s':Shared):Prop:=
 ∃v H',s'.os=s.os/\AllBare s'.gens/\Un (AX outer) [] H H' s.heap s'.heap/\lP P w H' s'.heap/\RelV v u/\Q v H'
def CR (CX:GS)(outer:List Env)(P:Program)(w:World)(H:Hp)(s:Shared)(Q:VK)(E:XK)(r:Result)(s':Shared):Prop:=
 match r with
 | .ok (.ret u)=>CE outer P w H s Q u s'
 | .ok _=>False
 | .error e=>CX outer H s E e s'
structure kh (P:Program)(w:World)(K:W.Frag)(mg:Str->Option Value)(base:Heap)(CX:GS)(k:Nat)(f:Addr)(fd:FuncData)(ps:List Str)(sp:Sp):Prop where
 len:∀vs H Q E,sp vs H Q E->vs.length=ps.length
 run:∀(A:Around) (outer:List Env) (s:Shared) (H:Hp) (args:Args) (us:List Value) (vs:List V) (Q:VK) (E:XK),eP k A->x8 P w K mg base A outer s H->BindsTo s fd args (ps.zip us)->Vals vs us->sp vs H Q E->
  codeAny (model P w) A (.call (.ref f) args) (CR CX outer P w H s Q E) s
theorem x8.make{P:Program}{w:World}{base:Heap}{outer:List Env}(e:x8 P w K mg base A outer s H)(C:Addr)(us:List Value)(kw:List (Str×Value)):
  x8 P w K mg base (A.under (.builtin "type.__call__" ⟨.ref C::us,kw⟩)) outer s H:=⟨by first | exact e.frames | (simpa[Around.under,Code.envs,Code.isFrame,pushEnvs] using e.frames),e.mod,e.bs,e.Ce,e.nS,e.JS,e.bf,e.bare⟩
section
variable {X:Cx}{pins:List (Addr×Obj)}{σ:St}{H:Hp}{s s':Shared}
theorem Inv.Qm(I:Inv X pins σ H s):x8 X.prog X.w X.K X.mg X.base X.A X.stack s H:=
 ⟨I.ok.frames,I.ok.mod,I.bs,Nat.le_trans I.ok.Ce I.sz,I.stack,I.zi,I.bf,I.bare⟩
theorem Inv.after{Q:VK}{u:Value}(I:Inv X pins σ H s)(h:CE X.stack X.prog X.w H s Q u s'):EP X pins σ Q u s':=by
 obtain⟨v,H',os,bare,un,bf,r,q⟩:=h
 obtain⟨hh,g,d,t,os'⟩:=s'
 obtain rfl:os'=s.os:=os
 exact⟨v,H',I.call (h':=hh) (g':=g) (d':=d) (t':=t) (ch:=[]) un bf bare (λb z=>absurd z (by simp)),r,q⟩
end
def vC (sp:Sp)(se:List V)(E:XK)(t:TA):TE:=λσ H Q=>t σ H λvs H1=>sp (vs++se) H1 Q E
def tj (C:Addr)(m:Str)(sp:Sp)(se:List V)(E:XK)(ta:TE)(t:TA):TE:=λσ H Q=>ta σ H λx H1=>∃a dx fs,x=.ref a/\H1 a=some (.ins C dx fs)/\fs.lookup m=none/\
 t σ H1 λvs H2=>sp (x::(vs++se)) H2 Q E
def zy (C:Addr)(sp:Sp)(se:List V)(E:XK)(t:TA):TE:=λσ H Q=>t σ H λvs H1=>∀x dx,H1 x=none->H1 dx=none->dx≠x->
 sp (.ref x::(vs++se)) (upd (upd H1 dx (.own x)) x (.ins C dx [])) (λv H2=>v=.bR/\Q (.ref x) H2) E
def Binds (K:W.Frag)(fd:FuncData)(ps:List Str)(ds:List Value):Prop:=
 ∀(s:Shared) (us:List Value),K.In s.heap->(us++ds).length=ps.length->BindsTo s fd ⟨us,[]⟩ (ps.zip (us++ds))
theorem Binds.all{fd:FuncData}{ps:List Str}(h:∀us:List Value,us.length=ps.length->bindArgs fd ⟨us,[]⟩=pure (ps.zip us)):Binds K fd ps []:=λs us _ hl=>by
 rw[List.append_nil] at hl ⊢
 exact .of_eq (h us hl)
def Passes (CX:GS)(X:Cx)(E:XK):Prop:=∀(pins:List (Addr×Obj)) (σ:St) (H:Hp) (s:Shared) (e:Value) (s':Shared),Inv X pins σ H s->CX X.stack H s E e s'->X.xe e s'
section
variable {X:Cx}{CX:GS}{k:Nat}{f C:Addr}{fd:FuncData}{ps:List Str}{sp:Sp}{se:List V}{ds:List Value}{E:XK}{x m:Str}{p pos apos:Pos}{e o:Expr}{es:List Expr}{ta:TE}{t:TA}
theorem x9 {pins:List (Addr×Obj)}{σ:St}{H:Hp}{s:Shared}{Q:VK}{us:List Value}{vs:List V}(F:kh X.prog X.w X.K X.mg X.base CX k f fd ps sp)(hr:eP k X.A)(hb:Binds X.K fd ps ds)(hd:Vals se ds)(hx:Passes CX X E)
  (I:Inv X pins σ H s) (r:Vals vs us) (h:sp (vs++se) H Q E):wpAny (model X.prog X.w) X.A (call (.ref f) us) (EP X pins σ Q) X.xe s:=by
 have r2:Vals (vs++se) (us++ds):=r.append hd
 have hl:(us++ds).length=ps.length:=by rw[<-r2.length];exact F.len _ _ _ _ h
 refine wpAny_call (codeAny_mono (F.run X.A X.stack s H ⟨us,[]⟩ (us++ds) (vs++se) Q E hr I.Qm (hb s us I.jF hl) r2 h) λr s' hq=>?_)
 cases r with
 | error e=>exact hx pins σ H s e s' I hq
 | ok fl=>
  cases fl with
  | ret u=>exact I.after hq
  | next=>exact False.elim hq
  | brk=>exact False.elim hq
  | cont=>exact False.elim hq
theorem HL (F:kh X.prog X.w X.K X.mg X.base CX k f fd ps sp)(hr:eP k X.A)(hg:Gl X x)(hm:X.mg x=some (.ref f))(hk:W.keepIn X.K (.ref f)=true)(hb:Binds X.K fd ps ds)(hd:Vals se ds)(hx:Passes CX X E)
  (ha:PA X (e::es) t) (uw:(x == ("__debug__":Str))=false:=by decide) (he:starEach (e::es) X.env=(false,eval e X.env)::starEach es X.env:=by rfl) (xD:(backTo pos (starEach es X.env)).any (·.1)=false:=by rfl):
  PE X (.Call (.Name x p) (e::es) [] pos) (vC sp se E t):=by
 walk_at "xc"
 refine wpAny_Call_Name_kw (qh I hg hm ?_ uw)
 refine W.callWith_K (h₀:=X.base) I.ok.mod.OA hk (dq (ha pos pins s σ H _ I h) λus s1 ⟨vs,H1,I1,r,q⟩=>⟨I1.jF,?_⟩) he xD
 exact x9 F hr hb hd hx I1 r q
theorem HM {pl:Sem Bool}(he:PE X o ta)(c:sZ X.K C)(hm:Meth X.K C m f)(F:kh X.prog X.w X.K X.mg X.base CX k f fd ps sp)(hr:eP k X.A)(hb:Binds X.K fd ps ds)(hd:Vals se ds)(hx:Passes CX X E)(ha:PA X (e::es) t)
  (qA:starEach (e::es) X.env=(false,eval e X.env)::starEach es X.env:=by rfl) (xD:(backTo pos (starEach es X.env)).any (·.1)=false:=by rfl)
  (ht:eval (.Call (.Attribute o m apos) (e::es) [] pos) X.env=(do
   let ov <-eval o X.env
   standAt apos.atName
   let (f,first) <-holding [ov] (getMethod ov m pl)
   callWith pos f first (backTo pos (starEach (e::es) X.env)) (backToKw pos (keywordEach [] X.env))):=by rfl):
  PE X (.Call (.Attribute o m apos) (e::es) [] pos) (tj C m sp se E ta t):=by
 walk_at "xc"
 refine W.methodCall_KW (pl:=pl) (dq (he pins s σ H _ I h) λu s1 ⟨x,H1,I1,rx,a,dx,fs,ex,ea,l,q⟩=>?_) ht
 subst ex
 obtain rfl:u=Value.ref a:=rx
 refine lQ I1 ea c hm l ?_
 refine W.callWith_K (first:=[.ref a]) (h₀:=X.base) I.ok.mod.OA hm.kp (dq (ha pos pins s1 σ H1 _ I1 q) λus s2 ⟨vs,H2,I2,r,q2⟩=>⟨I2.jF,?_⟩) qA xD
 exact x9 (us:=.ref a::us) (vs:=.ref a::vs) F hr hb hd hx I2 (.cons rfl r) q2
theorem Dd {pl:Sem Bool}(he:PE X o ta)(c:sZ X.K C)(hm:Meth X.K C m f)(F:kh X.prog X.w X.K X.mg X.base CX k f fd ps sp)(hr:eP k X.A)(hb:Binds X.K fd ps ds)(hd:Vals se ds)(hx:Passes CX X E)
  (ht:eval (.Call (.Attribute o m apos) [] [] pos) X.env=(do
   let ov <-eval o X.env
   standAt apos.atName
   let (f,first) <-holding [ov] (getMethod ov m pl)
   callWith pos f first (backTo pos (starEach [] X.env)) (backToKw pos (keywordEach [] X.env))):=by rfl):
  PE X (.Call (.Attribute o m apos) [] [] pos) (tj C m sp se E ta Dc):=by
 walk_at "xc"
 refine W.methodCall_KW (pl:=pl) (dq (he pins s σ H _ I h) λu s1 ⟨x,H1,I1,rx,a,dx,fs,ex,ea,l,q⟩=>?_) ht
 subst ex
 obtain rfl:u=Value.ref a:=rx
 refine lQ I1 ea c hm l ?_
 exact W.callWith_K0 (first:=[.ref a]) I1.jF hm.kp (x9 (us:=[.ref a]) (vs:=[.ref a]) F hr hb hd hx I1 (.cons rfl .nil) q)
structure Mk (K:W.Frag)(C f:Addr):Prop where
 makes:W.makesIn K C=true
 init:W.findIn K (.ref C) "__init__"=some (some (.ref f))
 fn:W.isFn K (.ref f)=true
 kp:W.keepIn K (.ref C)=true
theorem De {pins:List (Addr×Obj)}{σ:St}{Q:VK}{vs:List V}(M:Mk X.K C f)(F:kh X.prog X.w X.K X.mg X.base CX k f fd ps sp)(hr:eP (k + 1) X.A)(hb:Binds X.K fd ps ds)(hd:Vals se ds)
  (hx:Passes CX X E) (I:Inv X pins σ H s) (r:Vals vs us)
  (h:∀x dx,H x=none->H dx=none->dx≠x->sp (.ref x::(vs++se)) (upd (upd H dx (.own x)) x (.ins C dx [])) (λv H2=>v=.bR/\Q (.ref x) H2) E):
  wpAny (model X.prog X.w) X.A (call (.ref C) us) (EP X pins σ Q) X.xe s:=by
 have hq:=h (s.heap.objs.size + 1) s.heap.objs.size (I.bf.fresh (Nat.le_succ _)) (I.bf.fresh (Nat.le_refl _)) (Nat.ne_of_lt (Nat.lt_succ_self _))
 have I2:=Inv.made (C:=C) I
 have r2:Vals (V.ref (s.heap.objs.size + 1)::(vs++se)) (Value.ref (s.heap.objs.size + 1)::(us++ds)):=.cons rfl (r.append hd)
 have hl:(Value.ref (s.heap.objs.size + 1)::us++ds).length=ps.length:=by
  have e:=r2.length
  rw[F.len _ _ _ _ hq] at e
  exact e.symm
 refine wpAny_call (C9 (f:=f) I.jF M.makes M.init (beq_iff_eq.mp M.fn) (codeAny_mono (F.run _ X.stack _ _ ⟨Value.ref (s.heap.objs.size + 1)::us,[]⟩ (Value.ref (s.heap.objs.size + 1)::(us++ds)) _ _ E (hr.make C us [])
  (I2.Qm.make C us []) (hb _ (Value.ref (s.heap.objs.size + 1)::us) I2.jF hl) r2 hq) λr s' Qn=>?_))
 cases r with
 | error e=>exact hx pins σ _ _ e s' I2 Qn
 | ok fl=>
  cases fl with
  | ret u=>
   obtain⟨v,H',I3,rv,ev,q3⟩:=I2.after Qn
   subst ev
   exact⟨rv,⟨V.ref (s.heap.objs.size + 1),H',I3,rfl,q3⟩⟩
  | next=>exact False.elim Qn
  | brk=>exact False.elim Qn
  | cont=>exact False.elim Qn
theorem HN (M:Mk X.K C f)(F:kh X.prog X.w X.K X.mg X.base CX k f fd ps sp)(hr:eP (k + 1) X.A)(hg:Gl X x)(hm:X.mg x=some (.ref C))(hb:Binds X.K fd ps ds)(hd:Vals se ds)(hx:Passes CX X E)
  (ha:PA X (e::es) t) (uw:(x == ("__debug__":Str))=false:=by decide) (he:starEach (e::es) X.env=(false,eval e X.env)::starEach es X.env:=by rfl) (xD:(backTo pos (starEach es X.env)).any (·.1)=false:=by rfl):
  PE X (.Call (.Name x p) (e::es) [] pos) (zy C sp se E t):=by
 walk_at "xc"
 refine wpAny_Call_Name_kw (qh I hg hm ?_ uw)
 refine W.callWith_K (h₀:=X.base) I.ok.mod.OA M.kp (dq (ha pos pins s σ H _ I h) λus s1 ⟨vs,H1,I1,r,q⟩=>⟨I1.jF,?_⟩) he xD
 exact De M F hr hb hd hx I1 r q
end
structure aD (N P:List Str)(sc:Scope):Prop where
 kind:sc.kind=.function
 co:sc.isCoroutine=false
 gen:sc.isGenerator=false
 nd:N.Nodup
 pre:N.take P.length=P
 par:∀x ∈ P,sc.names.lookup x=some .local\/sc.names.lookup x=some .cell
 Mf:∀y ∈ sc.names,y.2≠.free
theorem tm {kindOf:Str->Option NameKind}{x:Str}:∀{binds:List (Str×Value)} {m:Str->Option Value},(∀v,(x,v) ∉ binds)->bindL kindOf binds m x=m x
 | [],_,_=>rfl
 | (n,v)::r,m,h=>by
  unfold bindL
  rw[tm λw hw=>h w (List.mem_cons_of_mem _ hw)]
  split
  ·have:x≠n:=by rintro rfl;exact h v List.mem_cons_self
   simp[this]
  ·rfl
theorem tq {kindOf:Str->Option NameKind}{x:Str}:∀{binds:List (Str×Value)} {m:Str->Option Value},(∀v,(x,v) ∉ binds)->bindC kindOf binds m x=m x
 | [],_,_=>rfl
 | (n,v)::r,m,h=>by
  unfold bindC
  rw[tq λw hw=>h w (List.mem_cons_of_mem _ hw)]
  split
  ·rfl
  ·have:x≠n:=by rintro rfl;exact h v List.mem_cons_self
   simp[this]
theorem tw {kindOf:Str->Option NameKind}{x:Str}{v:Value}:∀{P:List Str} {vs:List Value} {i:Nat} {m:Str->Option Value},P.Nodup->P[i]?=some x->vs[i]?=some v->kindOf x=some .local->
  bindL kindOf (P.zip vs) m x=some v
 | [],_,_,_,_,h,_,_=>by simp at h
 | _::_,[],_,_,_,_,h,_=>by simp at h
 | p::P,w::vs,0,m,nd,h1,h2,hk=>by
  simp at h1 h2;subst h1;subst h2
  show bindL kindOf ((p,w)::P.zip vs) m p=_
  unfold bindL
  rw[tm λv hv=>(List.nodup_cons.mp nd).1 (List.of_mem_zip hv).1,if_pos hk]
  simp
 | p::P,w::vs,i + 1,m,nd,h1,h2,hk=>by
  show bindL kindOf ((p,w)::P.zip vs) m x=_
  unfold bindL
  exact tw (i:=i) (List.nodup_cons.mp nd).2 (by simpa using h1) (by simpa using h2) hk
theorem tx {kindOf:Str->Option NameKind}{x:Str}{v:Value}:∀{P:List Str} {vs:List Value} {i:Nat} {m:Str->Option Value},P.Nodup->P[i]?=some x->vs[i]?=some v->kindOf x≠some .local->
  bindC kindOf (P.zip vs) m x=some v
 | [],_,_,_,_,h,_,_=>by simp at h
 | _::_,[],_,_,_,_,h,_=>by simp at h
 | p::P,w::vs,0,m,nd,h1,h2,hk=>by
  simp at h1 h2;subst h1;subst h2
  show bindC kindOf ((p,w)::P.zip vs) m p=_
  unfold bindC
  rw[tq λv hv=>(List.nodup_cons.mp nd).1 (List.of_mem_zip hv).1,if_neg hk]
  simp
 | p::P,w::vs,i + 1,m,nd,h1,h2,hk=>by
  show bindC kindOf ((p,w)::P.zip vs) m x=_
  unfold bindC
  exact tx (i:=i) (List.nodup_cons.mp nd).2 (by simpa using h1) (by simpa using h2) hk
def start (N:List Str)(vs:List V):St:=vs.map some++List.replicate (N.length - vs.length) none
def pO (CX:GS)(P:Program)(w:World)(K:W.Frag)(mg:Str->Option Value)(base:Heap)(N:List Str)(qual:Str)(scope:Scope)(f:Addr)(cd:Value)(A:Around)(outer:List Env)(s:Shared)(H:Hp)(E:XK):Cx where
 prog:=P
 w:=w
 K:=K
 mg:=mg
 base:=base
 A:=A.deeper (envOfC qual scope s.heap.objs.size f cd)
 N:=N
 s₀:=s
 H₀:=H
 env:=envOfC qual scope s.heap.objs.size f cd
 outer:=outer
 stack:=envOfC qual scope s.heap.objs.size f cd::outer
 ex:=[]
 calm:=true
 fn:=λ_=>true
 pn:=[]
 xe:=λe s'=>wpAny (model P w) (A.deeper (envOfC qual scope s.heap.objs.size f cd)) (leaving (envOfC qual scope s.heap.objs.size f cd) e) (λ_ Wq=>CX outer H s E e Wq) (λe' Wq=>CX outer H s E e' Wq) s'
theorem vD {sc:Scope}{n:Nat}{x:Str}(h:sc.names.lookup x=some .cell):∃c,(cellsFrom n sc.names []).lookup x=some c:=by
 have q:=W.cellsFrom_some sc.names n [] (.inl h)
 exact Option.isSome_iff_exists.mp q
theorem Bf {CX:GS}{P:Program}{w:World}{base:Heap}{N ps:List Str}{qual:Str}{scope:Scope}{f:Addr}{cd:Value}{outer:List Env}{s1:Shared}{E:XK}{vs:List V}
  (S:aD N ps scope) (hd:A.handled=none) (e0:x8 P w K mg base A outer s H) (hl:vs.length=ps.length) (r:Vals vs us)
  (x:InCallC s s.heap.objs.size (bindL (envOfC qual scope s.heap.objs.size f cd).kindOf (ps.zip us) λ_=>none) (cellsFrom (s.heap.objs.size + 1) scope.names []) (bindC (envOfC qual scope s.heap.objs.size f cd).kindOf (ps.zip us) λ_=>none) s1):
  Inv (pO CX P w K mg base N qual scope f cd A outer s H E) [] (start N vs) H s1:=by
 have xD:ps.length<=N.length:=by have:=congrArg List.length S.pre;rw[List.length_take] at this;omega
 obtain⟨h1,tk,rfl,hk⟩:=x.done
 have Qo:∀b:Addr,b ∉ (pO CX P w K mg base N qual scope f cd A outer s H E).ex:=λb z=>absurd (show b ∈ ([]:List Addr) from z) (by simp)
 refine⟨⟨e0.mod,S.kind,rfl,rfl,Nat.le_refl _,λy z c h1 h2=>?_,λy hy=>?_,λy c _ h=>?_,λ_=>hd,Around.frames_deeper e0.frames,.inr ⟨rfl,rfl⟩,λb z=>absurd z (Qo b),e0.bs,e0.Ce,λb _ _=>Qo b,λb z=>absurd z (Qo b),e0.nS,e0.JS⟩,
  rfl,e0.bare,Un.kept hk,⟨_,x.toInCall.ns,λi y v h1 h2 h3=>?_⟩,λy c h=>⟨_,x.cell y c h⟩,e0.bf.fresh (Nat.le_refl _),λy c h=>?_,λp hp=>absurd (show p ∈ ([]:List (Addr×Obj)) from hp) (by simp),e0.bf.kept hk,?_⟩
 ·exact name_of_addr x.apart (PySem.mem_of_lookup h1) (PySem.mem_of_lookup h2)
 ·have hy:scope.names.lookup y=some .cell\/scope.names.lookup y=some .free:=hy
  rcases hy with hy | hy
  ·exact vD hy
  ·exact absurd rfl (S.Mf _ (PySem.mem_of_lookup hy))
 ·exact Nat.le_of_lt (x.above y c (PySem.mem_of_lookup h))
 ·have hi:i < vs.length:=by
   unfold start at h2
   by_cases hi:i < vs.length
   ·exact hi
   ·rw[List.getElem?_append_right (by simpa using hi)] at h2
    rw[List.getElem?_replicate] at h2
    split at h2 <;> cases h2
  have ha:vs[i]?=some v:=by
   unfold start at h2
   rw[List.getElem?_append_left (by simpa using hi),List.getElem?_map] at h2
   cases e:vs[i]? with
   | none=>rw[e] at h2;cases h2
   | some a=>rw[e] at h2;cases h2;rfl
  obtain⟨u,hu,rv⟩:=r.get ha
  have hp:ps[i]?=some y:=by
   rw[<-S.pre,List.getElem?_take_of_lt (by omega)];exact h1
  have ndP:ps.Nodup:=by rw[<-S.pre];exact S.nd.sublist (List.take_sublist _ _)
  refine⟨u,rv,?_⟩
  rcases S.par y (List.mem_of_getElem? hp) with k | k
  ·exact .inl ⟨k,tw ndP hp hu k⟩
  ·obtain⟨c,e⟩:=vD (n:=s.heap.objs.size + 1) k
   refine .inr ⟨.inl k,c,e,?_⟩
   have q:=x.cell y c e
   rw[tx ndP hp hu (by show scope.names.lookup y≠_;rw[k];decide)] at q
   exact q
 ·exact e0.bf.fresh (Nat.le_of_lt (x.above y c (PySem.mem_of_lookup h)))
 ·unfold start
  show _=N.length
  rw[List.length_append,List.length_map,List.length_replicate]
  omega
theorem Qp {CX:GS}{P:Program}{w:World}{base:Heap}{k:Nat}{f:Addr}{name qual:Str}{params:Arguments}{body:List Stmt}{scope:Scope}{dV kV doc pm fT ct oc:Value}{an od:Option Addr}
  {J1:Array (Option Value)} {N ps:List Str} {sp:Sp} (lk:K.lookup f=some ⟨oc,od,.func (W.fnOf name qual params body scope dV kV doc pm an fT ct),J1⟩) (A0:W.codeIn K fT qual=true) (S:aD N ps scope)
  (len:∀vs H Q E,sp vs H Q E->vs.length=ps.length)
  (ki:∀(A:Around) (outer:List Env) (s:Shared) (H:Hp) (vs:List V) (Q:VK) (E:XK),eP k (A.deeper (envOfC qual scope s.heap.objs.size f fT))->sp vs H Q E->
   ∃t,uu (pO CX P w K mg base N qual scope f fT A outer s H E) body t/\t {nx:=λ_ H'=>Q .bR H',rt:=Q} (start N vs) H):
  kh P w K mg base CX (k + 1) f (W.fnOf name qual params body scope dV kV doc pm an fT ct) ps sp:=by
 refine⟨len,λA outer s H args us vs Q E hr e0 hb r J2=>?_⟩
 have hl:=len _ _ _ _ J2
 have KX:K.In s.heap:=e0.mod.OA.keeps λb o e=>(e0.bs b o e).1
 have lim:s.heap.NoLimit:=e0.mod.nolimit.keeps λb o e=>(e0.bs b o e).1
 have zz:∀y ∈ ps.zip us,scope.names.lookup y.1=some .local\/(scope.names.lookup y.1=some .cell/\((cellsFrom (s.heap.objs.size + 1) scope.names []).lookup y.1).isSome=true):=λ⟨n,v⟩ hy=>by
  rcases S.par n (List.of_mem_zip hy).1 with q | q
  ·exact .inl q
  ·exact .inr ⟨q,W.cellsFrom_some _ _ _ (.inl q)⟩
 refine codeAny_call_function hr.depth (KX _ _ lk) rfl S.co S.gen rfl (W.codeRec_of KX A0) (hb _ _ _ _ ?_)
 refine wpAny_newFunctionEnv_cells S.kind zz λenv he s1 x=>?_
 subst he
 refine⟨lim.keeps x.toInCall.keep,codeAny_func ?_⟩
 obtain⟨t,ht,hq⟩:=ki A outer s H vs Q E (hr.deeper _) J2
 have I:Inv (pO CX P w K mg base N qual scope f fT A outer s H E) [] (start N vs) H s1:=Bf S hr.hd e0 hl r x
 refine wpAny_mono (ht [] s1 (start N vs) H _ I hq) (λfl s' hs=>?_) λe s' hs=>hs
 have fin:∀{σ':St} {H':Hp} {v:V} {u:Value},Inv (pO CX P w K mg base N qual scope f fT A outer s H E) [] σ' H' s'->RelV v u->Q v H'->CE outer P w H s Q u s':=
  λ{σ' H' v u} J rv q=>⟨v,H',J.os,J.bare,J.base,J.bf,rv,q⟩
 cases fl with
 | ret u=>
  obtain⟨v,σ',H',J,rv,q⟩:=hs
  exact fin J rv q
 | next=>
  obtain⟨σ',H',J,q⟩:=hs
  exact fin (v:=V.bR) (u:=Value.none) J rfl q
 | brk=>
  obtain⟨_,_,_,q⟩:=hs
  exact False.elim q
 | cont=>
  obtain⟨_,_,_,q⟩:=hs
  exact False.elim q
end
section
section
variable {X:Cx}{x:Str}{p pos:Pos}{e:Expr}{es:List Expr}{t:TA}{id T:String}{r:List V->Hp->VK->Prop}
def OD (r:List V->Hp->VK->Prop)(t:TA):TE:=λσ H Q=>t σ H λvs H1=>r vs H1 Q
theorem Df (hc:fg X (.builtin id) r)(hg:Gl X x)(hm:X.mg x=none)(hv:bootBuiltins x=some (.builtin id))(ha:PA X (e::es) t)(hn:x≠"__name__":=by decide)(uw:(x == ("__debug__":Str))=false:=by decide)
  (he:starEach (e::es) X.env=(false,eval e X.env)::starEach es X.env:=by rfl) (xD:(backTo pos (starEach es X.env)).any (·.1)=false:=by rfl):PE X (.Call (.Name x p) (e::es) [] pos) (OD r t):=by
 walk_at "xc"
 refine wpAny_Call_Name_kw (nU I hg hm hv ?_ hn uw)
 exact PyProof.Rows.callWith_builtin1 (dq (ha pos pins s σ H _ I h) λus s1 ⟨vs,H1,I1,r1,q1⟩=>hc pins s1 σ H1 vs us Q I1 r1 q1) he xD
theorem Bg (hc:fg X (.type T) r)(hg:Gl X x)(hm:X.mg x=none)(hv:bootBuiltins x=some (.type T))(ha:PA X (e::es) t)(hn:x≠"__name__":=by decide)(uw:(x == ("__debug__":Str))=false:=by decide)
  (he:starEach (e::es) X.env=(false,eval e X.env)::starEach es X.env:=by rfl) (xD:(backTo pos (starEach es X.env)).any (·.1)=false:=by rfl):PE X (.Call (.Name x p) (e::es) [] pos) (OD r t):=by
 walk_at "xc"
 refine wpAny_Call_Name_kw (nU I hg hm hv ?_ hn uw)
 exact PyProof.Rows.callWith_type1 (dq (ha pos pins s σ H _ I h) λus s1 ⟨vs,H1,I1,r1,q1⟩=>hc pins s1 σ H1 vs us Q I1 r1 q1) he xD
end
end
end L2
namespace HT
open PySem PyProof.Rows
variable {Q:Value->Shared->Prop}
section
open PySem.SeqAt
open PySem.AutoSeq1 (wpAny_loadPart')
open PySem.MeetsSeq PySem.MeetsSeq2 PySem.MeetsSeq3
end
section
variable {prog:Program}{w:World}{A:Around}{E:Value->Shared->Prop}{s:Shared}
theorem HQ {t b:Addr}{vs ws:List Value}(ht:IsTup s.heap t vs.toArray)(hb:IsTup s.heap b ws.toArray)(hv:vs≠[])
  (h1:ws=[]->Q (.ref t) s) (h2:ws≠[]->Q (.ref s.heap.objs.size) {s with heap:=s.heap.push {cls:=.type "tuple",data:=.seq (vs++ws).toArray}})
  (hsz:vs.length + ws.length<=sizeLine):wpAny (model prog w) A (binaryOp .Add (.ref t) (.ref b)) Q E s:=by
 obtain⟨⟨cls,dd,data,sl⟩,ho,hc,n,hd⟩:=id ht
 obtain⟨⟨Wr,UK,data2,UL⟩,Mg,J3,n2,hd2⟩:=id hb
 simp only at hc hd J3 hd2
 subst hc hd J3 hd2
 have e:vs.toArray++ws.toArray=(vs++ws).toArray:=by simp
 by_cases hw:ws=[]
 ·exact concat_meets ⟨_,ho,rfl⟩ ⟨_,Mg,rfl⟩ noFill_tuple_add seq_tuple_add PySem.F.slot_tuple_add PySem.F.entry_tuple_add (PySem.F.args_tuple_add_2 _ _)
   (tuple_addW1 t b vs.toArray ws.toArray n n2 dd UK sl UL (by simpa using hv) (by simp[hw])) ⟨ho,Mg,h1 hw⟩
 ·refine concat_meets ⟨_,ho,rfl⟩ ⟨_,Mg,rfl⟩ noFill_tuple_add seq_tuple_add PySem.F.slot_tuple_add PySem.F.entry_tuple_add (PySem.F.args_tuple_add_2 _ _)
   (tuple_addW2 t b vs.toArray ws.toArray n n2 dd UK sl UL (by simpa using hv) (by simpa using hw) (by rw[List.size_toArray,List.size_toArray];exact hsz)) ⟨ho,Mg,?_⟩
  rw[e]
  exact h2 hw
def d9 (n d:Nat):Option Int->Nat
 | none=>d
 | some v=>if v < 0 then(v + (n:Int)).toNat else min v.toNat n
theorem Dg (n d:Nat):d9 n d none=d:=rfl
theorem ux (n d k:Nat):d9 n d (some (k:Int))=min k n:=by
 show(if (k:Int) < 0 then((k:Int) + (n:Int)).toNat else min (k:Int).toNat n)=min k n
 rw[if_neg (by omega),Int.toNat_natCast]
theorem Mh (n d:Nat)(hd:d<=n)(o:Option Int):d9 n d o<=n:=by
 cases o with
 | none=>exact hd
 | some v=>
  show(if v < 0 then(v + (n:Int)).toNat else min v.toNat n)<=n
  by_cases hv:v < 0
  ·rw[if_pos hv];omega
  ·rw[if_neg hv];exact Nat.min_le_right _ _
theorem zA (v:Int)(n d:Nat):(if v < 0 then max (v + (n:Int)) 0 else min v (n:Int))=((d9 n d (some v):Nat):Int):=by
 show(if v < 0 then max (v + (n:Int)) 0 else min v (n:Int))=(((if v < 0 then(v + (n:Int)).toNat else min v.toNat n):Nat):Int)
 by_cases hv:v < 0
 ·simp only[if_pos hv];omega
 ·simp only[if_neg hv];omega
theorem ya (lo hi:Option Int)(n:Nat):Builtin.Slice.sliceAdjust lo hi 1 (n:Int)=(((d9 n 0 lo:Nat):Int),((d9 n n hi:Nat):Int)):=by
 have h1:¬((1:Int) < 0):=by omega
 unfold Builtin.Slice.sliceAdjust
 simp only[h1,if_false]
 refine Prod.ext ?_ ?_
 ·cases lo with
  | none=>rfl
  | some v=>exact zA v n 0
 ·cases hi with
  | none=>rfl
  | some v=>exact zA v n n
theorem yb (i j:Nat):Builtin.Slice.slicePlaces (i:Int) (j:Int) 1=j - i:=by
 unfold Builtin.Slice.slicePlaces
 have h1:(1:Int) > 0:=by omega
 simp only[h1,if_true,Int.ediv_one]
 split <;> omega
theorem qD {v:Value}{o:Option Int}{Q:Option Int->Shared->Prop}(p:IsPart v o)(h:Q o s):wpAny (model prog w) A (Builtin.Slice.slicePartIndex v) Q E s:=by
 cases p with
 | none=>exact slicePart_none h
 | int i t=>exact slicePart_int h
theorem ju {sl:Addr}{vl vu:Value}{lo hi:Option Int}{n:Nat}{Q:Int×Int×Nat->Shared->Prop}(hs:s.heap.IsSliceOf sl vl vu .none)(pl:IsPart vl lo)(pu:IsPart vu hi)
  (h:Q (((d9 n 0 lo:Nat):Int),1,d9 n n hi - d9 n 0 lo) s):wpAny (model prog w) A (Builtin.Slice.sliceApplied (.ref sl) (pure (n:Int))) Q E s:=by
 obtain⟨os,Mi,Qq,yc⟩:=id hs
 unfold Builtin.Slice.sliceApplied Builtin.Slice.sliceFields
 refine wpAny_bind (wpAny_bind (wpAny_field Mi yc (x:=vl) rfl (wpAny_bind (wpAny_field Mi yc (x:=vu) rfl (wpAny_bind (wpAny_field Mi yc (x:=.none) rfl (wpAny_pure ?_)))))))
 refine wpAny_bind (slicePart_none ?_)
 show wpAny _ _ (if ((1:Int) == 0)=true then _ else _) _ _ s
 rw[if_neg (by decide)]
 refine wpAny_bind (qD pl (wpAny_bind (qD pu (wpAny_bind (wpAny_pure ?_)))))
 show wpAny _ _ (match Builtin.Slice.sliceAdjust lo hi 1 (n:Int) with | (lo,hi)=>pure (lo,(1:Int),Builtin.Slice.slicePlaces lo hi 1)) _ _ s
 rw[ya lo hi n]
 show wpAny _ _ (pure (((d9 n 0 lo:Nat):Int),(1:Int),Builtin.Slice.slicePlaces ((d9 n 0 lo:Nat):Int) ((d9 n n hi:Nat):Int) 1)) _ _ s
 rw[yb]
 exact wpAny_pure h
theorem Dh (xs:Array Value)(i k:Nat):((List.range k).filterMap λ(m:Nat)=>xs[((i:Int) + (m:Int) * 1).toNat]?).toArray=((xs.toList.drop i).take k).toArray:=by
 have e:(λ(m:Nat)=>xs[((i:Int) + (m:Int) * 1).toNat]?)=λm=>xs[i + m]?:=by
  funext m
  have:((i:Int) + (m:Int) * 1).toNat=i + m:=by omega
  rw[this]
 rw[e]
 have:=pick_run xs i k
 rw[List.filterMap_map] at this
 have e2:((λx=>xs[x]?) ∘ λx=>i + x)=λm=>xs[i + m]?:=rfl
 rw[e2] at this
 rw[this]
theorem m7 {t sl:Addr}{items:Array Value}{vl vu:Value}{lo hi:Option Int}(ht:IsTup s.heap t items)(hs:s.heap.IsSliceOf sl vl vu .none)(pl:IsPart vl lo)(pu:IsPart vu hi)
  (hw:¬(d9 items.size 0 lo=0/\d9 items.size items.size hi=items.size))
  (h:Q (.ref s.heap.objs.size) {s with heap:=s.heap.push {cls:=.type "tuple",data:=.seq ((items.toList.drop (d9 items.size 0 lo)).take (d9 items.size items.size hi - d9 items.size 0 lo)).toArray}})
  (hsz:items.size<=sizeLine):wpAny (model prog w) A (getItem (.ref t) (.ref sl)) Q E s:=by
 have zB:sizeOk (.seq ((items.toList.drop (d9 items.size 0 lo)).take (d9 items.size items.size hi - d9 items.size 0 lo)).toArray):=by
  show((items.toList.drop (d9 items.size 0 lo)).take (d9 items.size items.size hi - d9 items.size 0 lo)).toArray.size<=sizeLine
  rw[List.size_toArray,List.length_take,List.length_drop,Array.length_toList]
  omega
 have hj:d9 items.size items.size hi<=items.size:=Mh _ _ (Nat.le_refl _) hi
 obtain⟨os,Mi,Qq,yc⟩:=id hs
 have Ws:s.TypeIs (.ref sl) "slice":=⟨os,Mi,Qq⟩
 unfold getItem
 try with_reducible refine wpAny_holding ?_
 first | refine wpAny_bind (wpAny_pure ?_) | skip
 refine wpAny_bind (wpAny_sequenceKey ht.typeIs (by decide) ?_)
 refine wpAny_bind (wpAny_callSpecial?_slot (name:=Str.ofString "__getitem__") ht.typeIs PyProof.Rows.slot_tuple_getitem
  (wpAny_call_entry PyProof.Rows.slot_tuple_getitem ht.typeIs entry_tuple_getitem ?_ (args_tuple_getitem _ _)))
 show wpAny _ _ (Builtin.Tuple.tupleItemsOf (.ref t) >>= _) _ _ s
 refine wpAny_bind (tupleItemsOf_ ht ?_)
 refine wpAny_bind (wpAny_typeOf Ws ?_)
 rw[if_pos (by decide)]
 refine wpAny_bind (ju hs pl pu ?_)
 have OE:¬((((d9 items.size 0 lo:Nat):Int) == 0 && (1:Int) == 1 && (d9 items.size items.size hi - d9 items.size 0 lo) == items.size)=true):=by
  intro q
  rw[Bool.and_eq_true,Bool.and_eq_true] at q
  have q1:((d9 items.size 0 lo:Nat):Int)=0:=eq_of_beq q.1.1
  have q2:d9 items.size items.size hi - d9 items.size 0 lo=items.size:=eq_of_beq q.2
  exact hw ⟨by omega,by omega⟩
 show wpAny _ _ (if (((d9 items.size 0 lo:Nat):Int) == 0 && (1:Int) == 1 && (d9 items.size items.size hi - d9 items.size 0 lo) == items.size)=true then _ else _) _ _ s
 rw[if_neg OE,Dh]
 first
  | exact wpAny_bind (m:=Builtin.Tuple.tupleExact _) (wpAny_newObj_type (wpAny_pure ⟨_,rfl,wpAny_pure h⟩) zB)
  | exact wpAny_bind (m:=Builtin.Tuple.tupleExact _) (wpAny_newObj_type (wpAny_bind (wpAny_pure (wpAny_pure ⟨_,rfl,wpAny_pure h⟩))) zB)
  | exact wpAny_bind (wpAny_bind (m:=Builtin.Tuple.tupleExact _) (wpAny_newObj_type (wpAny_pure (wpAny_pure ⟨_,rfl,wpAny_pure h⟩)) zB))
  | exact wpAny_bind (wpAny_bind (m:=Builtin.Tuple.tupleExact _) (wpAny_newObj_type (wpAny_pure ⟨_,rfl,wpAny_pure h⟩) zB))
end
end HT
namespace L2
open PySem PySem.Spec PyProof.Rows
section
abbrev TO:=St->Hp->(Option Int->Hp->Prop)->Prop
def PO (X:Cx)(e:Option Expr)(t:TO):Prop:=
 ∀(pins:List (Addr×Obj)) (s:Shared) (σ:St) (H:Hp) (Q:Option Int->Hp->Prop),Inv X pins σ H s->t σ H Q->
  wpAny (model X.prog X.w) X.A (evalPart e X.env) (λu s'=>∃o H',Inv X pins σ H' s'/\IsPart u o/\Q o H') X.xe s
def uy:TO:=λ_ H Q=>Q none H
def Di (t:TE):TO:=λσ H Q=>t σ H λx H1=>∃i,x=.int i/\Q (some i) H1
section
variable {X:Cx}{e:Expr}{te:TE}{lo hi:Option Expr}{tl th:TO}{pos p2:Pos}
theorem iI:PO X none uy:=by
 intro pins s σ H Q I h
 rw[evalPart_none]
 exact wpAny_pure ⟨none,H,I,.none,h⟩
theorem eW (h:PE X e te):PO X (some e) (Di te):=by
 intro pins s σ H Q I hw
 rw[evalPart_some]
 refine dq (h pins s σ H _ I hw) λu s1 ⟨x,H1,I1,r1,q1⟩=>?_
 obtain⟨i,rfl,q⟩:=q1
 obtain⟨t,rfl⟩:=r1
 exact⟨some i,H1,I1,.int i t,q⟩
def Qr (X:Cx)(r:V->Option Int->Option Int->Hp->VK->Prop):Prop:=
 ∀(pins:List (Addr×Obj)) (s:Shared) (σ:St) (H:Hp) (x:V) (v vl vu:Value) (lo hi:Option Int) (sl:Addr) (Q:VK),Inv X pins σ H s->RelV x v->s.heap.IsSliceOf sl vl vu .none->IsPart vl lo->IsPart vu hi->r x lo hi H Q->
  ∃T id,typeLookup (.type T) "__getitem__"=pure (some (.builtin id))/\s.TypeIs v T/\wpAny (model X.prog X.w) X.A (getItem v (.ref sl)) (EP X pins σ Q) X.xe s
def Qs (r:V->Option Int->Option Int->Hp->VK->Prop)(te:TE)(tl th:TO):TE:=λσ H Q=>te σ H λx H1=>tl σ H1 λl H2=>th σ H2 λu H3=>r x l u H3 Q
theorem vE {r:V->Option Int->Option Int->Hp->VK->Prop}(hr:Qr X r)(he:PE X e te)(hl:PO X lo tl)(hu:PO X hi th):PE X (.Subscript e (.Slice lo hi none p2) pos) (Qs r te tl th):=by
 walk_at "xc"
 refine Subscript_ (dq (he pins s σ H _ I h) λv s1 ⟨x,H1,I1,r1,q1⟩=>?_)
 refine wpAny_Slice (dq (hl pins s1 σ H1 _ I1 q1) λvl s2 ⟨l,H2,I2,pl,q2⟩=>dq (hu pins s2 σ H2 _ I2 q2) λvu s3 ⟨u,H3,I3,pu,q3⟩=>?_)
 rw[evalPart_none]
 refine wpAny_pure ?_
 have I4:Inv X pins σ H3 {s3 with heap:=s3.heap.push {cls:=.type "slice",data:=.fields #[vl,vu,.none]}}:=I3.kept (t':=s3.toks) λb ob q=>Heap.get?_push_of_some _ q
 obtain⟨T,id,hT,ht,hg⟩:=hr pins {s3 with heap:=s3.heap.push {cls:=.type "slice",data:=.fields #[vl,vu,.none]}} σ H3 x v vl vu l u s3.heap.objs.size Q I4 r1 (Heap.IsSliceOf.new ..) pl pu q3
 show wpAny (model X.prog X.w) X.A (subscriptTail e (.Slice lo hi none p2) v (.ref s3.heap.objs.size)) (EP X pins σ Q) X.xe {s3 with heap:=s3.heap.push {cls:=.type "slice",data:=.fields #[vl,vu,.none]}}
 exact tail_any (ops:=[.ref s3.heap.objs.size,v]) ht hT hg (by with_unfolding_all rfl)
def cI (xs:List V)(lo hi:Option Int):List V:=(xs.drop (HT.d9 xs.length 0 lo)).take (HT.d9 xs.length xs.length hi - HT.d9 xs.length 0 lo)
theorem pJ (xs:List V)(lo hi:Option Int):(cI xs lo hi).length<=xs.length:=by
 unfold cI
 rw[List.length_take,List.length_drop]
 omega
def Wt (K:W.Frag):V->Option Int->Option Int->Hp->VK->Prop:=λx lo hi H Q=>∃a xs,x=.ref a/\bJ K H a xs/\
 ¬(HT.d9 xs.length 0 lo=0/\HT.d9 xs.length xs.length hi=xs.length)/\∀p,H p=none->Q (.ref p) (upd H p (.tup (cI xs lo hi)))
theorem Mj:Qr X (Wt X.K):=by
 intro pins s σ H x v vl vu lo hi sl Q I rx hs pl pu h
 obtain⟨a,xs,rfl,hx,hw,q⟩:=h
 cases rx
 obtain⟨aO,r,ht,hz⟩:=I.tuple hx
 have hlen:aO.toArray.size=xs.length:=by rw[List.size_toArray];exact r.length.symm
 refine⟨"tuple",_,PyProof.Rows.slot_tuple_getitem.lookup,ht.typeIs,?_⟩
 refine HT.m7 ht hs pl pu (by rw[hlen];exact hw) ?_ (by rw[hlen];exact hz)
 rw[hlen]
 refine⟨.ref s.heap.objs.size,_,I.laid (t':=s.toks) (o:=.tup (cI xs lo hi)) (λb ob q=>Heap.get?_push_of_some _ q) (Nat.le_refl _) ?_,rfl,q _ (I.bf.fresh (Nat.le_refl _))⟩
 exact⟨Nat.le_trans (pJ xs lo hi) hz,_,(r.drop (HT.d9 xs.length 0 lo)).take (HT.d9 xs.length xs.length hi - HT.d9 xs.length 0 lo),IsTup.new _ _⟩
def Qt (K:W.Frag):R2:=λx y H Q=>∃a b xs ys,x=.ref a/\y=.ref b/\bJ K H a xs/\bJ K H b ys/\xs≠[]/\xs.length + ys.length<=sizeLine/\
 (ys=[]->Q (.ref a) H)/\(ys≠[]->∀p,H p=none->Q (.ref p) (upd H p (.tup (xs++ys))))
theorem Vals.uz{xs:List V}{us:List Value}(r:Vals xs us):us=[]↔xs=[]:=by
 cases r with
 | nil=>simp
 | cons _ _=>simp
theorem HR:gA X (binaryOp .Add) (Qt X.K):=by
 intro pins s σ H x y v u Q I rx ry h
 obtain⟨a,b,xs,ys,rfl,rfl,ha,hb,hx,hz,q1,q2⟩:=h
 cases rx
 cases ry
 obtain⟨aO,r1,p1,_⟩:=I.tuple ha
 obtain⟨cj,r2,p2,_⟩:=I.tuple hb
 refine HT.HQ p1 p2 (λz=>hx (r1.uz.mp z)) (λz=>⟨.ref a,H,I,rfl,q1 (r2.uz.mp z)⟩) (λz=>?_) (by rw[<-r1.length,<-r2.length];exact hz)
 refine⟨.ref s.heap.objs.size,_,I.laid (t':=s.toks) (o:=.tup (xs++ys)) (λb ob q=>Heap.get?_push_of_some _ q) (Nat.le_refl _) ?_,rfl,q2 (λw=>z (r2.uz.mpr w)) _ (I.bf.fresh (Nat.le_refl _))⟩
 exact⟨by rw[List.length_append];exact hz,_,r1.append r2,IsTup.new _ _⟩
end
end
section
def pK (n:Nat)(i:Int):Option Nat:=if 0<=i then(if i < n then some i.toNat else none) else if -(n:Int)<=i then some (i + n).toNat else none
def gB {α:Type}(xs:List α)(i:Int):Option α:=(pK xs.length i).bind λj=>xs[j]?
theorem zC {n:Nat}{i:Int}{j:Nat}(h:pK n i=some j):seqIndex? i n=some j/\j < n/\-(n:Int)<=i/\i < n:=by
 unfold pK at h
 by_cases h0:0<=i
 ·rw[if_pos h0] at h
  by_cases h1:i < n
  ·rw[if_pos h1] at h
   have e:i.toNat=j:=Option.some.inj h
   exact⟨by rw[seqIndex_of h0 h1,e],by omega,by omega,h1⟩
  ·rw[if_neg h1] at h;cases h
 ·rw[if_neg h0] at h
  by_cases h1:-(n:Int)<=i
  ·rw[if_pos h1] at h
   have e:(i + n).toNat=j:=Option.some.inj h
   exact⟨by rw[seqIndex_neg (by omega) h1,e],by omega,h1,by omega⟩
  ·rw[if_neg h1] at h;cases h
theorem uA {α:Type}{xs:List α}{i:Int}{v:α}(h:gB xs i=some v):∃j,seqIndex? i xs.length=some j/\xs[j]?=some v/\j < xs.length/\-(xs.length:Int)<=i/\i < xs.length:=by
 unfold gB at h
 cases e:pK xs.length i with
 | none=>rw[e] at h;cases h
 | some j=>
  rw[e] at h
  obtain⟨h1,h2,h3,h4⟩:=zC e
  exact⟨j,h1,h,h2,h3,h4⟩
theorem ax {α:Type}{xs:List α}{j:Nat}{v:α}(h:xs[j]?=some v):gB xs (j:Int)=some v:=by
 have hj:j < xs.length:=(List.getElem?_eq_some_iff.mp h).1
 have e:pK xs.length (j:Int)=some j:=by
  unfold pK
  rw[if_pos (by omega),if_pos (by omega)];simp
 unfold gB;rw[e];exact h
theorem jv {α:Type}(xs:List α)(v:α):gB (xs++[v]) (-1)=some v:=by
 have hl:(xs++[v]).length=xs.length + 1:=by simp
 have e:pK (xs++[v]).length (-1)=some xs.length:=by
  unfold pK
  rw[hl,if_neg (by decide),if_pos (by omega)]
  congr 1
  omega
 unfold gB
 rw[e]
 show(xs++[v])[xs.length]?=some v
 simp
def zD (b:Expr):Prop:=∀o i,subscripted b false o i=operate [o,i] (getItem o i)
def Qu (X:Cx)(r:R2):Prop:=
 ∀(value slice:Expr) (pins:List (Addr×Obj)) (s:Shared) (σ:St) (H:Hp) (x y:V) (v u:Value) (Q:VK),Inv X pins σ H s->RelV x v->RelV y u->r x y H Q->
  subscripted slice false v u=operate [v,u] (getItem v u)->wpAny (model X.prog X.w) X.A (subscriptTail value slice v u) (EP X pins σ Q) X.xe s
def Qv (X:Cx)(id:String)(r:V->List V->Hp->VK->Prop):Prop:=
 ∀(pins:List (Addr×Obj)) (s:Shared) (σ:St) (H:Hp) (x:V) (xs:List V) (v:Value) (us:List Value) (Q:VK),Inv X pins σ H s->RelV x v->Vals xs us->r x xs H Q->
  wpAny (model X.prog X.w) X.A (call (.builtin id) (v::us)) (EP X pins σ Q) X.xe s
section
variable {X:Cx}{a b:Expr}{ta tb:TE}{pos:Pos}
theorem Qw {r:R2}(hr:Qu X r)(ha:PE X a ta)(hb:PE X b tb)(hs:zD b):PE X (.Subscript a b pos) (HA r ta tb):=by
 walk_at "xc"
 exact Subscript_ (L4 ha hb I h λv u s2 x y H2 I2 rx ry q=>hr a b pins s2 σ H2 x y v u Q I2 rx ry q (hs _ _))
def Wu (K:W.Frag):R2:=λx y H Q=>∃p xs i v,x=.ref p/\y=.int i/\aP K H p xs/\gB xs i=some v/\Q v H
def Wv (K:W.Frag):R2:=λx y H Q=>∃p xs i v,x=.ref p/\y=.int i/\bJ K H p xs/\gB xs i=some v/\Q v H
def Ww:R2:=λx y H Q=>∃z i c,x=.str z/\y=.int i/\z.length<=sizeLine/\gB z.cps.toList i=some c/\Q (.str ⟨#[c]⟩) H
theorem HS:Qu X (Wu X.K):=by
 intro value slice pins s σ H x y v u Q I rx ry h hs
 obtain⟨p,xs,i,z,rfl,rfl,hq,he,q⟩:=h
 cases rx
 obtain⟨t,rfl⟩:=ry
 obtain⟨aO,r,pl,hz⟩:=I.list hq
 obtain⟨j,h1,h2,h3,h4,h5⟩:=uA he
 obtain⟨w,ew,Bh⟩:=r.get h2
 have hl:=r.length
 have hn:=nY
 have fin:EP X pins σ Q w s:=⟨z,H,I,Bh,q⟩
 by_cases h0:0<=i
 ·have hj:i.toNat=j:=by
   rw[seqIndex_of h0 h5] at h1
   exact Option.some.inj h1
  exact item_listR pl.isList h0 (by omega) (by rw[hj];simpa using ew) fin hs
 ·have hj:(i + (aO.toArray.size:Int)).toNat=j:=by
   rw[seqIndex_neg (by omega) h4] at h1
   rw[List.size_toArray,<-hl]
   exact Option.some.inj h1
  exact subscriptTail_builtinR (x:=w) pl.isList.typeIs slot_list_getitem.lookup
   (wpAny_getItem_list_neg (Q:=λr s'=>r=w/\EP X pins σ Q r s') pl.isList (by omega) (by rw[List.size_toArray] <;> omega) (by omega) (by rw[hj];simpa using ew) ⟨rfl,fin⟩) hs
theorem Ml:Qu X (Wv X.K):=by
 intro value slice pins s σ H x y v u Q I rx ry h hs
 obtain⟨p,xs,i,z,rfl,rfl,hq,he,q⟩:=h
 cases rx
 obtain⟨t,rfl⟩:=ry
 obtain⟨aO,r,pl,hz⟩:=I.tuple hq
 obtain⟨j,h1,h2,h3,h4,h5⟩:=uA he
 obtain⟨w,ew,Bh⟩:=r.get h2
 have hl:=r.length
 have hn:=nY
 have fin:EP X pins σ Q w s:=⟨z,H,I,Bh,q⟩
 exact subscriptTail_builtinR (x:=w) pl.typeIs slot_tuple_getitem.lookup
  (getItem_tuple (j:=j) (Q:=λr s'=>r=w/\EP X pins σ Q r s') pl (by omega) (by omega) (by rw[List.size_toArray,<-hl];exact h1) (by simpa using ew) ⟨rfl,fin⟩) hs
theorem Mm:Qu X Ww:=by
 intro value slice pins s σ H x y v u Q I rx ry h hs
 obtain⟨z,i,c,rfl,rfl,hz,he,q⟩:=h
 obtain⟨t,rfl⟩:=rx
 obtain⟨t',rfl⟩:=ry
 obtain⟨j,h1,h2,h3,h4,h5⟩:=uA he
 have hl:z.cps.toList.length=z.length:=by simp[Str.length]
 rw[hl] at h1 h4 h5
 have hn:=nY
 exact tail_any (typeIs_str s z t) slot_str_getitem.lookup (getItem_str (c:=c) (by
  have e1:decide (i < -(2 ^ 63:Int))=false:=decide_eq_false (by omega)
  have e2:decide (i >= 2 ^ 63)=false:=decide_eq_false (by omega)
  rw[e1,e2,Bool.or_false]) (by rw[h1];simpa using h2) ⟨.str ⟨#[c]⟩,H,I.tok _,⟨_,rfl⟩,q⟩) hs
theorem yd (aO:List Value)(n j:Nat)(u:Value):Obj.mapSeq (·.setIfInBounds j u) {cls:=.type "list",data:=.seq aO.toArray n}={cls:=.type "list",data:=.seq (aO.set j u).toArray n}:=by
 simp[Obj.mapSeq]
theorem Inv.lst{pins:List (Addr×Obj)}{σ:St}{H:Hp}{s:Shared}{p:Addr}{xs:List V}(I:Inv X pins σ H s)(h:H p=some (.lst xs)):
  ∃(aO:List Value) (n:Nat),Vals xs aO/\s.heap.get? p=some {cls:=.type "list",data:=.seq aO.toArray n}/\xs.length<=sizeLine:=by
 obtain⟨z,aO,n,r,e⟩:=I.bf p _ h
 exact⟨aO,n,r,e,z⟩
theorem Inv.Mn{pins:List (Addr×Obj)}{σ:St}{H:Hp}{s:Shared}{p:Addr}{xs ys:List V}{aO kb:List Value}{n n':Nat}{f:Obj->Obj}(I:Inv X pins σ H s)(h:H p=some (.lst xs))
  (ho:s.heap.get? p=some {cls:=.type "list",data:=.seq aO.toArray n}) (hf:f {cls:=.type "list",data:=.seq aO.toArray n}={cls:=.type "list",data:=.seq kb.toArray n'}) (r:Vals ys kb) (hz:ys.length<=sizeLine) (t:Nat):
  Inv X pins σ (upd H p (.lst ys)) {s with heap:=s.heap.update p f,toks:=t}:=by
 have e:(s.heap.update p f).get? p=some {cls:=.type "list",data:=.seq kb.toArray n'}:=by
  rw[Heap.get?_update_self f ho (by rw[hf] <;> rfl),hf]
 refine I.write (x:=p) (e:=p) (by rw[h];trivial) (.inl rfl) (λb u hb q=>(Heap.get?_update_other _ _ (Ne.symm hb)).trans q) ⟨_,e⟩ ?_
 exact⟨hz,kb,n',r,e⟩
def Qx:V->V->V->Hp->(Hp->Prop)->Prop:=λo i v H Q=>∃p xs k j,o=.ref p/\i=.int k/\H p=some (.lst xs)/\pK xs.length k=some j/\Q (upd H p (.lst (xs.set j v)))
theorem set_list:LW X Qx:=by
 intro pins s σ H o i v ov iv u Q I ro ri rv h
 obtain⟨p,xs,k,j,rfl,rfl,hp,hj,q⟩:=h
 cases ro
 obtain⟨t,rfl⟩:=ri
 obtain⟨aO,n,r,ho,hz⟩:=I.lst hp
 obtain⟨h1,h2,h3,h4⟩:=zC hj
 have hl:=r.length
 have hn:=nY
 have I':Inv X pins σ (upd H p (.lst (xs.set j v))) {s with heap:=s.heap.update p (Obj.mapSeq (·.setIfInBounds j u))}:=
  I.Mn hp ho (yd aO n j u) (r.set rv j) (by rw[List.length_set];exact hz) s.toks
 by_cases h0:0<=k
 ·have hk:k.toNat=j:=by
   rw[seqIndex_of h0 h4] at h1
   exact Option.some.inj h1
  exact W.ki_setAt ho h0 (by omega) (by rw[List.size_toArray,<-hl];exact h4) (by rw[hk];exact⟨_,I',q⟩)
 ·have hk:(k + (aO.toArray.size:Int)).toNat=j:=by
   rw[seqIndex_neg (by omega) h3] at h1
   rw[List.size_toArray,<-hl]
   exact Option.some.inj h1
  exact W.ki_setBack ho (by omega) (by rw[List.size_toArray,<-hl];exact h3) (by omega) (by rw[hk];exact⟨_,I',q⟩)
theorem uB (lo hi:Option Int)(n:Nat):(sliceBounds lo hi none n).1=((HT.d9 n 0 lo:Nat):Int)/\(sliceBounds lo hi none n).2.1=((HT.d9 n n hi:Nat):Int)/\(sliceBounds lo hi none n).2.2=1:=by
 refine⟨?_,?_,rfl⟩
 ·cases lo with
  | none=>simp[sliceBounds,HT.d9]
  | some i=>
   simp only[sliceBounds,HT.d9,Option.getD_none,show(1:Int) > 0 by decide,if_true]
   by_cases h:i < 0
   ·simp only[h,if_true] <;> omega
   ·simp only[h,if_false] <;> omega
 ·cases hi with
  | none=>simp[sliceBounds,HT.d9]
  | some i=>
   simp only[sliceBounds,HT.d9,Option.getD_none,show(1:Int) > 0 by decide,if_true]
   by_cases h:i < 0
   ·simp only[h,if_true] <;> omega
   ·simp only[h,if_false] <;> omega
theorem sf (aO:List Value)(lo hi:Option Int):slicePick aO.toArray lo hi none=((aO.drop (HT.d9 aO.length 0 lo)).take (HT.d9 aO.length aO.length hi - HT.d9 aO.length 0 lo)).toArray:=by
 obtain⟨h1,h2,h3⟩:=uB lo hi aO.toArray.size
 unfold slicePick
 rw[h1,h2,h3]
 simp only[sliceRange_one,pick_run,List.size_toArray] <;> rfl
def Wx (K:W.Frag):V->Option Int->Option Int->Hp->VK->Prop:=λx lo hi H Q=>∃a xs,x=.ref a/\aP K H a xs/\∀p,H p=none->Q (.ref p) (upd H p (.lst (cI xs lo hi)))
theorem zE:Qr X (Wx X.K):=by
 intro pins s σ H x v vl vu lo hi sl Q I rx hs pl pu h
 obtain⟨a,xs,rfl,hx,q⟩:=h
 cases rx
 obtain⟨aO,r,ht,hz⟩:=I.list hx
 have hlen:=r.length
 refine⟨"list",_,slot_list_getitem.lookup,ht.isList.typeIs,?_⟩
 refine wpAny_getItem_list_slice ht.isList hs pl pu .none (by simp) ?_ (by rw[List.size_toArray] <;> omega)
 rw[sf,<-hlen]
 refine⟨.ref s.heap.objs.size,_,I.laid (t':=s.toks) (o:=.lst (cI xs lo hi)) (λb ob q=>Heap.get?_push_of_some _ q) (Nat.le_refl _) ?_,rfl,q _ (I.bf.fresh (Nat.le_refl _))⟩
 exact⟨Nat.le_trans (pJ xs lo hi) hz,_,0,(r.drop (HT.d9 xs.length 0 lo)).take (HT.d9 xs.length xs.length hi - HT.d9 xs.length 0 lo),Heap.get?_push_size _ rfl⟩
def fS:V->Bool
 | .bR=>true
 | .bl _=>true
 | .int _=>true
 | .str _=>true
 | _=>false
def Cf:V->V->Bool
 | .bR,.bR=>true
 | .bl a,.bl b=>a == b
 | .bl a,.int b=>(if a then 1 else 0) == b
 | .int a,.bl b=>a == (if b then 1 else 0)
 | .int a,.int b=>a == b
 | .str a,.str b=>a == b
 | _,_=>false
theorem ye {A:Around}{s:Shared}{y x:V}{u v:Value}(ry:RelV y u)(rx:RelV x v)(fy:fS y=true)(fx:fS x=true):SeqAt.EqAt A s u v (Cf y x):=by
 cases y with
 | bR=>
  cases ry
  cases x with
  | bR=>cases rx;exact SeqAt.EqAt.same _
  | bl b=>cases rx;exact SeqAt.EqAt.none_bool b
  | int b=>obtain⟨t,rfl⟩:=rx;exact SeqAt.EqAt.none_int b t
  | str b=>obtain⟨t,rfl⟩:=rx;exact SeqAt.EqAt.none_str b t
  | _=>exact absurd (show false=true from fx) Bool.false_ne_true
 | bl a=>
  cases ry
  cases x with
  | bR=>cases rx;exact SeqAt.EqAt.bool_none a
  | bl b=>cases rx;exact SeqAt.EqAt.bool_bool a b
  | int b=>obtain⟨t,rfl⟩:=rx;exact SeqAt.EqAt.bool_int a b t
  | str b=>obtain⟨t,rfl⟩:=rx;exact SeqAt.EqAt.bool_str a b t
  | _=>exact absurd (show false=true from fx) Bool.false_ne_true
 | int a=>
  obtain⟨t',rfl⟩:=ry
  cases x with
  | bR=>cases rx;exact SeqAt.EqAt.int_none a t'
  | bl b=>cases rx;exact SeqAt.EqAt.int_bool a t' b
  | int b=>obtain⟨t,rfl⟩:=rx;exact SeqAt.EqAt.int_int a t' b t
  | str b=>obtain⟨t,rfl⟩:=rx;exact SeqAt.EqAt.int_str a t' b t
  | _=>exact absurd (show false=true from fx) Bool.false_ne_true
 | str a=>
  obtain⟨t',rfl⟩:=ry
  cases x with
  | bR=>cases rx;exact SeqAt.EqAt.str_none a t'
  | bl b=>cases rx;exact SeqAt.EqAt.str_bool a t' b
  | int b=>obtain⟨t,rfl⟩:=rx;exact SeqAt.EqAt.str_int a t' b t
  | str b=>obtain⟨t,rfl⟩:=rx;exact SeqAt.EqAt.str_str a t' b t
  | _=>exact absurd (show false=true from fx) Bool.false_ne_true
 | _=>exact absurd (show false=true from fy) Bool.false_ne_true
def HU (x:V)(u:Value):Bool:=match u with
 | .none=>Cf .bR x
 | .bool b=>Cf (.bl b) x
 | .int i _=>Cf (.int i) x
 | .str z _=>Cf (.str z) x
 | _=>false
theorem Dj {x y:V}{u:Value}(r:RelV y u)(f:fS y=true):HU x u=Cf y x:=by
 cases y with
 | bR=>cases r;rfl
 | bl b=>cases r;rfl
 | int i=>obtain⟨t,rfl⟩:=r;rfl
 | str z=>obtain⟨t,rfl⟩:=r;rfl
 | _=>exact absurd (show false=true from f) Bool.false_ne_true
theorem uC {x:V}:∀{xs:List V} {us:List Value},Vals xs us->xs.all fS=true->us.any (HU x)=xs.any λy=>Cf y x
 | _,_,.nil,_=>rfl
 | y::xs,u::us,.cons r t,f=>by
  rw[List.all_cons,Bool.and_eq_true] at f
  rw[List.any_cons,List.any_cons,Dj r f.1,uC t f.2]
theorem qE {A:Around}{s:Shared}{x:V}{v:Value}(rx:RelV x v)(fx:fS x=true):∀{xs:List V} {us:List Value},Vals xs us->xs.all fS=true->∀u ∈ us,SeqAt.EqAt A s u v (HU x u)
 | _,_,.nil,_=>λu hu=>by cases hu
 | y::xs,u::us,.cons r t,f=>λu' hu=>by
  rw[List.all_cons,Bool.and_eq_true] at f
  rcases List.mem_cons.mp hu with rfl | hu
  ·rw[Dj r f.1];exact ye r rx f.1 fx
  ·exact qE rx fx t f.2 u' hu
def zF (x:V)(xs:List V):Bool:=xs.any λy=>Cf y x
def rIn (K:W.Frag)(neg:Bool):R2:=λx y H Q=>∃p xs,y=.ref p/\(aP K H p xs\/bJ K H p xs)/\fS x=true/\xs.all fS=true/\Q (.bl (if neg then !zF x xs else zF x xs)) H
theorem Bi:gA X (compareOp .In) (rIn X.K false):=by
 intro pins s σ H x y v u Q I rx ry h
 obtain⟨p,xs,rfl,hq,fx,fs,q⟩:=h
 cases ry
 rcases hq with hq | hq
 ·obtain⟨aO,r,pl,hz⟩:=I.list hq
  refine SeqAt.in_listAt (HU x) pl.isList (λw hw=>qE rx fx r fs w (by simpa using hw)) ⟨.bl _,H,I,rfl,?_⟩
  rw[show aO.toArray.any (HU x)=aO.any (HU x) by simp,uC r fs]
  exact q
 ·obtain⟨aO,r,pl,hz⟩:=I.tuple hq
  refine SeqAt.in_tupleAt (HU x) pl (λw hw=>qE rx fx r fs w (by simpa using hw)) ⟨.bl _,H,I,rfl,?_⟩
  rw[show aO.toArray.any (HU x)=aO.any (HU x) by simp,uC r fs]
  exact q
theorem uD:fg X (.type "list") (λxs H Q=>∃p ys,xs=[.ref p]/\(aP X.K H p ys\/bJ X.K H p ys)/\∀l,H l=none->Q (.ref l) (upd H l (.lst ys))):=by
 intro pins s σ H xs us Q I r h
 obtain⟨p,ys,rfl,hq,q⟩:=h
 obtain⟨u,rfl,rx⟩:=vals1 r
 cases rx
 have fin:∀(aO:List Value),Vals ys aO->ys.length<=sizeLine->∀(h':Heap) (c':Nat),(∀b o',s.heap.get? b=some o'->h'.get? b=some o')->
   h'.get? s.heap.objs.size=some {cls:=.type "list",dict:=none,data:=.seq aO.toArray c',slots:=#[]}->EP X pins σ Q (.ref s.heap.objs.size) {s with heap:=h'}:=λaO r' hz h' c' kp e=>
  ⟨.ref s.heap.objs.size,_,I.laid (t':=s.toks) kp (Nat.le_refl _) (show cR X.prog X.w _ h' _ (.lst ys) from⟨hz,aO,c',r',e⟩),rfl,q _ (I.bf.fresh (Nat.le_refl _))⟩
 rcases hq with hq | hq
 ·obtain⟨aO,r',pl,hz⟩:=I.list hq
  have hlen:=r'.length
  obtain⟨o,ho,hc,n,hd⟩:=pl.isList
  exact call_list_seq p (.inl rfl) ho hc hd (λh' c' kp e=>fin aO r' hz h' c' kp e) (by simp only[List.size_toArray] <;> omega)
 ·obtain⟨aO,r',pl,hz⟩:=I.tuple hq
  have hlen:=r'.length
  obtain⟨o,ho,hc,n,hd⟩:=pl
  exact call_list_seq p (.inr rfl) ho hc hd (λh' c' kp e=>fin aO r' hz h' c' kp e) (by simp only[List.size_toArray] <;> omega)
theorem lJ:fg X (.type "tuple") (λxs H Q=>∃p ys,xs=[.ref p]/\((aP X.K H p ys/\∀l,H l=none->Q (.ref l) (upd H l (.tup ys)))\/(bJ X.K H p ys/\Q (.ref p) H))):=by
 intro pins s σ H xs us Q I r h
 obtain⟨p,ys,rfl,h⟩:=h
 obtain⟨u,rfl,rx⟩:=vals1 r
 cases rx
 rcases h with⟨hq,q⟩ | ⟨hq,q⟩
 ·obtain⟨aO,r',pl,hz⟩:=I.list hq
  have hlen:=r'.length
  refine call_tuple_list pl.isList (λh' kp=>?_) (by simp only[List.size_toArray] <;> omega)
  have I1:Inv X pins σ H {s with heap:=h'}:=I.kept (t':=s.toks) kp
  have I2:Inv X pins σ (upd H h'.objs.size (.tup ys)) {s with heap:=h'.push {cls:=.type "tuple",data:=.seq aO.toArray}}:=
   I1.laid (t':=s.toks) (λb o e=>Heap.get?_push_of_some _ e) (Nat.le_refl _) (show cR X.prog X.w _ _ _ (.tup ys) from⟨hz,aO,r',IsTup.new _ _⟩)
  exact⟨.ref h'.objs.size,_,I2,rfl,q _ (I1.bf.fresh (Nat.le_refl _))⟩
 ·obtain⟨aO,r',pl,hz⟩:=I.tuple hq
  exact call_tuple_same pl ⟨.ref p,H,I,rfl,q⟩
def Wy (K:W.Frag)(T:String)(x:V)(H:Hp):Prop:=match x with
 | .str _=>T="str"
 | .int _=>T="int"
 | .ref p=>(T="list"/\∃xs,aP K H p xs)\/(T="tuple"/\∃o,K.lookup p=some o/\o.cls=.type "tuple"/\o.dict=none)\/
   (T="dict"/\((∃bc,H p=some (.dK bc))\/∃bc,H p=some (.dT bc)))\/(T="set"/\∃S n,H p=some (.set S n))
 | _=>False
theorem Dk {pins:List (Addr×Obj)}{σ:St}{H:Hp}{s:Shared}{T:String}{x:V}{v:Value}(I:Inv X pins σ H s)(r:RelV x v)(ty:Wy X.K T x H):
  s.TypeIs v T/\∀a,v=.ref a->∃ob,s.heap.get? a=some ob/\ob.dict=none:=by
 cases x with
 | str z=>
  obtain⟨t,rfl⟩:=r
  cases(show T="str" from ty)
  exact⟨typeIs_str s z t,λ_ e=>nomatch e⟩
 | int i=>
  obtain⟨t,rfl⟩:=r
  cases(show T="int" from ty)
  exact⟨typeIs_int s i t,λ_ e=>nomatch e⟩
 | ref p=>
  cases r
  rcases ty with⟨rfl,xs,hq⟩ | ⟨rfl,o,hk,hc,hd⟩ | ⟨rfl,hk⟩ | ⟨rfl,S,n,hk⟩
  ·obtain⟨aO,_,pl,_⟩:=I.list hq
   refine⟨pl.isList.typeIs,λa e=>?_⟩
   cases e
   obtain⟨o,n,e,c,hd,_⟩:=pl
   exact⟨o,e,hd⟩
  ·refine⟨⟨o,I.jF p o hk,hc⟩,λa e=>?_⟩
   cases e
   exact⟨o,I.jF _ o hk,hd⟩
  ·have z:∃o,s.heap.get? p=some o/\o.ExactDict:=by
    rcases hk with⟨bc,hk⟩ | ⟨bc,hk⟩
    ·obtain⟨_,_,_,_,o,_,_,e,ex,_⟩:=I.bf p _ hk
     exact⟨o,e,ex⟩
    ·obtain⟨_,_,_,_,o,_,_,e,ex,_⟩:=I.bf p _ hk
     exact⟨o,e,ex⟩
   obtain⟨o,e,ex⟩:=z
   refine⟨⟨o,e,ex.1⟩,λa e2=>?_⟩
   cases e2
   exact⟨o,e,ex.2.1⟩
  ·obtain⟨o,_,_,_,e,ex,_⟩:=I.bf p _ hk
   refine⟨⟨o,e,ex.1⟩,λa e2=>?_⟩
   cases e2
   exact⟨o,e,ex.2.1⟩
 | _=>exact False.elim ty
def Mo (K:W.Frag)(T:String)(r:V->List V->Hp->VK->Prop)(to:TE):TE:=λσ H Q=>to σ H λx H1=>Wy K T x H1/\r x [] H1 Q
def Wz (K:W.Frag)(T:String)(r:V->List V->Hp->VK->Prop)(to:TE)(t:TA):TE:=λσ H Q=>to σ H λx H1=>Wy K T x H1/\t σ H1 λxs H2=>r x xs H2 Q
variable {o e:Expr}{es:List Expr}{to:TE}{t:TA}{name:Str}{apos hE:Pos}{T id:String}{r:V->List V->Hp->VK->Prop}
theorem Mp (pa:PlainAttrs T)(slot:Slot T name id)(Qy:typeOf (.builtin id)=pure (.type "method_descriptor"))(hm:Qv X id r)(ho:PE X o to)
  (vF:attributeBase o name X.env (eval o X.env)=eval o X.env:=by rfl) (vG:(apos.endLine == hE.line)=true:=by rfl):PE X (.Call (.Attribute o name apos) [] [] hE) (Mo X.K T r to):=by
 walk_at "xc"
 refine wpAny_Call_method0_late vF vG (dq (ho pins s σ H _ I h) λv s1 ⟨x,H1,I1,r1,ty,q1⟩=>?_)
 obtain⟨h1,h2⟩:=Dk I1 r1 ty
 exact⟨T,id,pa,slot,Qy,h1,h2,Calls.callWith_builtin rfl (PySem.evalArgs_none (hm pins s1 σ H1 x [] v [] Q I1 r1 .nil q1))⟩
theorem du (pa:PlainAttrs T)(slot:Slot T name id)(Qy:typeOf (.builtin id)=pure (.type "method_descriptor"))(hm:Qv X id r)(ho:PE X o to)(ha:PA X (e::es) t)
  (vF:attributeBase o name X.env (eval o X.env)=eval o X.env:=by rfl)
  (sh:((backTo hE (starEach (e::es) X.env)).all (λx=> !x.1) && (backToKw hE (keywordEach [] X.env)).all (λx=>x.1.isSome)
   && decide ((e::es).length + ([]:List Keyword).length + (if ([]:List Keyword).isEmpty then 0 else 1) < 30))=true:=by rfl)
  (vG:(apos.endLine == hE.line)=true:=by rfl) (hs:starEach (e::es) X.env=(false,eval e X.env)::starEach es X.env:=by rfl) (Mq:(backTo hE (starEach es X.env)).any (·.1)=false:=by rfl):
  PE X (.Call (.Attribute o name apos) (e::es) [] hE) (Wz X.K T r to t):=by
 walk_at "xc"
 refine wpAny_Call_method_late vF sh vG rfl (dq (ho pins s σ H _ I h) λv s1 ⟨x,H1,I1,r1,ty,q1⟩=>?_)
 obtain⟨h1,h2⟩:=Dk I1 r1 ty
 refine⟨T,id,pa,slot,Qy,h1,h2,?_⟩
 have hA:=ha hE pins s1 σ H1 _ I1 q1
 rw[hs] at hA ⊢
 refine Calls.callWith_builtin (by show(false || (backTo hE (starEach es X.env)).any (·.1))=false;rw[Mq] <;> rfl) (Calls.evalArgs_plain ?_)
 exact dq hA λus s2 ⟨vs,H2,I2,r2,q2⟩=>hm pins s2 σ H2 x vs v us Q I2 r1 r2 q2
end
end
section
def UM (X:Cx)(id:String)(r:V->List V->Hp->VK->Prop):Prop:=
 ∀(pins:List (Addr×Obj)) (s:Shared) (σ:St) (H:Hp) (x:V) (xs:List V) (v:Value) (us:List Value) (Q:VK),Inv X pins σ H s->RelV x v->Vals xs us->r x xs H Q->
  wpAny (model X.prog X.w) X.A (call (.builtin id) (v::us)) (EP X pins σ Q) X.xe s
theorem Vals.one:∀{x:V} {us:List Value},Vals [x] us->∃u,us=[u]/\RelV x u
 | _,_,.cons r .nil=>⟨_,rfl,r⟩
theorem Vals.zero:∀{us:List Value},Vals [] us->us=[]
 | _,.nil=>rfl
theorem Vals.dropLast{xs:List V}{us:List Value}(h:Vals xs us):Vals xs.dropLast us.dropLast:=by
 induction h with
 | nil=>exact .nil
 | cons r t ih=>
  cases t with
  | nil=>exact .nil
  | cons q t'=>exact .cons r ih
theorem Vals.eraseIdx:∀{xs:List V} {us:List Value} (i:Nat),Vals xs us->Vals (xs.eraseIdx i) (us.eraseIdx i)
 | _,_,_,.nil=>.nil
 | _,_,0,.cons _ t=>t
 | _,_,i + 1,.cons r t=>.cons r (Vals.eraseIdx i t)
theorem yf {α:Type}(l:List α):l.eraseIdx (l.length - 1)=l.dropLast:=by
 induction l with
 | nil=>rfl
 | cons a r ih=>
  cases r with
  | nil=>rfl
  | cons b r=>
   have e:(a::b::r).length - 1=((b::r).length - 1) + 1:=by
    have h1:(a::b::r).length=r.length + 2:=rfl
    have h2:(b::r).length=r.length + 1:=rfl
    omega
   rw[e,List.eraseIdx_cons_succ,ih]
   all_goals rfl
theorem oa {α:Type}:∀(l:List α) (i:Nat),(l.eraseIdx i).length<=l.length
 | [],_=>Nat.le_refl _
 | _::_,0=>Nat.le_succ _
 | _::r,i + 1=>Nat.succ_le_succ (oa r i)
section
variable {X:Cx}{pins:List (Addr×Obj)}{σ:St}{H:Hp}{s:Shared}{l b:Addr}{xs ys zs:List V}
theorem Inv.Dl{aO kb:List Value}{n:Nat}{f:Array Value->Array Value}{t':Nat}(I:Inv X pins σ H s)(hH:H l=some (.lst xs))
  (e:s.heap.get? l=some {cls:=.type "list",data:=.seq aO.toArray n}) (hf:f aO.toArray=kb.toArray) (hv:Vals ys kb) (hz:ys.length<=sizeLine):
  Inv X pins σ (upd H l (.lst ys)) {s with heap:=s.heap.update l (Obj.mapSeq f),toks:=t'}:=by
 have q:=PySem.IsL.update e f
 rw[hf] at q
 refine I.write (x:=l) (e:=l) (by rw[hH];exact trivial) (.inl rfl) (λb' u hb hu=>(Heap.get?_update_other s.heap (Obj.mapSeq f) (Ne.symm hb)).trans hu) ⟨_,q⟩ ?_
 exact⟨hz,kb,_,hv,q⟩
theorem Inv.WA{aO:List Value}{t':Nat}(I:Inv X pins σ H s)(hv:Vals ys aO)(hz:ys.length<=sizeLine):
  Inv X pins σ (upd H s.heap.objs.size (.lst ys)) {s with heap:=s.heap.push {cls:=.type "list",data:=.seq aO.toArray},toks:=t'}:=
 I.laid (λ_ _ q=>Heap.get?_push_of_some _ q) (Nat.le_refl _) ⟨hz,aO,0,hv,Heap.get?_push_size _ rfl⟩
theorem Inv.fresh(I:Inv X pins σ H s):H s.heap.objs.size=none:=I.bf.fresh (Nat.le_refl _)
theorem Inv.vH(I:Inv X pins σ H s)(hH:H l=some (.lst xs)):xs.length<=sizeLine/\∃(aO:List Value) (n:Nat),Vals xs aO/\xs.length=aO.length/\s.heap.get? l=some {cls:=.type "list",data:=.seq aO.toArray n}:=by
 obtain⟨z,aO,n,r,e⟩:=I.bf l _ hH
 exact⟨z,aO,n,r,r.length,e⟩
theorem Dm {n:Nat}(h:n<=sizeLine):Builtin.List.listTooLong n=false:=by
 unfold Builtin.List.listTooLong
 exact decide_eq_false (by omega)
end
section
variable {X:Cx}
def HV:V->List V->Hp->VK->Prop:=λx vs H Q=>∃l xs y,x=.ref l/\vs=[y]/\H l=some (.lst xs)/\xs.length < sizeLine/\Q .bR (upd H l (.lst (xs++[y])))
theorem tD:UM X "list.append" HV:=by
 intro pins s σ H x vs v us Q I rx rv h
 obtain⟨l,xs,y,rfl,rfl,hH,hz,q⟩:=h
 cases rx
 obtain⟨u,rfl,ru⟩:=rv.one
 obtain⟨z,aO,n,r,hl,e⟩:=I.vH hH
 refine call_meets F.slot_list_append ⟨_,e,rfl⟩ F.entry_list_append (F.args_list_append_2 _ _) (PySem.list_append l aO.toArray n u (by rw[List.size_toArray];omega)) ⟨e,?_⟩
 refine⟨.bR,_,I.Dl (kb:=aO++[u]) hH e (by simp) (r.append (.cons ru .nil)) ?_,rfl,q⟩
 rw[List.length_append,List.length_singleton]
 omega
def HW:V->List V->Hp->VK->Prop:=λx vs H Q=>∃l b xs zs,x=.ref l/\vs=[.ref b]/\H l=some (.lst xs)/\H b=some (.lst zs)/\xs.length + zs.length<=sizeLine/\Q .bR (upd H l (.lst (xs++zs)))
theorem Bj:UM X "list.extend" HW:=by
 intro pins s σ H x vs v us Q I rx rv h
 obtain⟨l,b,xs,zs,rfl,rfl,hH,hB,hz,q⟩:=h
 cases rx
 obtain⟨u,rfl,ru⟩:=rv.one
 cases ru
 obtain⟨z,aO,n,r,hl,e⟩:=I.vH hH
 obtain⟨z2,cj,n2,r2,yg,e2⟩:=I.vH hB
 have hsz:aO.toArray.size + cj.toArray.size<=sizeLine:=by rw[List.size_toArray,List.size_toArray];omega
 have Qz:¬(!aO.toArray.isEmpty && Builtin.List.listTooLong (aO.toArray.size + cj.toArray.size))=true:=by
  rw[Dm hsz,Bool.and_false]
  exact Bool.false_ne_true
 refine call_meets F.slot_list_extend ⟨_,e,rfl⟩ F.entry_list_extend (F.args_list_extend_2 _ _)
  (AutoSeq1.list_extend_list_list_0 l aO.toArray n b cj.toArray n2 Qz (by rw[List.size_toArray];omega) (by omega)) ⟨e,e2,?_⟩
 refine⟨.bR,_,I.Dl (kb:=aO++cj) hH e (by simp) (r.append r2) ?_,rfl,q⟩
 rw[List.length_append]
 omega
def WB:V->List V->Hp->VK->Prop:=λx vs H Q=>∃l xs y,x=.ref l/\vs=[]/\H l=some (.lst xs)/\xs[xs.length - 1]?=some y/\Q y (upd H l (.lst xs.dropLast))
theorem Mr:UM X "list.pop" WB:=by
 intro pins s σ H x vs v us Q I rx rv h
 obtain⟨l,xs,y,rfl,rfl,hH,hy,q⟩:=h
 cases rx
 have hus:=rv.zero
 subst hus
 obtain⟨z,aO,n,r,hl,e⟩:=I.vH hH
 obtain⟨u,hu,ru⟩:=r.get hy
 have QA:aO.toArray[aO.toArray.size - 1]?=some u:=by
  show aO.toArray[aO.length - 1]?=some u
  rw[<-Array.getElem?_toList,<-hl]
  exact hu
 refine call_meets F.slot_list_pop ⟨_,e,rfl⟩ F.entry_list_pop (F.args_list_pop_1 _) (MeetsSeq.list_pop_last l aO.toArray n u QA (by rw[List.size_toArray];omega)) ⟨e,?_⟩
 refine⟨y,_,I.Dl (kb:=aO.dropLast) hH e ?_ r.dropLast ?_,ru,q⟩
 ·show aO.toArray.eraseIdxIfInBounds (aO.toArray.size - 1)=aO.dropLast.toArray
  rw[List.size_toArray,List.eraseIdxIfInBounds_toArray,yf]
 ·rw[List.length_dropLast]
  omega
def Ms:V->List V->Hp->VK->Prop:=λx vs H Q=>∃l xs i k y,x=.ref l/\vs=[.int i]/\H l=some (.lst xs)/\-(2 ^ 63)<=i/\i < 2 ^ 63/\seqIndex? i xs.length=some k/\xs[k]?=some y/\Q y (upd H l (.lst (xs.eraseIdx k)))
theorem QB:UM X "list.pop" Ms:=by
 intro pins s σ H x vs v us Q I rx rv h
 obtain⟨l,xs,i,k,y,rfl,rfl,hH,h1,h2,hk,hy,q⟩:=h
 cases rx
 obtain⟨u,rfl,ru⟩:=rv.one
 obtain⟨t,rfl⟩:=ru
 obtain⟨z,aO,n,r,hl,e⟩:=I.vH hH
 obtain⟨w,hw,Bh⟩:=r.get hy
 refine call_meets F.slot_list_pop ⟨_,e,rfl⟩ F.entry_list_pop (F.args_list_pop_2 _ _)
  (MeetsSeq.list_pop_at l aO.toArray n i t k w (fitsIndex_both h1 h2) (by rw[List.size_toArray,<-hl];exact hk) (by rw[<-Array.getElem?_toList];exact hw) (by rw[List.size_toArray];omega)) ⟨e,?_⟩
 refine⟨y,_,I.Dl (kb:=aO.eraseIdx k) hH e ?_ (r.eraseIdx k) ?_,Bh,q⟩
 ·show aO.toArray.eraseIdxIfInBounds k=(aO.eraseIdx k).toArray
  rw[List.eraseIdxIfInBounds_toArray]
 ·have:=oa xs k
  omega
def WC:R2:=λx y H Q=>∃l b xs zs,x=.ref l/\y=.ref b/\H l=some (.lst xs)/\H b=some (.lst zs)/\xs.length + zs.length<=sizeLine/\∀p,H p=none->Q (.ref p) (upd H p (.lst (xs++zs)))
theorem Mt:gA X (binaryOp .Add) WC:=by
 intro pins s σ H x y v u Q I rx ry h
 obtain⟨l,b,xs,zs,rfl,rfl,hH,hB,hz,q⟩:=h
 cases rx
 cases ry
 obtain⟨z,aO,n,r,hl,e⟩:=I.vH hH
 obtain⟨z2,cj,n2,r2,yg,e2⟩:=I.vH hB
 refine PySem.P.add_list e e2 ?_ (by rw[List.size_toArray,List.size_toArray];omega)
 have ea:aO.toArray++cj.toArray=(aO++cj).toArray:=by simp
 rw[ea]
 exact⟨.ref _,_,I.WA (t':=s.toks) (r.append r2) (by rw[List.length_append];omega),rfl,q _ I.fresh⟩
theorem Dn {pins:List (Addr×Obj)}{s:Shared}{σ:St}{H:Hp}{l:Addr}{xs:List V}{i:Int}{t:Tok}{k:Nat}{Q:Unit->Shared->Prop}(I:Inv X pins σ H s)(hH:H l=some (.lst xs))
  (h1:-(2 ^ 63)<=i) (h2:i < 2 ^ 63) (hk:seqIndex? i xs.length=some k) (h:∀s',Inv X pins σ (upd H l (.lst (xs.eraseIdx k))) s'->Q () s'):
  wpAny (model X.prog X.w) X.A (delItem (.ref l) (.int i t)) Q X.xe s:=by
 obtain⟨z,aO,n,r,hl,e⟩:=I.vH hH
 refine PySem.P.delItem_list (k:=k) e (fitsIndex_both h1 h2) (by rw[List.size_toArray,<-hl];exact hk) (h _ ?_) (by rw[List.size_toArray];omega)
 refine I.Dl (kb:=aO.eraseIdx k) (t':=s.toks) hH e ?_ (r.eraseIdx k) ?_
 ·show aO.toArray.eraseIdxIfInBounds k=(aO.eraseIdx k).toArray
  rw[List.eraseIdxIfInBounds_toArray]
 ·have:=oa xs k
  omega
end
section
variable {prog:Program}{w:World}{A:Around}{E:Value->Shared->Prop}{s:Shared}
set_option maxRecDepth 100000 in
end
section
variable {X:Cx}
end
end
section
variable {a:Addr}{X:Cx}{H H':Hp}{bc:List (Key×V)}{xs:List (List Key×Addr×Value)}{xE:List (TE×TE)}{pos:Pos}{Q:Value->Shared->Prop}
section
variable {κ:Type} [DecidableEq κ]
def gI (bc:List (κ×V))(k:κ):Option V:=(bc.find? λkv=>decide (kv.1=k)).map (·.2)
def putK (bc:List (κ×V))(k:κ)(v:V):List (κ×V):=
 if (bc.any λkv=>decide (kv.1=k))=true then bc.map (λkv=>if kv.1=k then(kv.1,v) else kv) else bc++[(k,v)]
theorem Dp {k:κ}:gI ([]:List (κ×V)) k=none:=rfl
theorem eI {p:κ×V}{r:List (κ×V)}{k:κ}(e:p.1=k):gI (p::r) k=some p.2:=by simp[gI,List.find?_cons,e]
theorem eJ {p:κ×V}{r:List (κ×V)}{k:κ}(e:¬p.1=k):gI (p::r) k=gI r k:=by simp[gI,List.find?_cons,e]
theorem kj (k:κ):∀bc:List (κ×V),(bc.any λkv=>decide (kv.1=k))=(gI bc k).isSome
 | []=>rfl
 | p::r=>by
  rw[List.any_cons]
  by_cases e:p.1=k
  ·simp only[eI e,decide_eq_true e,Bool.true_or,Option.isSome_some]
  ·rw[eJ e,decide_eq_false e,Bool.false_or];exact kj k r
theorem vI (k j:κ)(y:V):∀bc:List (κ×V),gI (bc.map λkv=>if kv.1=k then(kv.1,y) else kv) j=(gI bc j).map λx=>if j=k then y else x
 | []=>rfl
 | p::r=>by
  have ih:=vI k j y r
  rw[List.map_cons]
  by_cases h:p.1=k
  ·rw[if_pos h]
   by_cases e:p.1=j
   ·rw[eI (p:=(p.1,y)) e,eI e,Option.map_some,if_pos (e.symm.trans h)]
   ·rw[eJ (p:=(p.1,y)) e,eJ e,ih]
  ·rw[if_neg h]
   by_cases e:p.1=j
   ·rw[eI (p:=p) e,eI e,Option.map_some,if_neg (λz=>h (e.trans z))]
   ·rw[eJ (p:=p) e,eJ e,ih]
theorem tE (k j:κ)(y:V):∀bc:List (κ×V),gI bc k=none->gI (bc++[(k,y)]) j=if j=k then some y else gI bc j
 | [],_=>by
  by_cases e:k=j
  ·rw[if_pos e.symm];exact eI (p:=(k,y)) e
  ·rw[if_neg (λz=>e z.symm)];exact eJ (p:=(k,y)) e
 | p::r,hn=>by
  rw[List.cons_append]
  have hk:¬p.1=k:=λz=>by rw[eI z] at hn;cases hn
  rw[eJ hk] at hn
  have ih:=tE k j y r hn
  by_cases e:p.1=j
  ·rw[eI e,eI e,if_neg (λz=>hk (e.trans z))]
  ·rw[eJ e,eJ e,ih]
theorem Dq (bc:List (κ×V))(k j:κ)(y:V):gI (putK bc k y) j=if j=k then some y else gI bc j:=by
 unfold putK
 by_cases a:(bc.any λkv=>decide (kv.1=k))=true
 ·rw[if_pos a,vI]
  rw[kj] at a
  by_cases e:j=k
  ·obtain⟨x,hx⟩:=Option.isSome_iff_exists.mp a
   rw[if_pos e,e,hx,Option.map_some,if_pos rfl]
  ·rw[if_neg e]
   cases gI bc j with
   | none=>rfl
   | some x=>rw[Option.map_some,if_neg e]
 ·rw[if_neg a]
  refine tE k j y bc ?_
  rw[kj] at a
  cases q:gI bc k with
  | none=>rfl
  | some x=>rw[q] at a;exact(a rfl).elim
theorem kl (bc:List (κ×V))(k:κ)(v:V):(putK bc k v).length<=bc.length + 1:=by
 unfold putK
 split
 ·rw[List.length_map];omega
 ·rw[List.length_append,List.length_cons,List.length_nil];omega
theorem Dr {bc:List (κ×V)}{k:κ}(v:V)(h:gI bc k=none):putK bc k v=bc++[(k,v)]:=by
 unfold putK
 rw[kj,h]
 exact if_neg (by decide)
theorem j6.oe{o:Option V}{u:Option Value}(r:j6 o u):o.isSome=u.isSome:=by
 cases o with
 | none=>cases u with
  | none=>rfl
  | some _=>exact(show False from r).elim
 | some _=>cases u with
  | none=>exact(show False from r).elim
  | some _=>rfl
theorem j6.getD{o:Option V}{u:Option Value}{d:V}{d':Value}(r:j6 o u)(rd:RelV d d'):RelV (o.getD d) (u.getD d'):=by
 cases o with
 | none=>cases u with
  | none=>exact rd
  | some _=>exact(show False from r).elim
 | some _=>cases u with
  | none=>exact(show False from r).elim
  | some _=>exact r
theorem KV.val{bc:List (κ×V)}{vs:List (κ×Value)}(r:KV bc vs)(k:κ):j6 (gI bc k) (valueAt vs k):=by
 unfold KV at r
 induction r with
 | nil=>exact True.intro
 | @cons p q ps qs h t ih=>
  obtain⟨h1,h2⟩:=h
  by_cases e:p.1=k
  ·have e':q.1=k:=h1.symm.trans e
   have b:valueAt (q::qs) k=some q.2:=by simp[valueAt,List.find?_cons,e']
   rw[eI e,b];exact h2
  ·have e':¬q.1=k:=λz=>e (h1.trans z)
   have b:valueAt (q::qs) k=valueAt qs k:=by simp[valueAt,List.find?_cons,e']
   rw[eJ e,b];exact ih
theorem KV.any{bc:List (κ×V)}{vs:List (κ×Value)}(r:KV bc vs)(k:κ):(bc.any λkv=>decide (kv.1=k))=vs.any λkv=>decide (kv.1=k):=by
 unfold KV at r
 induction r with
 | nil=>rfl
 | cons h t ih=>rw[List.any_cons,List.any_cons,ih,h.1]
theorem KV.Mu{bc:List (κ×V)}{vs:List (κ×Value)}(r:KV bc vs)(k:κ){y:V}{u:Value}(ry:RelV y u):
  KV (bc.map λkv=>if kv.1=k then(kv.1,y) else kv) (vs.map λkv=>if kv.1=k then(kv.1,u) else kv):=by
 unfold KV at r ⊢
 induction r with
 | nil=>exact .nil
 | @cons p q ps qs h t ih=>
  rw[List.map_cons,List.map_cons]
  refine .cons ?_ ih
  obtain⟨h1,h2⟩:=h
  by_cases e:p.1=k
  ·rw[if_pos e,if_pos (h1.symm.trans e)];exact⟨h1,ry⟩
  ·rw[if_neg e,if_neg (λz=>e (h1.trans z))];exact⟨h1,h2⟩
theorem KV.put{bc:List (κ×V)}{vs:List (κ×Value)}(r:KV bc vs)(k:κ){y:V}{u:Value}(ry:RelV y u):KV (putK bc k y) (stored vs k u):=by
 unfold putK stored
 rw[r.any k]
 by_cases e:(vs.any λkv=>decide (kv.1=k))=true
 ·rw[if_pos e,if_pos e];exact r.Mu k ry
 ·rw[if_neg e,if_neg e];exact Paired.snoc r ⟨rfl,ry⟩
theorem KV.length{bc:List (κ×V)}{vs:List (κ×Value)}(r:KV bc vs):bc.length=vs.length:=Paired.length r
end
theorem vJ {P:Program}{w:World}{k:Key}{u:Value}(r:RelV (kV k) u):(dF P w).is k u=true:=by
 cases k with
 | inl i=>obtain⟨t,e⟩:=(show ∃t,u=Value.int i t from r);subst e;exact vq P w i t
 | inr x=>obtain⟨t,e⟩:=(show ∃t,u=Value.str x t from r);subst e;exact vv P w x t
theorem tF {P:Program}{w:World}:∀{ks:List Key} {us:List Value},Vals (ks.map kV) us->ItemsAre (dF P w) ks us
 | [],_,r=>by rw[List.map_nil] at r;cases r;exact .nil
 | k::ks,_,r=>by
  rw[List.map_cons] at r
  cases r with
  | cons h t=>exact .cons (vJ h) (tF t)
abbrev KT (H:Hp):List (List Key×V)->List (List Key×Addr×Value)->Prop:=Paired λp q=>p.1=q.1/\H q.2.1=some (.tup (p.1.map kV))/\RelV p.2 q.2.2
theorem KT.val{H:Hp}{bc:List (List Key×V)}{xs:List (List Key×Addr×Value)}(r:KT H bc xs)(k:List Key):j6 (gI bc k) ((atKey xs k).map (·.2)):=by
 induction r with
 | nil=>exact True.intro
 | @cons p q ps qs h t ih=>
  obtain⟨h1,_,h2⟩:=h
  by_cases e:p.1=k
  ·have e':q.1=k:=h1.symm.trans e
   have b:atKey (q::qs) k=some q.2:=by simp[atKey,List.find?_cons,e']
   rw[eI e,b];exact h2
  ·have e':¬q.1=k:=λz=>e (h1.trans z)
   have b:atKey (q::qs) k=atKey qs k:=by simp[atKey,List.find?_cons,e']
   rw[eJ e,b];exact ih
theorem KT.Mu{H:Hp}{bc:List (List Key×V)}{xs:List (List Key×Addr×Value)}(r:KT H bc xs)(k:List Key){y:V}{u:Value}(ry:RelV y u):
  KT H (bc.map λkv=>if kv.1=k then(kv.1,y) else kv) (xs.map (putAt k u)):=by
 induction r with
 | nil=>exact .nil
 | @cons p q ps qs h t ih=>
  rw[List.map_cons,List.map_cons]
  refine .cons ?_ ih
  obtain⟨h1,h2,h3⟩:=h
  unfold putAt
  by_cases e:p.1=k
  ·rw[if_pos e,if_pos (h1.symm.trans e)];exact⟨h1,h2,ry⟩
  ·rw[if_neg e,if_neg (λz=>e (h1.trans z))];exact⟨h1,h2,h3⟩
theorem KT.put{bc:List (List Key×V)}(r:KT H bc xs)(k:List Key){b:Addr}{y:V}{u:Value}(hb:H b=some (.tup (k.map kV)))(ry:RelV y u):
  KT H (putK bc k y) (storedH xs k b u):=by
 have e:(bc.any λkv=>decide (kv.1=k))=(atKey xs k).isSome:=by
  rw[kj,(r.val k).oe,Option.isSome_map]
 unfold putK storedH
 rw[e]
 by_cases q:(atKey xs k).isSome=true
 ·rw[if_pos q,if_pos q];exact r.Mu k ry
 ·rw[if_neg q,if_neg q];exact Paired.snoc r ⟨rfl,hb,ry⟩
theorem KT.keeps{bc:List (List Key×V)}(r:KT H bc xs)(ht:∀b ys,H b=some (.tup ys)->H' b=some (.tup ys)):KT H' bc xs:=
 Paired.LJ r λ_ _ z=>⟨z.1,ht _ _ z.2.1,z.2.2⟩
section
variable {P:Program}{w:World}{H:Hp}{h:Heap}{a:Addr}
theorem J4 {u:HO}(ok:lP P w H h)(e:Rd H a u):cR P w H h a u:=e.ok ok
theorem zG (ok:lP P w H h)(e:Rd H a (.dK bc)):bc.length<=sizeLine/\(a == sysModules)=false/\∃vs,KV bc vs/\h.DictOf (dF P w) a vs:=
 show cR P w H h a (.dK bc) from J4 ok e
theorem J5 (ok:lP P w H h)(e:H a=some (.dK bc)):bc.length<=sizeLine/\(a == sysModules)=false/\∃vs,KV bc vs/\h.DictOf (dF P w) a vs:=zG ok (.inl e)
theorem uE {ks:List Key}(ok:lP P w H h)(e:H a=some (.tup (ks.map kV))):(tupleKind (dF P w)).is h ks a:=by
 obtain⟨_,aO,r,o,h1,h2,n,h3⟩:=(show cR P w H h a (.tup (ks.map kV)) from ok a _ e)
 exact⟨o,aO.toArray,n,h1,h2,h3,by simpa using tF r⟩
theorem zH {bc:List (List Key×V)}(ok:lP P w H h)(e:Rd H a (.dT bc)):bc.length<=sizeLine/\(a == sysModules)=false/\
  ∃xs,KT H bc xs/\h.DictOfH (tupleKind (dF P w)) a xs:=by
 obtain⟨z,y,xs,r,o,es,ep,h1,h2,h3,h4,h5⟩:=(show cR P w H h a (.dT bc) from J4 ok e)
 refine⟨z,y,xs,r,o,es,ep,h1,h2,h3,h4,λx hx=>?_,h5⟩
 have all:∀{l:List (List Key×V)} {m:List (List Key×Addr×Value)},KT H l m->∀x ∈ m,(tupleKind (dF P w)).is h x.1 x.2.1:=by
  intro l m q
  induction q with
  | nil=>intro x hx;exact nomatch hx
  | @cons p q ps qs hq t ih=>
   intro x hx
   rcases List.mem_cons.mp hx with e | hx
   ·subst e
    exact uE ok (by rw[<-hq.1];exact hq.2.1)
   ·exact ih x hx
 exact all r x hx
theorem QC {bc:List (List Key×V)}(ok:lP P w H h)(e:H a=some (.dT bc)):bc.length<=sizeLine/\(a == sysModules)=false/\
  ∃xs,KT H bc xs/\h.DictOfH (tupleKind (dF P w)) a xs:=zH ok (.inl e)
end
def jw (H:Hp)(a:Addr)(y:V)(r:Option V):Prop:=
 (∃bc k,Rd H a (.dK bc)/\y=kV k/\r=gI bc k)\/∃bc k b,Rd H a (.dT bc)/\y=.ref b/\H b=some (.tup (k.map kV))/\r=gI bc k
def si (H:Hp)(a:Addr)(y v:V)(H':Hp):Prop:=
 (∃bc k,H a=some (.dK bc)/\y=kV k/\bc.length < sizeLine/\H'=upd H a (.dK (putK bc k v)))\/
 ∃bc k b,H a=some (.dT bc)/\y=.ref b/\H b=some (.tup (k.map kV))/\bc.length < sizeLine/\H'=upd H a (.dT (putK bc k v))
theorem jw.k{k:Key}(e:H a=some (.dK bc)):jw H a (kV k) (gI bc k):=.inl ⟨bc,k,.inl e,rfl,rfl⟩
theorem si.k{k:Key}{v:V}(e:H a=some (.dK bc))(hl:bc.length < sizeLine):si H a (kV k) v (upd H a (.dK (putK bc k v))):=.inl ⟨bc,k,e,rfl,hl,rfl⟩
section
variable {X:Cx}{pins:List (Addr×Obj)}{σ:St}{H:Hp}{s:Shared}{a:Addr}{y v:V}{u r:Value}{o:Option V}{A:Around}{E:Value->Shared->Prop}
theorem Inv.big(I:Inv X pins σ H s):sysModules < s.heap.objs.size:=by
 have h:mainGlobals < s.heap.objs.size:=(I.mod.glob.keeps I.bk).lt
 exact Nat.lt_trans (by decide) h
theorem Bk (hu:A.units + 1 < cLine)(I:Inv X pins σ H s)(g:jw H a y (some v))(ry:RelV y u)(h:∀w' s',Inv X pins σ H s'->RelV v w'->Q w' s'):
  wpAny (model X.prog X.w) A (getItem (.ref a) u) Q E s:=by
 rcases g with⟨bc,k,e,ey,l⟩ | ⟨bc,k,b,e,ey,eb,l⟩
 ·subst ey
  obtain⟨z,hd,vs,rel,dd⟩:=zG I.bf e
  obtain⟨w',hw,Bh⟩:=j6.some_of (v:=v) (o:=valueAt vs k) (by rw[l];exact rel.val k)
  exact wpAny_getItem_of (vJ ry) dd.mapOf hw (h w' _ (I.tok _) Bh)
 ·subst ey
  cases(show u=Value.ref b from ry)
  obtain⟨z,hd,xs,rel,dd⟩:=zH I.bf e
  obtain⟨w',hw,Bh⟩:=j6.some_of (v:=v) (o:=(atKey xs k).map (·.2)) (by rw[l];exact rel.val k)
  obtain⟨p,hp,GU⟩:=Option.map_eq_some_iff.mp hw
  refine wpAny_getItem_heap (tupleKind_room_in1 hu) (uE I.bf eb) dd hp ?_
  rw[GU]
  exact h w' _ (I.tok _) Bh
theorem HX (hu:A.units + 1 < cLine)(I:Inv X pins σ H s)(g:jw H a y o)(ry:RelV y u)(h:∀s',Inv X pins σ H s'->Q (.bool (!o.isSome)) s'):
  wpAny (model X.prog X.w) A (compareOp .NotIn u (.ref a)) Q E s:=by
 rcases g with⟨bc,k,e,ey,l⟩ | ⟨bc,k,b,e,ey,eb,l⟩
 ·subst ey
  obtain⟨z,hd,vs,rel,dd⟩:=zG I.bf e
  refine wpAny_notIn_of (vJ ry) hd dd.mapOf ?_
  rw[<-(rel.val k).oe,<-l]
  exact h _ (I.tok _)
 ·subst ey
  cases(show u=Value.ref b from ry)
  obtain⟨z,hd,xs,rel,dd⟩:=zH I.bf e
  refine wpAny_notIn_heap (tupleKind_room_in1 hu) (uE I.bf eb) hd dd ?_
  have q:=(rel.val k).oe
  rw[Option.isSome_map] at q
  rw[<-q,<-l]
  exact h _ (I.tok _)
theorem uF {h':Heap}{t':Nat}{ob:HO}(I:Inv X pins σ H s)(mu:PV (H a))(hs:Heap.SameBut a s.heap h')(he:∃q,h'.get? a=some q)(new:cR X.prog X.w (upd H a ob) h' a ob):
  Inv X pins σ (upd H a ob) {s with heap:=h',toks:=t'}:=
 I.write (x:=a) (e:=a) mu (.inl rfl) (λb q hb z=>(hs.2 b hb).trans z) he new
theorem Ds {P:Program}{w:World}{h':Heap}{vs:List (Key×Value)}(z:bc.length<=sizeLine)(hd:(a == sysModules)=false)(rel:KV bc vs)(dd:h'.DictOf (dF P w) a vs):
  cR P w H' h' a (.dK bc):=⟨z,hd,vs,rel,dd⟩
theorem Bl {Q:Unit->Shared->Prop}(hu:A.units + 1 < cLine)(I:Inv X pins σ H s)(g:si H a y v H')(ry:RelV y u)(rv:RelV v r)(h:∀s',Inv X pins σ H' s'->Q () s'):
  wpAny (model X.prog X.w) A (setItem (.ref a) u r) Q E s:=by
 rcases g with⟨bc,k,e,ey,l,eH⟩ | ⟨bc,k,b,e,ey,eb,l,eH⟩
 ·subst ey eH
  obtain⟨z,hd,vs,rel,dd⟩:=J5 I.bf e
  have hz:vs.length<=sizeLine:=by rw[<-rel.length];exact z
  have hl:(putK bc k v).length<=sizeLine:=by have:=kl bc k v;omega
  refine wpAny_setItem_pairs (hsz:=hz) (vJ ry) dd λh' J6 hs=>h _ ?_
  have he:∃q,h'.get? a=some q:=let ⟨q,_,_,hq,_⟩:=J6;⟨q,hq⟩
  exact uF I (by rw[e];exact True.intro) hs he (Ds hl hd (rel.put k rv) J6)
 ·subst ey eH
  cases(show u=Value.ref b from ry)
  obtain⟨z,hd,xs,rel,dd⟩:=QC I.bf e
  have hz:xs.length<=sizeLine:=by rw[<-Paired.length rel];exact z
  have hl:(putK bc k v).length<=sizeLine:=by have:=kl bc k v;omega
  refine wpAny_setItem_heap (hsz:=hz) (tupleKind_room_in1 hu) (uE I.bf eb) dd λh' J6 hs=>h _ ?_
  obtain⟨q,es,ep,hq,h2,h3,h4,_,h5⟩:=J6
  refine uF I (by rw[e];exact True.intro) hs ⟨q,hq⟩ ⟨hl,hd,_,(rel.put k eb rv).keeps λc ys ec=>?_,q,es,ep,hq,h2,h3,h4,h5⟩
  rw[ay (PU ec e (λz=>nomatch z))]
  exact ec
end
section
variable {X:Cx}{pins:List (Addr×Obj)}{σ:St}{H:Hp}{s:Shared}{a:Addr}{bc:List (Key×V)}{k:Key}{u:Value}{A:Around}{E:Value->Shared->Prop}
end
theorem vK {pins:List (Addr×Obj)}{σ:St}{s:Shared}{y:V}{o:Option V}(I:Inv X pins σ H s)(g:jw H a y o):s.TypeIs (.ref a) "dict":=by
 rcases g with⟨bc,k,e,_,_⟩ | ⟨bc,k,b,e,_,_,_⟩
 ·obtain⟨_,_,vs,_,dd⟩:=zG I.bf e
  exact dd.typeIs
 ·obtain⟨_,_,xs,_,dd⟩:=zH I.bf e
  exact dd.typeIs
def J7 (td ty:TE):TE:=λσ H Q=>td σ H λx H1=>ty σ H1 λy H2=>∃a v,x=.ref a/\jw H2 a y (some v)/\Q v H2
def QE (ty td:TE):TE:=λσ H Q=>ty σ H λy H1=>td σ H1 λx H2=>∃a o,x=.ref a/\jw H2 a y o/\Q (.bl o.isSome) H2
def uG (ty td:TE):TE:=λσ H Q=>ty σ H λy H1=>td σ H1 λx H2=>∃a o,x=.ref a/\jw H2 a y o/\Q (.bl (!o.isSome)) H2
def Dt (td ty tv:TE):TS:=λD σ H=>tv σ H λv H1=>td σ H1 λx H2=>ty σ H2 λy H3=>∃a H4,x=.ref a/\si H3 a y v H4/\D.nx σ H4
section
variable {X:Cx}{o i e value:Expr}{pos pos' Mc:Pos}{td ty tv:TE}
theorem Bm (hu:X.A.units + 1 < cLine)(hi:PE X i ty)(ho:PE X o td):PC X .NotIn i o (uG ty td):=by
 walk_at "xc"
 refine dq (hi pins s σ H _ I h) λiv s1 ⟨y,H1,I1,ry,q1⟩=>dq (ho pins s1 σ H1 _ I1 q1) λu s2 ⟨x,H2,I2,rx,a,ov,ex,g,q2⟩=>?_
 subst ex
 obtain rfl:u=Value.ref a:=rx
 exact HX hu I2 g ry λs3 I3=>⟨.bl (!ov.isSome),H2,I3,rfl,q2⟩
theorem lu (hu:X.A.units + 1 < cLine)(ho:PE X o td)(hi:PE X i ty)(hv:PE X value tv)(hs:swapsWith value (some (.Subscript o i pos')) pos.line X.env=pure false):
  PS X (.Assign [.Subscript o i pos'] value pos) (Dt td ty tv):=by
 walk_at "xd"
 refine wpAny_Assign_Subscript (dq (hv pins s σ H _ I h) λr s1 ⟨v,H1,I1,rv,q1⟩=>dq (ho pins s1 σ H1 _ I1 q1) λu s2 ⟨x,H2,I2,rx,q2⟩=>dq (hi pins s2 σ H2 _ I2 q2) λiv s3 ⟨y,H3,I3,ry,a,H4,ex,g,q3⟩=>?_) hs
 subst ex
 obtain rfl:u=Value.ref a:=rx
 exact Bl hu I3 g ry rv λs4 I4=>⟨σ,H4,I4,q3⟩
end
theorem vL {P:Program}{w:World}(h:Heap)(hb:sysModules < h.objs.size):cR P w H (h.push {cls:=.type "dict",data:=.dict #[]}) h.objs.size (.dK []):=
 ⟨Nat.zero_le _,beq_eq_false_iff_ne.mpr (Ne.symm (Nat.ne_of_lt hb)),[],.nil,Heap.DictOf.new h⟩
def yh:TE:=λ_ H Q=>∀p,H p=none->Q (.ref p) (upd H p (.dK []))
section
variable {X:Cx}{pos:Pos}
theorem Du:PE X (.Dict [] [] pos) yh:=.mk λpins s σ H Q I h=>
 wpAny_Dict_empty ⟨.ref s.heap.objs.size,_,I.laid (a:=s.heap.objs.size) (o:=.dK []) (t':=s.toks) (λ_ _ q=>Heap.get?_push_of_some _ q) (Nat.le_refl _) (vL s.heap I.big),rfl,h _ (I.bf.fresh (Nat.le_refl _))⟩
end
def og:List (TE×TE)->St->Hp->(List (V×V)->Hp->Prop)->Prop
 | [],_,H,Q=>Q [] H
 | (tk,tv)::r,σ,H,Q=>tk σ H λx H1=>tv σ H1 λy H2=>og r σ H2 λps H3=>Q ((x,y)::ps) H3
abbrev VV:List (V×V)->List (Value×Value)->Prop:=Paired λp q=>RelV p.1 q.1/\RelV p.2 q.2
def UN (X:Cx)(pos:Pos)(keys:List (Option Expr))(values:List Expr)(xE:List (TE×TE)):Prop:=
 ∀(pins:List (Addr×Obj)) (s:Shared) (σ:St) (H:Hp) (Q:List (V×V)->Hp->Prop),Inv X pins σ H s->og xE σ H Q->
  wpAny (model X.prog X.w) X.A (evalPairs (pairTrees keys values X.env pos)) (λvs s'=>∃ps H',Inv X pins σ H' s'/\VV ps vs/\Q ps H') X.xe s
theorem HY:UN X pos [] [] []:=λpins s σ H Q I h=>pairTrees_nil_walk ⟨[],H,I,.nil,h⟩
theorem qF {k v:Expr}{ks:List (Option Expr)}{vs:List Expr}{tk tv:TE}(hk:PE X k tk)(hv:PE X v tv)(hr:UN X pos ks vs xE):
  UN X pos (some k::ks) (v::vs) ((tk,tv)::xE):=λpins s σ H Q I h=>
 pairTrees_cons_walk (dq (hk pins s σ H _ I h) λu s1 ⟨x,H1,I1,rx,q1⟩=>dq (hv pins s1 σ H1 _ I1 q1) λw2 s2 ⟨y,H2,I2,ry,q2⟩=>
  dq (hr pins s2 σ H2 _ I2 q2) λws s3 ⟨ps,H3,I3,rel,q3⟩=>⟨(x,y)::ps,H3,I3,.cons ⟨rx,ry⟩ rel,q3⟩)
def lR (bc more:List (Key×V)):List (Key×V):=more.foldl (λacc kv=>putK acc kv.1 kv.2) bc
theorem KV.merge:∀{more:List (Key×V)} {rs:List (Key×Value)} {bc:List (Key×V)} {vs:List (Key×Value)},KV more rs->KV bc vs->KV (lR bc more) (merged vs rs):=by
 intro more rs bc vs r
 unfold KV at r
 induction r generalizing bc vs with
 | nil=>intro q;exact q
 | @cons p q ps qs h t ih=>
  intro r0
  have e:KV (putK bc p.1 p.2) (stored vs q.1 q.2):=by
   have:=r0.put p.1 h.2
   rw[<-h.1];exact this
  exact ih e
theorem lK:∀(more bc:List (Key×V)),(lR bc more).length<=bc.length + more.length
 | [],bc=>by show bc.length<=bc.length + 0;omega
 | p::r,bc=>by
  have h1:=lK r (putK bc p.1 p.2)
  have h2:=kl bc p.1 p.2
  show(lR (putK bc p.1 p.2) r).length<=_
  rw[List.length_cons];omega
theorem qG {P:Program}{w:World}:∀{bc:List (Key×V)} {ws:List (Value×Value)},VV (bc.map λkv=>(kV kv.1,kv.2)) ws->∃rs,Carries (dF P w) ws rs/\KV bc rs
 | [],_,r=>by rw[List.map_nil] at r;cases r;exact⟨[],True.intro,.nil⟩
 | p::bc,_,r=>by
  rw[List.map_cons] at r
  cases r with
  | @cons a b as bs h t=>
   obtain⟨rs,c,q⟩:=qG (P:=P) (w:=w) t
   obtain⟨b1,b2⟩:=b
   exact⟨(p.1,b2)::rs,⟨vJ h.1,rfl,c⟩,.cons ⟨rfl,h.2⟩ q⟩
def zI (xE:List (TE×TE)):TE:=λσ H Q=>∀p,H p=none->og xE σ (upd H p (.dK [])) λps H2=>H2 p=some (.dK [])/\∃bc:List (Key×V),ps=bc.map (λkv=>(kV kv.1,kv.2))/\bc.length<=15/\Q (.ref p) (upd H2 p (.dK (lR [] bc)))
theorem HZ {keys:List (Option Expr)}{values:List Expr}(h:UN X pos keys values xE)(Mv:keys.all (·.isSome)=true)(hl:keys.length=values.length)(h0:keys≠[])
  (h15:keys.length<=15):PE X (.Dict keys values pos) (zI xE):=by
 refine⟨?_⟩
 intro pins s σ H Q I q
 have hn:=I.bf.fresh (Nat.le_refl s.heap.objs.size)
 have I1:=I.laid (a:=s.heap.objs.size) (o:=.dK []) (h':=s.heap.push {cls:=.type "dict",data:=.dict #[]}) (t':=s.toks) (λ_ _ q=>Heap.get?_push_of_some _ q) (Nat.le_refl _) (vL s.heap I.big)
 refine wpAny_Dict_walk (knd:=dF X.prog X.w) Mv hl h0 h15 (dq (h pins _ σ _ _ I1 (q _ hn)) λws s2 ⟨ps,H2,I2,rel,e,bc,ep,lk,q2⟩=>?_)
 subst ep
 obtain⟨rs,c,rk⟩:=qG (P:=X.prog) (w:=X.w) rel
 obtain⟨z,hd,vs0,r0,dd⟩:=J5 I2.bf e
 cases r0
 refine⟨rs,c,dd,λh' J6 hs=>⟨.ref s.heap.objs.size,_,?_,rfl,q2⟩⟩
 have hz:(lR [] bc).length<=sizeLine:=by
  have h1:=lK bc []
  rw[List.length_nil] at h1
  rw[sizeLine_eq];omega
 have he:∃q,h'.get? s.heap.objs.size=some q:=let ⟨q,_,_,hq,_⟩:=J6;⟨q,hq⟩
 exact uF I2 (by rw[e];exact True.intro) hs he (Ds hz hd (rk.merge .nil) J6)
structure M1 (X:Cx)(o:Expr)(m:Str)(apos:Pos)(e:Expr)(hE:Pos):Prop where
 base:attributeBase o m X.env (eval o X.env)=eval o X.env
 Ia:((backTo hE (starEach [e] X.env)).all (λx=> !x.1) && (backToKw hE (keywordEach [] X.env)).all (λx=>x.1.isSome)
  && decide (([e]:List Expr).length + ([]:List Keyword).length + (if ([]:List Keyword).isEmpty then 0 else 1) < 30))=true
 line:(apos.endLine == hE.line)=true
 trees:backTo hE (starEach [e] X.env)=[(false,eval e X.env)]
structure M2 (X:Cx)(o:Expr)(m:Str)(apos:Pos)(e f:Expr)(hE:Pos):Prop where
 base:attributeBase o m X.env (eval o X.env)=eval o X.env
 Ia:((backTo hE (starEach [e,f] X.env)).all (λx=> !x.1) && (backToKw hE (keywordEach [] X.env)).all (λx=>x.1.isSome)
  && decide (([e,f]:List Expr).length + ([]:List Keyword).length + (if ([]:List Keyword).isEmpty then 0 else 1) < 30))=true
 line:(apos.endLine == hE.line)=true
 trees:backTo hE (starEach [e,f] X.env)=[(false,eval e X.env),(false,eval f X.env)]
section
variable {X:Cx}{pins:List (Addr×Obj)}{σ:St}{H:Hp}{s:Shared}{a:Addr}{y d:V}{u r:Value}{o:Option V}{A:Around}{E:Value->Shared->Prop}
end
section
variable {X:Cx}{pins:List (Addr×Obj)}{σ:St}{H:Hp}{s:Shared}{a:Addr}{y:V}{u:Value}{A:Around}{E:Value->Shared->Prop}
end
end
end L2
namespace Att
open PySem PySem.W PySem.Calls PyProof.Rows
theorem pP {P:Params}{h:Heap}:∀(ns:List Int) (vs:List Value),WellAll P h vs (ns.map WData.int)->IntsAre vs ns:=by
 intro ns
 induction ns with
 | nil=>
  intro vs w
  rw[List.map_nil] at w
  cases w
  exact .nil
 | cons n ns ih=>
  intro vs w
  rw[List.map_cons] at w
  cases w with
  | cons a b=>
   cases a
   exact .cons _ _ (ih _ b)
theorem Bn {l:OpenLaw}{n:Nat}(hn:l.most=some n){P:Params}{h:Heap}{args:List WData}{vals:List Value}
  (Ib:l.row.toRowW.claim.pre args=true) (fQ:WellAll P h vals args):
  ∃a vs ns,vals=[Value.ref a]/\args=[WData.list (ns.map WData.int)]/\h.get? a=some {cls:=.type "list",data:=.seq vs.toArray}/\IntsAre vs ns/\ns.length<=n:=by
 have hsh:WShape.hasAll [] args [.list .int]=true:=(pre_splitW Ib).1
 have hc:l.pre.holds [] {args:=args}=true:=(pre_splitW Ib).2
 obtain⟨d,r,rfl,h1,h2⟩:=hasAllW_cons hsh
 obtain rfl:=hasAllW_nil h2
 obtain⟨xs,rfl,h3⟩:=hasW_list h1
 obtain⟨ns,rfl⟩:=items_int h3
 have hlen:ns.length<=n:=by
  unfold OpenLaw.pre at hc
  have h4:(WTm.not (.lt (.lit (.int (n:Int))) (.len (.arg 0)))).holds [] {args:=[.list (ns.map .int)]}=true:=by
   have h4:=(holds_andW hc).1
   rw[hn] at h4
   exact h4
  have h5:=condW_of h4 (w_not (w_lt w_lit (w_len_list (w_arg rfl))))
  rw[List.length_map] at h5
  refine Nat.le_of_not_lt λq=>?_
  have q':(n:Int) < ((ns.length:Nat):Int):=by omega
  first
   | (rw[decide_eq_true q'] at h5;exact absurd h5 (by decide))
   | (simp at h5;omega)
 cases fQ with
 | cons w1 w2=>
  cases w2
  cases w1 with
  | list ho Mv=>exact⟨_,_,ns,rfl,rfl,ho,pP ns _ Mv,hlen⟩
theorem Bo (l:OpenLaw)(args:List WData):l.row.toRowW.claim.post args (.bool true) args=true:=
 postW_of (r:=l.row.toRowW) (X:=(true == true))
  (show WShape.has [] (.bool true) .bool=true by first | rfl | decide | simp[WShape.has,WShape.arms,WShape.armsAll])
  (show(WTm.eq .res (.lit (.bool true))).value [] {args:=args,res:=some (.bool true),after:=args}=some (.bool (true == true)) from w_eq_bool (w_res rfl) w_lit) rfl
theorem vM {l:OpenLaw}{n:Nat}{q:Program}{loose:List Str}{XP:(Str->Option Value)->Heap->Prop}{YP:World->Heap->Prop}{d:DefRec}
  (hn:l.most=some n) (QF:d.params.defaults=[])
  (call:∀(w:World) (s₀ s₁:Shared) (mg mb:Str->Option Value) (fa:Addr) (o:Obj) (pm cd doc:Value) (a:Addr) (vs:List Value) (ns:List Int),
   Ground q loose [] XP w s₀ mg mb s₁.heap->YP w s₁.heap->
   s₁.heap.get? fa=some o->o.data=.func (docDef d.name d.params d.body d.scope pm cd doc)->s₁.heap.CodeRec cd d.name->mg d.name=some (.ref fa)->
   s₁.heap.get? a=some {cls:=.type "list",data:=.seq vs.toArray}->IntsAre vs ns->ns.length<=n->s₁.gens=#[]->
   codeAny (model l.prog w) callerA (.call (.ref fa) ⟨[.ref a],[]⟩) (λr s'=>r=.ok (.ret (.bool true))/\OldK s₁.heap s'.heap/\s'.os=s₁.os/\AllBare s'.gens) s₁):
  WalkO q loose XP YP l.row.toRowW d [] (λf vs=>PySem.call f vs):=by
 intro w s₀ s₁ mg mb G Y fa o pm cd doc dV kV ho hd A0 hD QG hg args vals as Ib adj hrd fQ tH
 obtain rfl:dV=.none:=Dflts.none hD QF
 obtain rfl:kV=.none:=Dflts.noKw hD
 obtain⟨a,vs,ns,rfl,rfl,Mw,hints,hlen⟩:=Bn hn Ib fQ
 refine enter_call (codeAny_mono (call w s₀ s₁ mg mb fa o pm cd doc a vs ns G Y ho (fd_plain hd) A0 QG Mw hints hlen hg) λr s' hq=>?_)
 obtain⟨rfl,h2,h3,h4⟩:=hq
 exact⟨.inl ⟨.bool true,.bool true,[],rfl,λ_=>rfl,.bool true,Bo l _,λ_=>⟨List.Pairwise.nil,λ_ hm=>(nomatch hm)⟩⟩,h2,h3,h4⟩
section
variable {prog:Program}{w:World}{A:Around}{E:Value->Shared->Prop}{s:Shared}{K:Frag}
end
end Att
namespace L2
open PySem PySem.Spec PyProof.Rows
section
theorem tI:∀{vs:List Value} {ns:List Int},IntsAre vs ns->Vals (ns.map V.int) vs
 | _,_,.nil=>.nil
 | _,_,.cons n t h=>.cons ⟨t,rfl⟩ (tI h)
def Mx (H:Hp):Prop:=∀b,H b=none\/∃o xs,H b=some (.xA o (.lst xs))
theorem Dv {P:Program}{w:World}{K:W.Frag}{mg mb:Str->Option Value}{CX:GS}{k:Nat}{fa a:Addr}{fd:FuncData}{x:Str}{sp:Sp}{s₁:Shared}{vs:List Value}{ns:List Int}
  (KX:K.In s₁.heap) (hns:s₁.heap.Ns mainGlobals mg) (hb:s₁.heap.Ns builtinsNs mb) (hbb:∀x:Str,x≠"__name__"->mb x=bootBuiltins x) (WD:s₁.heap.NoLimit) (hg:s₁.gens=#[])
  (ha:s₁.heap.get? a=some {cls:=.type "list",data:=.seq vs.toArray}) (hi:IntsAre vs ns) (hl:ns.length<=sizeLine) (hr:eP k callerA)
  (F:∀base:Heap,K.In base->base.Ns mainGlobals mg->kh P w K mg base CX k fa fd [x] sp) (QH:∀(s:Shared) (u:Value),BindsTo s fd ⟨[u],[]⟩ [(x,u)])
  (J2:∀H:Hp,Mx H->aP K H a (ns.map V.int)->sp [.ref a] H (λv _=>v=.bl true) λ_ _ _=>False)
  (WE:∀H e s',CX [] H s₁ (λ_ _ _=>False) e s'->False):
  codeAny (model P w) callerA (.call (.ref fa) ⟨[.ref a],[]⟩) (λr s'=>r=.ok (.ret (.bool true))/\OldK s₁.heap s'.heap/\s'.os=s₁.os/\AllBare s'.gens) s₁:=by
 have rv:=tI hi
 have WG:=hi.length
 have core:∀H:Hp,Mx H->aP K H a (ns.map V.int)->lP P w H s₁.heap->(∀b,H b≠none->b=a)->(H a≠none->K.lookup a=none)->
   codeAny (model P w) callerA (.call (.ref fa) ⟨[.ref a],[]⟩) (λr s'=>r=.ok (.ret (.bool true))/\OldK s₁.heap s'.heap/\s'.os=s₁.os/\AllBare s'.gens) s₁:=by
  intro H hO hS bf hA hK
  have zJ:∀{b:Addr} {o:Obj},s₁.heap.get? b=some o->H b=none->(uo s₁.heap H).get? b=some o:=λe n=>CB e n
  have Qo:∀{b:Addr} {o:Obj} {es:Array DictEntry} {ep:Nat},s₁.heap.get? b=some o->o.data=.dict es ep->H b=none:=λ{b o es ep} e d=>by
   cases q:H b with
   | none=>rfl
   | some u=>
    have e':b=a:=hA b (by rw[q];simp)
    subst e'
    rw[ha] at e;cases e
    have d':Data.seq vs.toArray _=Data.dict es ep:=d
    cases d'
  have UO:∀{b:Addr} {m:Str->Option Value},s₁.heap.Ns b m->(uo s₁.heap H).Ns b m:=λ{b m} ⟨o,es,ep,e,d,r⟩=>⟨o,es,ep,zJ e (Qo e d),d,r⟩
  have hKb:K.In (uo s₁.heap H):=λb o e=>zJ (KX b o e) (by
   cases q:H b with
   | none=>rfl
   | some u=>
    have e':b=a:=hA b (by rw[q];simp)
    subst e'
    rw[hK (by rw[q];simp)] at e;cases e)
  have hM:Mod K mg (uo s₁.heap H):=⟨hKb,UO hns,⟨mb,UO hb,hbb⟩,let ⟨mc,h1,h2⟩:=WD;⟨mc,UO h1,h2⟩⟩
  have e0:x8 P w K mg (uo s₁.heap H) callerA [] s₁ H:=⟨rfl,hM,λb o e=>Hr e,Nat.le_of_eq (AW _ _),trivial,λb hb=>absurd (show b ∈ ([]:List Addr) from hb) (by simp),bf,.of_eq hg⟩
  refine codeAny_mono ((F _ hKb (UO hns)).run callerA [] s₁ H ⟨[.ref a],[]⟩ [.ref a] [.ref a] _ _ hr e0 (QH s₁ (.ref a)) (.cons rfl .nil) (J2 H hO hS)) λr s' h=>?_
  cases r with
  | error e=>exact(WE H e s' h).elim
  | ok fl=>
   cases fl with
   | next=>exact False.elim h
   | brk=>exact False.elim h
   | cont=>exact False.elim h
   | ret u=>
    obtain⟨v,H',os,bare,un,WH,r',q⟩:=h
    have q':v=.bl true:=q
    subst q'
    obtain rfl:u=Value.bool true:=r'
    refine⟨rfl,OldK.of_keep λb o e=>?_,os,bare⟩
    cases q:H b with
    | none=>exact un.keep b o e q (by intro z;exact absurd (show b ∈ ([]:List Addr) from z) (by simp)) (by simp)
    | some u=>
     rcases hO b with z | ⟨ob,xs,z⟩
     ·rw[q] at z;cases z
     ·have z2:=un.pN b ob _ z
      obtain⟨e1,_⟩:=bf b _ z
      obtain⟨e2,_⟩:=WH b _ z2
      rw[e] at e1;cases e1
      exact e2
 cases hk:K.lookup a with
 | some o=>
  have e:=KX a o hk
  rw[ha] at e
  cases e
  refine core (λ_=>none) (λ_=>.inl rfl) (.inr ⟨_,vs.toArray,_,hk,rfl,rfl,rfl,by rw[List.size_toArray,WG];exact hl,by simpa using rv⟩) (λb u z=>by have z':(none:Option HO)=some u:=z;cases z') (λb z=>absurd rfl z) λz=>absurd rfl z
 | none=>
  refine core (λb=>if b=a then some (.xA {cls:=.type "list",data:=.seq vs.toArray} (.lst (ns.map V.int))) else none) (λb=>?_) (.inl (.inr ⟨{cls:=.type "list",data:=.seq vs.toArray},if_pos rfl⟩)) (λb u z=>?_) (λb z=>?_) λ_=>hk
  ·by_cases hb:b=a
   ·exact .inr ⟨_,_,if_pos hb⟩
   ·exact .inl (if_neg hb)
  ·by_cases hb:b=a
   ·have z':=(if_pos hb).symm.trans z
    cases z'
    subst hb
    exact⟨ha,by rw[List.length_map];exact hl,vs,_,rv,ha⟩
   ·have z':=(if_neg hb).symm.trans z
    cases z'
  ·by_cases hb:b=a
   ·exact hb
   ·exact absurd (if_neg hb) z
end
section
theorem Ic {l:W.OpenLaw}{n k:Nat}{q:Program}{loose:List Str}{XP:(Str->Option Value)->Heap->Prop}{YP:World->Heap->Prop}{d:DefRec}{K:Params->W.Frag}{CX:World->GS}{sp:World->Sp}{x:Str}
  (hn:l.most=some n) (UI:n<=sizeLine) (QF:d.params.defaults=[]) (hr:eP k callerA)
  (hY:∀(w:World) (h:Heap),YP w h->(K w.params).In h)
  (F:∀(w:World) (mg:Str->Option Value) (fa:Addr) (h:Heap),(K w.params).In h->h.Ns mainGlobals mg->mg d.name=some (.ref fa)->
   ∃fd:FuncData,(∀(s:Shared) (u:Value),BindsTo s fd ⟨[u],[]⟩ [(x,u)])/\
    ∀base:Heap,(K w.params).In base->base.Ns mainGlobals mg->kh l.prog w (K w.params) mg base (CX w) k fa fd [x] (sp w))
  (J2:∀(w:World) (H:Hp) (a:Addr) (ns:List Int),ns.length<=n->Mx H->aP (K w.params) H a (ns.map V.int)->sp w [.ref a] H (λv _=>v=.bl true) λ_ _ _=>False)
  (WE:∀(w:World) (H:Hp) (s:Shared) (e:Value) (s':Shared),CX w [] H s (λ_ _ _=>False) e s'->False):
  W.WalkO q loose XP YP l.row.toRowW d [] (λf vs=>PySem.call f vs):=by
 refine Att.vM hn QF λw s₀ s₁ mg mb fa o pm cd doc a vs ns G Y ho hd A0 QG Mw hints hlen hg=>?_
 have KX:=hY w _ Y
 obtain⟨fd,hb,hF⟩:=F w mg fa _ KX G.T.g QG
 exact Dv KX G.T.g G.T.b G.T.builtins G.T.nolimit hg Mw hints (Nat.le_trans hlen UI) hr hF hb (λH hO hS=>J2 w H a ns hlen hO hS) λH e s'=>WE w H s₁ e s'
end
section
variable {f:Addr}{st:Stmt}{qual:Str}
def eD (s:Stmt):Arguments:=match s with
 | .FunctionDef _ a _ _ _ _ _ _ _ _=>a
 | _=>{posonlyargs:=[],args:=[],vararg:=none,kwonlyargs:=[],kw_defaults:=[],kwarg:=none,defaults:=[]}
def cU (s:Stmt):List Stmt:=match s with
 | .FunctionDef _ _ b _ _ _ _ _ _ _=>b
 | _=>[]
def az (s:Stmt):Scope:=match s with
 | .FunctionDef _ _ _ _ _ _ sc _ _ _=>sc
 | _=>{kind:=.function,names:=[],isGenerator:=false,isCoroutine:=false}
abbrev yi:GS:=λ_ _ _ _ _ _=>False
abbrev E0:XK:=λ_ _ _=>False
theorem zK {X:Cx}:Passes yi X E0:=λ_ _ _ _ _ _ _ h=>h.elim
structure GV (K:W.Frag)(x qual:Str)(st:Stmt)(f:Addr)(fd:FuncData):Prop where
 ex:∃(oc:Value) (od:Option Addr) (kV doc pm:Value) (an:Option Addr) (fT ct:Value) (J1:Array (Option Value)),
  fd=W.fnOf x qual (eD st) (cU st) (az st) .none kV doc pm an fT ct/\K.lookup f=some ⟨oc,od,.func fd,J1⟩/\W.codeIn K fT qual=true
 kp:W.keepIn K (.ref f)=true
section
variable {P:Program}{w:World}{K:W.Frag}{mg:Str->Option Value}{base:Heap}
theorem GV.ok{x:Str}{fd:FuncData}{N ps:List Str}{k:Nat}{sp:Sp}(F:GV K x qual st f fd)(S:aD N ps (az st))(len:∀vs H Q E,sp vs H Q E->vs.length=ps.length)
  (ki:∀(fT:Value) (A:Around) (outer:List Env) (s:Shared) (H:Hp) (vs:List V) (Q:VK) (E:XK),eP k (A.deeper (envOfC qual (az st) s.heap.objs.size f fT))->sp vs H Q E->
   ∃t,uu (pO yi P w K mg base N qual (az st) f fT A outer s H E).xN (cU st) t/\t {nx:=λ_ H'=>Q .bR H',rt:=Q} (start N vs) H):kh P w K mg base yi (k + 1) f fd ps sp:=by
 obtain⟨oc,od,kV,doc,pm,an,fT,ct,J1,rfl,lk,A0⟩:=F.ex
 refine Qp lk A0 S len λA outer s H vs Q E hr J2=>?_
 obtain⟨t,h,q⟩:=ki fT A outer s H vs Q E hr J2
 exact⟨t,h.xN,q⟩
theorem GV.binds{x:Str}{fd:FuncData}{ps:List Str}(F:GV K x qual st f fd)
  (h:∀(kV doc pm:Value) (an:Option Addr) (fT ct:Value) (us:List Value),us.length=ps.length->bindArgs (W.fnOf x qual (eD st) (cU st) (az st) .none kV doc pm an fT ct) ⟨us,[]⟩=pure (ps.zip us)):Binds K fd ps []:=by
 obtain⟨oc,od,kV,doc,pm,an,fT,ct,J1,rfl,lk,A0⟩:=F.ex
 exact .all (h kV doc pm an fT ct)
theorem lS {x:Str}{oc:Value}{od an:Option Addr}{J1:Array (Option Value)}{kV doc pm fT ct:Value}(l:K.lookup f=some ⟨oc,od,.func (W.fnOf x qual (eD st) (cU st) (az st) .none kV doc pm an fT ct),J1⟩)
  (c:W.codeIn K fT qual=true) (k:W.keepIn K (.ref f)=true):GV K x qual st f (W.fnOf x qual (eD st) (cU st) (az st) .none kV doc pm an fT ct):=⟨⟨oc,od,kV,doc,pm,an,fT,ct,J1,rfl,l,c⟩,k⟩
end
theorem aH {n:Nat}(h:n<=1000):n < sizeLine:=Nat.lt_of_le_of_lt h (by decide)
section
variable {X:Cx}
theorem pv (i:Nat){x:Str}{pos:Pos}(hN:X.N[i]?=some x:=by rfl)(hv:PY X.env.scope x:=by first | exact Or.inl rfl | exact Or.inr (Or.inl rfl) | exact Or.inr (Or.inr rfl))(hd:(x == ("__debug__":Str))=false:=by decide)
  (A0:(x == ("__classdict__":Str))=false:=by decide):PE X (.Name x pos) (CC i):=CF hN hv hd A0
end
def av (H H':Hp):Prop:=∀b o,H b=some o->H' b=some o
theorem av.refl(H:Hp):av H H:=λ_ _ h=>h
theorem av.trans{H H1 H2:Hp}(a:av H H1)(b:av H1 H2):av H H2:=λc o h=>b c o (a c o h)
theorem av.free{H H':Hp}(e:av H H'){l:Addr}(h:H' l=Option.none):H l=Option.none:=by
 cases q:H l with
 | none=>rfl
 | some o=>
  rw[e l o q] at h
  cases h
theorem av.seq{K:W.Frag}{H H':Hp}{a:Addr}{xs:List V}(e:av H H')(h:aP K H a xs):aP K H' a xs:=by
 rcases h with(h | ⟨o,h⟩) | h
 ·exact .inl (.inl (e _ _ h))
 ·exact .inl (.inr ⟨o,e _ _ h⟩)
 ·exact .inr h
end
end L2
set_option maxHeartbeats 4000000
namespace L2
open PySem PySem.Spec PyProof.Rows
section
variable {X:Cx}{H H₂:Hp}{pins:List (Addr×Obj)}{σ:St}
def lT (env:Env):List (Str×NameKind)->List (Str×Addr)->List (Str×Addr)
 | [],cs=>cs
 | (n,k)::r,cs=>lT env r (if k == .free then(n,(env.cells.lookup n).getD 0)::cs else cs)
theorem vN {env:Env}{x:Str}{c:Addr}:∀{l:List (Str×NameKind)} {cs:List (Str×Addr)},(x,c) ∈ lT env l cs->(x,c) ∈ cs\/((x,NameKind.free) ∈ l/\c=(env.cells.lookup x).getD 0)
 | [],cs,h=>.inl h
 | (n,k)::r,cs,h=>by
  unfold lT at h
  rcases vN h with h1 | ⟨h1,h2⟩
  ·by_cases hk:(k == NameKind.free)=true
   ·rw[if_pos hk] at h1
    have ek:k=.free:=by simpa using hk
    rcases List.mem_cons.mp h1 with e | e
    ·have e1:=congrArg Prod.fst e
     have e2:=congrArg Prod.snd e
     simp only at e1 e2
     subst e1 ek
     exact .inr ⟨List.mem_cons_self,e2⟩
    ·exact .inl e
   ·rw[if_neg hk] at h1
    exact .inl h1
  ·exact .inr ⟨List.mem_cons_of_mem _ h1,h2⟩
theorem tJ {env:Env}{p:Str×Addr}:∀{l:List (Str×NameKind)} {cs:List (Str×Addr)},p ∈ cs->p ∈ lT env l cs
 | [],_,h=>h
 | (n,k)::r,cs,h=>by
  unfold lT
  refine tJ ?_
  split
  ·exact List.mem_cons_of_mem _ h
  ·exact h
theorem qH {env:Env}{x:Str}:∀{l:List (Str×NameKind)} {cs:List (Str×Addr)},(x,NameKind.free) ∈ l->(x,(env.cells.lookup x).getD 0) ∈ lT env l cs
 | [],_,h=>by simp at h
 | (n,k)::r,cs,h=>by
  unfold lT
  rcases List.mem_cons.mp h with e | e
  ·have e1:=congrArg Prod.fst e
   have e2:=congrArg Prod.snd e
   simp only at e1 e2
   subst e1 e2
   refine tJ ?_
   rw[if_pos (by simp)]
   exact List.mem_cons_self
  ·exact qH e
theorem e9 {β:Type}:∀{l:List (Str×β)} {x:Str} {c:β},(x,c) ∈ l->∃d,l.lookup x=some d
 | [],_,_,h=>by simp at h
 | (n,b)::r,x,c,h=>by
  by_cases e:x=n
  ·subst e;exact⟨b,by simp⟩
  ·have hb:(x == n)=false:=beq_eq_false_iff_ne.mpr e
   rcases List.mem_cons.mp h with q | q
   ·exact absurd (congrArg Prod.fst q) e
   ·obtain⟨d,hd⟩:=e9 q
    exact⟨d,by simp only[List.lookup_cons,hb];exact hd⟩
theorem lL {scope:Scope}{env:Env}(h:∀x ∈ scope.names,x.2=.free->∃c,env.cells.lookup x.1=some c):closureFor scope env=pure (lT env scope.names []):=by
 unfold closureFor
 have key:∀(l:List (Str×NameKind)) (cs:List (Str×Addr)),(∀x ∈ l,x.2=.free->∃c,env.cells.lookup x.1=some c)->
   ((forIn l cs λ(x:Str×NameKind) (r:List (Str×Addr))=>if (x.2 == NameKind.free)=true then do let y <-cellOf env x.1;pure (ForInStep.yield ((x.1,y)::r)) else pure (ForInStep.yield r)):Sem (List (Str×Addr)))=pure (lT env l cs):=by
  intro l
  induction l with
  | nil=>intro cs _;rfl
  | cons p r ih=>
   intro cs hh
   obtain⟨n,k⟩:=p
   rw[List.forIn_cons]
   dsimp only
   by_cases hk:(k == NameKind.free)=true
   ·obtain⟨c,hc⟩:=hh (n,k) List.mem_cons_self (by simpa using hk)
    have e:cellOf env n=pure c:=by unfold cellOf;rw[hc]
    rw[if_pos hk,e,pure_bind,pure_bind]
    dsimp only
    rw[ih _ λx hx=>hh x (List.mem_cons_of_mem _ hx)]
    show _=pure (lT env r _)
    rw[if_pos hk,hc]
    rfl
   ·rw[if_neg hk,pure_bind]
    dsimp only
    rw[ih _ λx hx=>hh x (List.mem_cons_of_mem _ hx)]
    show _=pure (lT env r _)
    rw[if_neg hk]
 have:=key scope.names [] h
 simp only at this ⊢
 rw[this,pure_bind]
def zL (ifs:List Expr)(env:Env):Sem Bool:=forIn ifs true λc r=>if r=true then do let ok <-isTrue c env (eval c env);pure (ForInStep.yield ok) else pure (ForInStep.yield r)
def OF (X:Cx)(ifs:List Expr)(t:TT):Prop:=
 ∀(pins:List (Addr×Obj)) (s:Shared) (σ:St) (H:Hp) (Q:Bool->Hp->Prop),Inv X pins σ H s->t σ H Q->wpAny (model X.prog X.w) X.A (zL ifs X.env) (TP X pins σ Q) X.xe s
def iJ:TT:=λ_ H Q=>Q true H
theorem Ie:OF X [] iJ:=λ_ _ _ H _ I h=>wpAny_pure ⟨H,I,h⟩
theorem jH {c:Expr}{t:TT}(h:PT X c t):OF X [c] t:=λpins s σ H Q I hw=>wpAny_tests_one (h pins s σ H Q I hw)
section
variable {prog:Program}{w:World}{A:Around}{R:Result->Shared->Prop}{s:Shared}
theorem uH {elt target iter:Expr}{ifs:List Expr}{scope:Scope}{pos:Pos}{it acc:Value}{env:Env}(I:Nat->Shared->Prop)
  (turn:∀n s,I n s->wpAny (model prog w) A (pyNext it) (λr s₁=>match r with
   | none=>R (.ok .next) s₁
   | some v=>wpAny (model prog w) A (letOwnedTupleGo target it v) (λ_ s₂=>wpAny (model prog w) A (assign target env v) (λ_ s₃=>
     wpAny (model prog w) A (zL ifs env) (λok s₄=>
      if ok=true then wpAny (model prog w) A (eval elt env) (λx s₅=>
       wpAny (model prog w) A (call (.builtin "list.append") [acc,x]) (λ_ s₆=>∃m,m < n/\I m s₆) (λ_ _=>False) s₅) (λ_ _=>False) s₄
      else ∃m,m < n/\I m s₄) (λ_ _=>False) s₃) (λ_ _=>False) s₂) (λ_ _=>False) s₁) (λ_ _=>False) s)
  (n:Nat) (h:I n s):
  codeAny (model prog w) A (.compLoop (.ListComp elt [⟨target,iter,ifs,0⟩] scope pos) 0 it acc env) R s:=by
 refine codeAny_loop rfl I (λn s hI=>?_) n h
 show wpAny _ A ((compTurn (.ListComp elt [⟨target,iter,ifs,0⟩] scope pos) 0 it acc env).onRaise (λx=>do noteFrame x env;theTreesLotGoes x)) _ _ s
 refine wpAny_noted ?_
 rw[compTurn_list]
 refine wpAny_bind (wpAny_standAt (wpAny_bind (wpAny_mono (turn n s hI) (λr s₁ h₁=>?_) λ_ _ h'=>h'.elim)))
 cases r with
 | none=>exact wpAny_pure h₁
 | some v=>
  refine wpAny_bind (wpAny_mono h₁ (λ_ s₂ h₂=>?_) λ_ _ h'=>h'.elim)
  refine wpAny_bind (wpAny_mono h₂ (λ_ s₃ h₃=>wpAny_bind (wpAny_mono h₃ (λok s₄ h₄=>?_) λ_ _ h'=>h'.elim)) λ_ _ h'=>h'.elim)
  cases ok with
  | false=>exact wpAny_pure ⟨rfl,h₄⟩
  | true=>
   exact wpAny_bind (wpAny_bind (wpAny_mono h₄ (λx s₅ h₅=>wpAny_bind (wpAny_mono h₅ (λ_ s₆ h₆=>wpAny_pure (wpAny_pure ⟨rfl,h₆⟩)) λ_ _ h'=>h'.elim)) λ_ _ h'=>h'.elim))
end
def Bp (N N':List Str)(ix:List (Option Nat))(scope:Scope):Bool:=
 N'.length == ix.length && (N'.zip ix).all λp=>match p.2 with | none=>true | some j=>N[j]? == some p.1 && scope.names.lookup p.1 == some .free
def uJ (ix:List (Option Nat))(σ:St):St:=ix.map λo=>match o with | none=>none | some j=>(σ[j]?).join
def freeOk (scope:Scope)(outer:Scope):Bool:=
 scope.names.all λx=>(x.2 != .cell) && (x.2 != .free || (outer.names.lookup x.1 == some .cell || outer.names.lookup x.1 == some .free)) && (x.2 != .local || scope.names.lookup x.1 == some .local) && (x.2 != .free || scope.names.lookup x.1 == some .free)
def QI (X:Cx)(scope:Scope)(C:Addr)(N':List Str)(s₂:Shared)(H₂:Hp)(fp:List Addr):Cx:=
 {X with N:=N',s₀:=s₂,H₀:=H₂,env:=compEnvC scope (lT X.env scope.names []) C X.env,outer:=X.stack,stack:=X.stack,ex:=fp,fn:=λ_=>false,pn:=[],xe:=λ_ _=>False}
theorem freeOk.at {scope outer:Scope}(h:freeOk scope outer=true){x:Str×NameKind}(hx:x ∈ scope.names):x.2≠.cell/\(x.2=.free->outer.names.lookup x.1=some .cell\/outer.names.lookup x.1=some .free)/\(x.2=.local->scope.names.lookup x.1=some .local)/\(x.2=.free->scope.names.lookup x.1=some .free):=by
 have h1:=List.all_eq_true.mp h x hx
 simp only[Bool.and_eq_true,Bool.or_eq_true,bne_iff_ne,ne_eq,beq_iff_eq] at h1
 obtain⟨⟨⟨a,b⟩,c⟩,d⟩:=h1
 exact⟨a,λe=>b.resolve_left λz=>z e,λe=>c.resolve_left λz=>z e,λe=>d.resolve_left λz=>z e⟩
theorem eL {scope:Scope}{env:Env}:∀{names:List (Str×NameKind)} {x:Str} {k:NameKind},
  (names.map λ(n,k)=>if (k == NameKind.free && env.scope.kind == .function && env.kindOf n == some .cell) then(n,NameKind.cell) else(n,k)).lookup x=some k->∃k',(x,k') ∈ names/\(k=k'\/(k=.cell/\k'=.free))
 | [],_,_,h=>by simp at h
 | (n,k0)::r,x,k,h=>by
  rw[List.map_cons] at h
  by_cases hc:(k0 == NameKind.free && env.scope.kind == .function && env.kindOf n == some .cell)=true
  ·simp only[hc,if_true] at h
   cases hx:x == n with
   | true=>
    simp only[List.lookup_cons,hx] at h
    have e:x=n:=by simpa using hx
    subst e
    have hk:k0=.free:=by
     simp only[Bool.and_eq_true,beq_iff_eq] at hc
     exact hc.1.1
    exact⟨k0,List.mem_cons_self,.inr ⟨(Option.some.inj h).symm,hk⟩⟩
   | false=>
    simp only[List.lookup_cons,hx] at h
    obtain⟨k',m,q⟩:=eL (scope:=scope) (env:=env) h
    exact⟨k',List.mem_cons_of_mem _ m,q⟩
  ·dsimp only at h
   rw[if_neg hc] at h
   cases hx:x == n with
   | true=>
    simp only[List.lookup_cons,hx] at h
    have e:x=n:=by simpa using hx
    subst e
    exact⟨k0,List.mem_cons_self,.inl (Option.some.inj h).symm⟩
   | false=>
    simp only[List.lookup_cons,hx] at h
    obtain⟨k',m,q⟩:=eL (scope:=scope) (env:=env) h
    exact⟨k',List.mem_cons_of_mem _ m,q⟩
section
variable {X:Cx}{scope:Scope}{C:Addr}{N':List Str}{s₂:Shared}{H₂:Hp}{fp:List Addr}{pins:List (Addr×Obj)}{σ:St}
theorem lx (I:Inv X pins σ H₂ s₂)(hf:freeOk scope X.env.scope=true){x:Str}{c:Addr}(h:(lT X.env scope.names []).lookup x=some c):X.env.cells.lookup x=some c/\(x,NameKind.free) ∈ scope.names:=by
 rcases vN (PySem.mem_of_lookup h) with z | ⟨z1,z2⟩
 ·simp at z
 ·have q:=(hf |> λh=>freeOk.at h z1).2.1 rfl
  obtain⟨c',e⟩:=I.ok.has x q
  rw[e] at z2
  exact⟨by rw[e,z2];rfl,z1⟩
theorem My (I:Inv X pins σ H₂ s₂)(hf:freeOk scope X.env.scope=true)(hk:scope.kind=.function)(hC:s₂.heap.objs.size<=C)(GW:∀b ∈ fp,nW X pins H₂ b)(Mz:∀b ∈ fp,∃o,s₂.heap.get? b=some o):(QI X scope C N' s₂ H₂ fp).Ok where
 mod:=I.ok.mod
 kind:=hk
 glob:=I.ok.glob
 blt:=I.ok.blt
 above:=hC
 inj:=λx y c h1 h2=>I.ok.inj x y c (lx I hf h1).1 (lx I hf h2).1
 has:=λx h=>by
  have h:(relabel scope X.env).names.lookup x=some .cell\/(relabel scope X.env).names.lookup x=some .free:=h
  have key:(x,NameKind.free) ∈ scope.names:=by
   rcases h with h | h
   ·obtain⟨k',m,q⟩:=eL (scope:=scope) h
    rcases q with q | ⟨_,q⟩
    ·subst q
     exact absurd rfl (freeOk.at hf m).1
    ·subst q;exact m
   ·obtain⟨k',m,q⟩:=eL (scope:=scope) h
    rcases q with q | ⟨q,_⟩
    ·subst q;exact m
    ·cases q
  exact e9 (qH key)
 OB:=λ_ _ h _=>absurd (show false=true from h) Bool.false_ne_true
 hd:=I.ok.hd
 frames:=I.ok.frames
 PZ:=.inl rfl
 UA:=λb hb=>by
  obtain⟨o,ho⟩:=Mz b hb
  obtain⟨f0,f1,f2,f3,f4,f5⟩:=GW b hb
  refine⟨Nat.ne_of_lt (Nat.lt_of_lt_of_le (Heap.lt_size ho) hC),λx c h=>?_⟩
  exact f4 x c (lx I hf h).1
 bs:=I.bs
 Ce:=Nat.le_trans I.ok.Ce I.sz
 xK:=λb o e hb=>by
  obtain⟨f0,f1,f2,f3,f4,f5⟩:=GW b hb
  rcases f3 with z | z
  ·exact I.ok.xK b o e z
  ·exact absurd (Nat.lt_of_lt_of_le (Nat.lt_of_lt_of_le (Heap.lt_size e) I.ok.Ce) z) (Nat.lt_irrefl _)
 AY:=λb hb z=>by
  obtain⟨f0,f1,f2,f3,f4,f5⟩:=GW b hb
  rcases List.mem_cons.mp (I.uq b z) with e | e
  ·exact f1 e
  ·exact f2 e
 nS:=I.stack
 JS:=I.zi
end
theorem Inv.less{σ':St}{s:Shared}(I:Inv X pins σ H s)(hl:σ'.length=σ.length)(h:∀(i:Nat) (v:V),σ'[i]?=some (some v)->σ[i]?=some (some v)):Inv X pins σ' H s:=
 ⟨I.ok,I.os,I.bare,I.base,(let ⟨m,hn,hv⟩:=I.loc;⟨m,hn,λi x v e1 e2 e3=>hv i x v e1 (h i v e2) e3⟩),I.cell,I.free,I.j8,I.pin,I.bf,hl.trans I.len⟩
def Ext (σ σ':St):Prop:=σ'.length=σ.length/\∀(i:Nat) (v:V),σ[i]?=some (some v)->σ'[i]?=some (some v)
theorem Ext.refl(σ:St):Ext σ σ:=⟨rfl,λ_ _ h=>h⟩
theorem Ext.set{σ':St}(h:Ext σ σ'){j:Nat}{w:Option V}(hj:σ[j]?=some none):Ext σ (σ'.set j w):=by
 refine⟨by rw[List.length_set];exact h.1,λi v e=>?_⟩
 have ne:j≠i:=by rintro rfl;rw[hj] at e;cases e
 rw[List.getElem?_set_ne ne]
 exact h.2 i v e
theorem Ig (ix:List (Option Nat))(σ:St):(uJ ix σ).length=ix.length:=by unfold uJ;rw[List.length_map]
section
variable {X:Cx}{scope:Scope}{N':List Str}{ix:List (Option Nat)}{s₂ s₄:Shared}{H₂:Hp}{fp:List Addr}{pins:List (Addr×Obj)}{σ:St}{C D:Addr}{h₄:Heap}
theorem WI (I:Inv X pins σ H₂ s₂)(hf:freeOk scope X.env.scope=true)(hk:scope.kind=.function)(hx:Bp X.N N' ix scope=true)(GW:∀b ∈ fp,nW X pins H₂ b)(Mz:∀b ∈ fp,∃o,s₂.heap.get? b=some o)
  (hD:s₂.heap.objs.size<=D) (hC:s₂.heap.objs.size<=C) (UP:D≠C) (hn:h₄.Ns C (λ_=>none)) (kp:∀b o,s₂.heap.get? b=some o->h₄.get? b=some o)
  (hl:h₄.get? D=some {cls:=.type "list",data:=.seq ([]:List Value).toArray 0}) (t':Nat):
  Inv (QI X scope C N' s₂ H₂ fp) [] (uJ ix σ) (upd H₂ D (.lst [])) {s₂ with heap:=h₄,toks:=t'}:=by
 have WJ:H₂ D=none:=I.bf.fresh hD
 have QJ:H₂ C=none:=I.bf.fresh hC
 have bf:lP X.prog X.w (upd H₂ D (.lst [])) h₄:=I.bf.laid kp hD ⟨Nat.zero_le _,[],0,.nil,hl⟩
 refine⟨My I hf hk hC GW Mz,rfl,I.bare,Un.laid kp hD WJ,⟨_,hn,λi x v e1 e2 e3=>?_⟩,λx c e=>?_,?_,λx c e=>?_,λp hp=>absurd (show p ∈ ([]:List (Addr×Obj)) from hp) (by simp),bf,?_⟩
 ·have qi:=hx
  unfold Bp at qi
  rw[Bool.and_eq_true] at qi
  have hlen:N'.length=ix.length:=by simpa using qi.1
  have hi:i < N'.length:=(List.getElem?_eq_some_iff.mp e1).1
  unfold uJ at e2
  rw[List.getElem?_map] at e2
  cases q:ix[i]? with
  | none=>rw[q] at e2;cases e2
  | some o=>
   rw[q] at e2
   cases o with
   | none=>cases e2
   | some j=>
    have hz:(x,some j) ∈ N'.zip ix:=by
     refine List.mem_of_getElem? (i:=i) ?_
     rw[List.getElem?_zip_eq_some]
     exact⟨e1,q⟩
    have QK:=List.all_eq_true.mp qi.2 _ hz
    simp only[Bool.and_eq_true,beq_iff_eq] at QK
    obtain⟨hNj,MA⟩:=QK
    have UQ:(σ[j]?).join=some v:=by simpa using e2
    have e4:σ[j]?=some (some v):=by
     cases z:σ[j]? with
     | none=>rw[z] at UQ;cases UQ
     | some y=>rw[z] at UQ;exact congrArg some UQ
    have vO:(x,NameKind.free) ∈ scope.names:=PySem.mem_of_lookup MA
    have zz:=(freeOk.at hf vO).2.1 rfl
    obtain⟨m,hnm,hv⟩:=I.loc
    obtain⟨u,ru,lk⟩:=hv j x v hNj e4 (by rcases zz with z | z;exact .inr (.inl z);exact .inr (.inr z))
    refine⟨u,ru,.inr ⟨?_,?_⟩⟩
    ·rcases e3 with z | z | z
     ·obtain⟨k',m',q'⟩:=eL (scope:=scope) (env:=X.env) (show(relabel scope X.env).names.lookup x=some .local from z)
      rcases q' with q' | ⟨q',_⟩
      ·subst q'
       have:=(freeOk.at hf m').2.2.1 rfl
       rw[MA] at this;cases this
      ·cases q'
     ·exact .inl z
     ·exact .inr z
    ·rcases lk with⟨l1,_⟩ | ⟨_,c,l2,l3⟩
     ·have l1:X.env.scope.names.lookup x=some .local:=l1
      rcases zz with z | z
      ·rw[l1] at z;cases z
      ·rw[l1] at z;cases z
     ·obtain⟨c',e5⟩:=e9 (qH (env:=X.env) (cs:=[]) vO)
      have e6:=(lx I hf e5).1
      rw[l2] at e6
      have e7:c=c':=Option.some.inj e6
      subst e7
      exact⟨c,e5,l3.keeps kp⟩
 ·obtain⟨v,z⟩:=I.cell x c (lx I hf e).1
  exact⟨v,z.keeps kp⟩
 ·show upd H₂ D (.lst []) C=none
  rw[ay (Ne.symm UP)]
  exact QJ
 ·show upd H₂ D (.lst []) c=none
  have e':=(lx I hf e).1
  obtain⟨v,z⟩:=I.cell x c e'
  have:c≠D:=Nat.ne_of_lt (Nat.lt_of_lt_of_le z.lt hD)
  rw[ay this]
  exact I.j8 x c e'
 ·rw[Ig]
  have qi:=hx
  unfold Bp at qi
  rw[Bool.and_eq_true] at qi
  have:N'.length=ix.length:=by simpa using qi.1
  exact this.symm
end
def lU (ix:List (Option Nat))(J:It)(g:TG)(tt:TT)(te:TE)(σ:St)(H1:Hp)(Q:VK)(D:Addr):Prop:=
 ∃W:Nat->Nat->Hp->Prop,(∃m,W 0 m (upd H1 D (.lst [])))/\∀i m H,W i m H->
  (J.stop i H/\Q (.ref D) H)\/(J.go i H/\∃N:Hp->Prop,(∀H',N H'->∃m',m' < m/\W (i + 1) m' H')/\∀x H',J.Hx i H x H'->g x (uJ ix σ) H' λσ2 H2=>Ext (uJ ix σ) σ2/\tt σ2 H2 λb H3=>
   if b=true then te σ2 H3 λy H4=>∃ys,H4 D=some (.lst ys)/\ys.length < sizeLine/\N (upd H4 D (.lst (ys++[y]))) else N H3)
def QL (ix:List (Option Nat))(wi:TI)(g:TG)(tt:TT)(te:TE):TE:=λσ H Q=>wi σ H λJ H1=>∀D,H1 D=none->lU ix J g tt te σ H1 Q D
abbrev sj (X:Cx)(scope:Scope)(N':List Str)(F:Cx->Prop):Prop:=∀(C:Addr) (s₂:Shared) (H₂:Hp) (fp:List Addr),F (QI X scope C N' s₂ H₂ fp)
section
variable {X:Cx}{elt target iter:Expr}{ifs:List Expr}{scope:Scope}{pos:Pos}{N':List Str}{ix:List (Option Nat)}{wi:TI}{g:TG}{tt:TT}{te:TE}
theorem vP {s₂:Shared}{it:Addr}{fp:List Addr}{tn:Nat->Heap->Prop}{J:It}{QD:Addr->Hp->Prop}{RR:Value->Addr->Result->Shared->Prop}{E:Value->Shared->Prop}
  (Ih:X.calm=true) (hf:freeOk scope X.env.scope=true) (hk:scope.kind=.function) (hx:Bp X.N N' ix scope=true)
  (hg:sj X scope N' λY=>PG Y target g) (ht:sj X scope N' λY=>OF Y ifs tt) (he:sj X scope N' λY=>PE Y elt te)
  (I:Inv X pins σ H₂ s₂) (T:Turn X.prog X.w X.K target J fp it tn) (st:tn 0 s₂.heap) (GW:∀b ∈ fp,nW X pins H₂ b)
  (hw:∀D,H₂ D=none->∃W:Nat->Nat->Hp->Prop,(∃m,W 0 m (upd H₂ D (.lst [])))/\∀i m H,W i m H->
   (J.stop i H/\QD D H)\/(J.go i H/\∃N:Hp->Prop,(∀H',N H'->∃m',m' < m/\W (i + 1) m' H')/\∀x H',J.Hx i H x H'->g x (uJ ix σ) H' λσ2 H2=>Ext (uJ ix σ) σ2/\tt σ2 H2 λb H3=>
    if b=true then te σ2 H3 λy H4=>∃ys,H4 D=some (.lst ys)/\ys.length < sizeLine/\N (upd H4 D (.lst (ys++[y]))) else N H3))
  (hRR:∀(D C:Addr) (s':Shared) (H':Hp) (m:Str->Option Value),s₂.heap.objs.size<=C->H' C=none->C ∉ AX X.stack->s'.heap.Ns C m->(∃o,s'.heap.get? C=some o/\∀v,o.data≠.cell v)->Inv X pins σ H' s'->QD D H'->RR (.ref D) C (.ok .next) s'):
  wpAny (model X.prog X.w) X.A (newList []) (λacc s₃=>wpAny (model X.prog X.w) X.A (newFunctionEnv scope X.env.globals (lT X.env scope.names []) [] X.env.qual none .none (some X.env)) (λQM s₄=>
   codeAny (model X.prog X.w) X.A (.compStart (.ListComp elt [⟨target,iter,ifs,0⟩] scope pos) 0 (.ref it) acc {QM with scope:=relabel scope X.env}) (RR acc QM.locals) s₄) E s₃) E s₂:=by
 refine wpAny_newObj_type (wpAny_newFunctionEnv (λx hx=>(freeOk.at hf hx).1) (by intro y hy;simp at hy) (λh₁ MB Ii=>?_) hk)
 dsimp only at MB Ii ⊢
 generalize WK:s₂.heap.push {cls:=.type "list",dict:=none,data:=.seq ([]:List Value).toArray}=P2 at MB Ii ⊢
 have hCs:P2.objs.size=s₂.heap.objs.size + 1:=by rw[<-WK,Heap.size_push]
 have UP:s₂.heap.objs.size≠P2.objs.size:=by rw[hCs];exact Nat.ne_of_lt (Nat.lt_succ_self _)
 have yj:s₂.heap.objs.size<=P2.objs.size:=by rw[hCs];exact Nat.le_succ _
 have old:∀b o,s₂.heap.get? b=some o->h₁.get? b=some o:=λb o e=>Ii.extBut b o (Nat.ne_of_lt (Nat.lt_of_lt_of_le (Heap.lt_size e) yj)) (Heap.get?_push_of_some _ (WK ▸ Heap.get?_push_of_some _ e))
 have WL:h₁.get? s₂.heap.objs.size=some {cls:=.type "list",data:=.seq ([]:List Value).toArray 0}:=Ii.extBut _ _ UP (Heap.get?_push_of_some _ (WK ▸ Heap.get?_push_size _ rfl))
 have Mz:∀b ∈ fp,∃o,s₂.heap.get? b=some o:=λb hb=>let ⟨o,e,_⟩:=T.obj _ _ st b hb;⟨o,e⟩
 have WM:s₂.heap.get? P2.objs.size=none:=Heap.get?_none_of_le yj
 have WJ:H₂ s₂.heap.objs.size=none:=I.bf.fresh (Nat.le_refl _)
 obtain⟨W,⟨m0,w0⟩,turn⟩:=hw s₂.heap.objs.size WJ
 have fpD:∀b ∈ fp,b≠s₂.heap.objs.size:=λb hb=>let ⟨o,e⟩:=Mz b hb;Nat.ne_of_lt (Heap.lt_size e)
 have fpC:∀b ∈ fp,b≠P2.objs.size:=λb hb=>let ⟨o,e⟩:=Mz b hb;Nat.ne_of_lt (Nat.lt_of_lt_of_le (Heap.lt_size e) yj)
 let Y:=QI X scope P2.objs.size N' s₂ H₂ fp
 have hcY:Y.calm=true:=Ih
 have I0:Inv Y [] (uJ ix σ) (upd H₂ s₂.heap.objs.size (.lst [])) {s₂ with heap:=h₁,toks:=s₂.toks + ([]:List (Str×Value)).length}:=
  WI I hf hk hx GW Mz (Nat.le_refl _) yj UP (by simpa using MB) old WL _
 have LL:P2.objs.size ∉ AX X.stack:=λz=>by
  rcases List.mem_cons.mp (I.uq _ z) with e | e
  ·exact absurd I.lt (by rw[<-e];exact Nat.not_lt.mpr yj)
  ·exact I.LM yj e
 have xS:∀{H':Hp},(∀b ∈ fp,H' b=none)->∀b ∈ fp,nW Y [] H' b:=λhn b hb=>by
  obtain⟨f0,f1,f2,f3,f4,f5⟩:=GW b hb
  refine⟨hn b hb,fpC b hb,I0.ok.AY b hb,.inl hb,(I0.ok.UA b hb).2,λp hp=>absurd (show p ∈ ([]:List (Addr×Obj)) from hp) (by simp)⟩
 have QN:tn 0 h₁:=T.keep _ _ _ st λb _ o e=>old b o e
 have loop:∀s₃:Shared,s₃={s₂ with heap:=h₁,toks:=s₂.toks + ([]:List (Str×Value)).length}->
   codeAny (model X.prog X.w) X.A (.compLoop (.ListComp elt [⟨target,iter,ifs,0⟩] scope pos) 0 (.ref it) (.ref s₂.heap.objs.size) (compEnvC scope (lT X.env scope.names []) P2.objs.size X.env))
    (RR (.ref s₂.heap.objs.size) P2.objs.size) s₃:=by
  rintro s₃ rfl
  refine uH (λn s'=>∃i H',Inv Y [] (uJ ix σ) H' s'/\tn i s'.heap/\(∀b ∈ fp,H' b=none)/\W i n H') ?_ m0 ⟨0,_,I0,QN,λb hb=>by rw[ay (fpD b hb)];exact(GW b hb).1,w0⟩
  rintro n s3 ⟨i,H3,I3,nO,Qd,w3⟩
  rcases turn i n H3 w3 with⟨stop,qn⟩ | ⟨go,Nn,hNn,step⟩
  ·refine dq (T.done Y rfl rfl rfl hcY i [] s3 _ H3 _ I3 (xS Qd) nO stop) λr s4 ⟨hr,I4⟩=>?_
   subst hr
   obtain⟨m,hn,_⟩:=I4.loc
   refine hRR _ _ s4 H3 m yj I4.free LL hn ?_ ?_ qn
   ·obtain⟨o,es,ep,ho,hd,_⟩:=hn
    exact⟨o,ho,λv z=>by rw[hd] at z;cases z⟩
   ·refine I.Qb (s':=s4) (ch:=fp) I4.os ?_ I4.bf I4.bare λb hb=>?_
    ·exact I4.base
    ·obtain⟨f0,f1,f2,f3,f4,f5⟩:=GW b hb
     exact⟨f3,f1,f4,f5⟩
  ·refine dq (T.item Y rfl rfl rfl hcY i [] s3 _ H3 _ I3 (xS Qd) nO go) λr s4 ⟨u,hr,h4⟩=>?_
   subst hr
   refine dq h4 λ_ s5 ⟨x,H5,I5,r5,y5,lI,Wf⟩=>?_
   have Wg:=I5.pinned (xS Wf) (T.obj _ _ lI)
   refine dq (hg _ _ _ _ _ s5 _ H5 x u _ Wg r5 (step x H5 y5)) λ_ s6 ⟨σ6,H6,I6,ext,q6⟩=>?_
   refine dq (ht _ _ _ _ _ s6 σ6 H6 _ I6 q6) λok s7 ⟨H7,I7,q7⟩=>?_
   have again:∀{s8:Shared} {H8:Hp} {m':Nat},Inv Y ([]++nX fp s5.heap) σ6 H8 s8->m' < n->W (i + 1) m' H8->∃m,m < n/\∃i H',Inv Y [] (uJ ix σ) H' s8/\tn i s8.heap/\(∀b ∈ fp,H' b=none)/\W i m H':=λ{s8 H8 m'} I8 hm w8=>by
    refine⟨m',hm,i + 1,H8,(I8.ke).less ext.1.symm ext.2,T.keep _ _ _ lI λb hb o e=>(I8.pin (b,o) (List.mem_append_right _ (List.mem_append_right _ (jG hb e)))).1,λb hb=>?_,w8⟩
    obtain⟨o,e,d⟩:=T.obj _ _ lI b hb
    exact(I8.pin (b,o) (List.mem_append_right _ (List.mem_append_right _ (jG hb e)))).2.1
   cases ok with
   | false=>
    rw[if_neg Bool.false_ne_true] at q7 ⊢
    obtain⟨m',hm,w8⟩:=hNn _ q7
    exact again I7 hm w8
   | true=>
    rw[if_pos rfl] at q7 ⊢
    refine dq (he _ _ _ _ _ s7 σ6 H7 _ I7 q7) λy s8 ⟨yv,H8,I8,ry,ys,hD,hz,w9⟩=>?_
    have ap:=(tD (X:=Y)) (pins:=[]++nX fp s5.heap) s8 σ6 H8 (.ref s₂.heap.objs.size) [yv] (.ref s₂.heap.objs.size) [y] (λ_ H9=>Nn H9) I8 rfl (.cons ry .nil)
     ⟨_,ys,yv,rfl,rfl,hD,hz,w9⟩
    exact dq ap λ_ s9 ⟨_,H9,I9,_,OG⟩=>let ⟨m',hm,w11⟩:=hNn _ OG;again I9 hm w11
 exact codeAny_compStart_list (loop _ rfl) (T.self _ 0 _ _ _ QN (loop _ rfl))
theorem Inv.WN{s s₂:Shared}{C:Addr}{h':Heap}(I₂:Inv X pins σ H₂ s₂)(I:Inv X pins σ H s)(UR:s₂.heap.objs.size<=C)(hC:H C=none)(hs:Heap.SameBut C s.heap h'):Inv X pins σ H {s with heap:=h'}:=by
 refine I.turned (t':=s.toks) (λb o hb e=>(hs.2 b hb).trans e) hC (Nat.ne_of_gt (Nat.lt_of_lt_of_le I₂.lt UR)) (.inr (Nat.le_trans I₂.sz UR)) (λx c e z=>?_) λp hp z=>?_
 ·obtain⟨v,q⟩:=I₂.cell x c e
  exact absurd (Nat.lt_of_lt_of_le q.lt (by rw[z];exact UR)) (Nat.lt_irrefl _)
 ·exact absurd (Nat.lt_of_lt_of_le (Heap.lt_size (I₂.pin p hp).1) (by rw[z];exact UR)) (Nat.lt_irrefl _)
theorem cW
  (hi:PI X target iter wi) (hg:sj X scope N' λY=>PG Y target g) (ht:sj X scope N' λY=>OF Y ifs tt) (he:sj X scope N' λY=>PE Y elt te)
  (Ih:X.calm=true:=by rfl) (hf:freeOk scope X.env.scope=true:=by kernel_rfl) (hk:scope.kind=.function:=by rfl) (hx:Bp X.N N' ix scope=true:=by kernel_rfl) (hs:∀x,foldedSetIterable iter X.env x=pure x:=by intro _;rfl):PE X (.ListComp elt [⟨target,iter,ifs,0⟩] scope pos) (QL ix wi g tt te):=by
 walk_at "xc"
 rw[eval_ListComp]
 have QO:∀x ∈ scope.names,x.2=.free->∃c,X.env.cells.lookup x.1=some c:=λx hx he=>I.ok.has x.1 ((freeOk.at hf hx).2.1 he)
 refine wpAny_comprehension_free (use:=none) rfl hs (lL QO) hk (λx hx he=>(freeOk.at hf hx).2.2.1 he) (wpAny_mono (hi pins s σ H _ I h) (λxv s₁ h₁=>wpAny_mono h₁ (λUG s₂ h₂=>?_) λ_ _ e=>e) λ_ _ e=>e)
 obtain⟨it,fp,tn,J,H2,e,I2,T,zp,f2,hw⟩:=h₂
 subst e
 refine vP (RR:=λacc C=>compPost (model X.prog X.w) X.A X.xe none (EP X pins σ Q) acc C) (QD:=λD H'=>Q (.ref D) H') Ih hf hk hx hg ht he I2 T zp f2 hw ?_
 intro D C s' H' m hC QJ MA hn ho I' q
 exact⟨m,hn,λh' QP=>⟨.ref D,H',I2.WN I' hC QJ QP,rfl,q⟩⟩
theorem fC {i:Nat}{y:Str}{py QQ:Pos}(hN:X.N.Nodup)(hiN:X.N[i]?=some y)(hy:Loc X.env.scope y)
  (hi:PI X target iter wi) (hg:sj X scope N' λY=>PG Y target g) (ht:sj X scope N' λY=>OF Y ifs tt) (he:sj X scope N' λY=>PE Y elt te)
  (hsw:swapsWith (.ListComp elt [⟨target,iter,ifs,0⟩] scope pos) (some (.Name y py)) QQ.line X.env=pure true:=by rfl)
  (Ih:X.calm=true:=by rfl) (hf:freeOk scope X.env.scope=true:=by kernel_rfl) (hk:scope.kind=.function:=by rfl) (hx:Bp X.N N' ix scope=true:=by kernel_rfl) (hs:∀x,foldedSetIterable iter X.env x=pure x:=by intro _;rfl) (Qa:X.fn y=true\/X.env.scope.names.lookup y=some .local:=by first | exact .inl rfl | exact .inr rfl | assumption):
  PS X (.Assign [.Name y py] (.ListComp elt [⟨target,iter,ifs,0⟩] scope pos) QQ) (A9 (QL ix wi g tt te) (gR i)):=by
 walk_at "xd"
 rw[exec_Assign_Name_used _ _ _ _ hsw]
 refine wpAny_bind (wpAny_standAt (wpAny_bind ?_))
 show wpAny _ X.A (do let _ <-comprehension (.ListComp elt [⟨target,iter,ifs,0⟩] scope pos) scope X.env _ (newList []) false (eval iter X.env) (some (assign (.Name y py) X.env))) _ _ s
 have QO:∀x ∈ scope.names,x.2=.free->∃c,X.env.cells.lookup x.1=some c:=λx hx he=>I.ok.has x.1 ((freeOk.at hf hx).2.1 he)
 refine wpAny_bind (wpAny_mono (wpAny_comprehension_free (use:=some (assign (.Name y py) X.env)) (Q:=λ_ s'=>SP X pins D .next s') rfl hs (lL QO) hk (λx hx he=>(freeOk.at hf hx).2.2.1 he)
  (wpAny_mono (hi pins s σ H _ I h) (λxv s₁ h₁=>wpAny_mono h₁ (λUG s₂ h₂=>?_) λ_ _ e=>e) λ_ _ e=>e)) (λ_ s' hq=>wpAny_pure (wpAny_pure hq)) λ_ _ e=>e)
 obtain⟨it,fp,tn,J,H2,e,I2,T,zp,f2,hw⟩:=h₂
 subst e
 refine vP (RR:=λacc C=>compPost (model X.prog X.w) X.A X.xe (some (assign (.Name y py) X.env)) (λ_ s'=>SP X pins D .next s') acc C) (QD:=λD' H'=>D.nx (σ.set i (some (.ref D'))) H') Ih hf hk hx hg ht he I2 T zp f2 hw ?_
 intro D' C s' H' m hC QJ MA hn ho I' q
 obtain⟨o,ho,UC⟩:=ho
 show wpAny _ X.A (assign (.Name y py) X.env (.ref D')) _ _ s'
 have hCL:C≠X.env.locals:=Nat.ne_of_gt (Nat.lt_of_lt_of_le I2.lt hC)
 have hCf:C ∉ X.fs:=I2.LM hC
 have I'':Inv X (pins++[(C,o)]) σ H' s':=I'.ur λp hp=>(List.mem_append.mp hp).elim (λz=>I'.pin p (List.mem_append_right _ z)) λz=>by
  have z':p=(C,o):=by simpa using z
  subst z'
  exact⟨ho,QJ,hCL,hCf,UC⟩
 refine wpAny_assign_Name (mY I'' hN hiN hy (v:=.ref D') rfl (λs3 I3=>?_) Qa)
 obtain⟨e3,n3,_⟩:=I3.pin (C,o) (List.mem_append_right _ (List.mem_append_right _ (by simp)))
 obtain⟨o',es,ep,mW,r'⟩:=hn
 rw[ho] at mW;cases mW
 have I3':Inv X pins (σ.set i (some (.ref D'))) H' s3:=I3.ke
 refine⟨m,⟨o,es,ep,e3,r'⟩,λh' QP=>⟨_,H',?_,q⟩⟩
 refine I3'.turned (t':=s3.toks) (λb o hb e=>(QP.2 b hb).trans e) n3 hCL (.inr (Nat.le_trans I2.sz hC)) (λx c e z=>?_) λp hp z=>?_
 ·obtain⟨v,q⟩:=I2.cell x c e
  exact absurd (Nat.lt_of_lt_of_le q.lt (by rw[z];exact hC)) (Nat.lt_irrefl _)
 ·exact absurd (Nat.lt_of_lt_of_le (Heap.lt_size (I2.pin p hp).1) (by rw[z];exact hC)) (Nat.lt_irrefl _)
end
def US (Pv:Nat->List V->Hp->Prop)(D:Addr)(i:Nat)(H:Hp):Prop:=∃zs,H D=some (.lst zs)/\zs.length<=i + 1/\Pv (i + 1) zs H
theorem bP {Pv:Nat->List V->Hp->Prop}{D:Addr}{i n:Nat}{ys:List V}{y:V}(hD:H D=some (.lst ys))(hl:ys.length<=i)(hi:i < n)(hn:n<=sizeLine)(h:Pv (i + 1) (ys++[y]) (upd H D (.lst (ys++[y])))):
  ∃zs,H D=some (.lst zs)/\zs.length < sizeLine/\US Pv D i (upd H D (.lst (zs++[y]))):=
 ⟨ys,hD,by omega,ys++[y],af,by rw[List.length_append,List.length_singleton];omega,h⟩
theorem aZ {ix:List (Option Nat)}{J:It}{n:Nat}{g:TG}{tt:TT}{te:TE}{H1:Hp}{Q:VK}{D:Addr}(Pv:Nat->List V->Hp->Prop)(hn:n<=sizeLine)(h0:Pv 0 [] (upd H1 D (.lst [])))
  (iK:∀i ys H,i < n->Pv i ys H->J.go i H) (QR:∀ys H,Pv n ys H->J.stop n H)
  (hs:∀i ys H,i < n->H D=some (.lst ys)->ys.length<=i->Pv i ys H->∀x H',J.Hx i H x H'->g x (uJ ix σ) H' λσ2 H2=>Ext (uJ ix σ) σ2/\tt σ2 H2 λb H3=>
   if b=true then te σ2 H3 λy H4=>∃zs,H4 D=some (.lst zs)/\zs.length < sizeLine/\US Pv D i (upd H4 D (.lst (zs++[y]))) else US Pv D i H3)
  (hd:∀ys H,H D=some (.lst ys)->ys.length<=n->Pv n ys H->Q (.ref D) H):
  lU ix J g tt te σ H1 Q D:=by
 refine⟨λi m H=>m=n - i/\i<=n/\∃ys,H D=some (.lst ys)/\ys.length<=i/\Pv i ys H,⟨n,by simp,Nat.zero_le _,[],af,Nat.le_refl _,h0⟩,?_⟩
 rintro i m H ⟨rfl,hi,ys,hD,hl,p⟩
 by_cases kf:i < n
 ·exact .inr ⟨iK i ys H kf p,US Pv D i,λH' ⟨zs,a,b,c⟩=>⟨n - (i + 1),by omega,rfl,kf,zs,a,b,c⟩,λx H' y=>hs i ys H kf hD hl p x H' y⟩
 ·have e:i=n:=by omega
  subst e
  exact .inl ⟨QR ys H p,hd ys H hD hl p⟩
end
section
section
variable {X:Cx}
def Dw (i j:Int):Prop:=0 < j/\j.natAbs.log2 < 9000
theorem Dx:gA X (binaryOp .FloorDiv) (rI Dw λi j=>.int (i / j)):=UH λi j _ _ _ _ _ hc q=>by
 have h1:(0:Int) < j:=hc.1
 exact floordiv_int (by omega) (by rw[Int.fdiv_eq_ediv_of_nonneg i (by omega)];exact q) (.inl (PyProof.noPylong_of_log2 hc.2))
def MC:R2:=λx y H Q=>match x,y with
 | .int i,.int j=>Q (.int (i + j)) H
 | .str i,.str j=>i.length + j.length<=sizeLine/\Q (.str (i++j)) H
 | .ref a,.ref b=>∃xs zs,H a=some (.lst xs)/\H b=some (.lst zs)/\xs.length + zs.length<=sizeLine/\∀p,H p=none->Q (.ref p) (upd H p (.lst (xs++zs)))
 | _,_=>False
def uI (C:Int->Int->Prop)(g:Int->Int->V):R2:=λx y H Q=>match x,y with
 | .int i,.int j=>C i j/\Q (g i j) H
 | _,_=>False
def ME (g:Int->Int->V):R2:=λx y H Q=>match x,y with
 | .int i,.int j=>Q (g i j) H
 | _,_=>False
theorem UT {f:Value->Value->Sem Value}{C:Int->Int->Prop}{g:Int->Int->V}(h:gA X f (rI C g)):gA X f (uI C g):=by
 intro pins s σ H x y v u Q I rx ry q
 cases x <;> cases y <;> first
  | exact(show False from q).elim
  | exact h pins s σ H _ _ v u Q I rx ry ⟨_,_,rfl,rfl,q.1,q.2⟩
theorem Dy {f:Value->Value->Sem Value}{g:Int->Int->V}(h:gA X f (HB g)):gA X f (ME g):=by
 intro pins s σ H x y v u Q I rx ry q
 cases x <;> cases y <;> first
  | exact(show False from q).elim
  | exact h pins s σ H _ _ v u Q I rx ry ⟨_,_,rfl,rfl,q⟩
theorem eX:gA X (binaryOp .Sub) (ME λi j=>.int (i - j)):=Dy L6
theorem ly:gA X (binaryOp .Mult) (uI CW λi j=>.int (i * j)):=UT L7
theorem dj:gA X (binaryOp .Mod) (uI (λ_ j=>0 < j) λi j=>.int (i % j)):=UT L8
theorem gC:gA X (binaryOp .FloorDiv) (uI Dw λi j=>.int (i / j)):=UT Dx
theorem qj:gA X (binaryOp .Pow) (uI HE λi j=>.int (i ^ j.toNat)):=UT L9
theorem gJ:gA X (compareOp .Lt) (ME λi j=>.bl (decide (i < j))):=Dy Qh
theorem yk:gA X (compareOp .LtE) (ME λi j=>.bl (decide (i<=j))):=Dy Qi
theorem lV:gA X (compareOp .Gt) (ME λi j=>.bl (decide (j < i))):=Dy Qj
theorem MG:gA X (compareOp .GtE) (ME λi j=>.bl (decide (j<=i))):=Dy Qk
def km (K:W.Frag)(H:Hp):Nat->V->V->Prop
 | 0,_,_=>False
 | n + 1,x,y=>(x=y/\fS x=true)\/∃a b xs ys,x=.ref a/\y=.ref b/\((bJ K H a xs/\bJ K H b ys)\/(aP K H a xs/\aP K H b ys))/\xs.length=ys.length/\∀(i:Nat) u v,xs[i]?=some u->ys[i]?=some v->km K H n u v
theorem in1_units (A:Around):A.in1.units=A.units + 1:=rfl
theorem m9 {pins:List (Addr×Obj)}{σ:St}{H:Hp}{s:Shared}(I:Inv X pins σ H s):∀(n:Nat) (A:Around) {x y:V} {u v:Value},km X.K H n x y->A.units + n < cLine->RelV x u->RelV y v->SeqAt.EqAt A s u v true
 | 0,_,_,_,_,_,h,_,_,_=>h.elim
 | n + 1,A,x,y,u,v,h,hu,rx,ry=>by
  rcases h with⟨e,f⟩ | ⟨a,b,xs,ys,ex,ey,hq,hl,hi⟩
  ·subst e
   have q:=ye (A:=A) (s:=s) rx ry f f
   have e2:Cf x x=true:=by cases x <;> first | rfl | exact absurd (show false=true from f) Bool.false_ne_true | simp[Cf]
   rw[e2] at q
   exact q
  ·subst ex ey
   cases rx
   cases ry
   by_cases WO:a=b
   ·subst WO;exact SeqAt.EqAt.same _
   rcases hq with⟨h1,h2⟩ | ⟨h1,h2⟩
   ·obtain⟨aO,r1,p1,z1⟩:=I.tuple h1
    obtain⟨cj,r2,p2,z2⟩:=I.tuple h2
    have l1:=r1.length
    have l2:=r2.length
    have sz:aO.toArray.size=cj.toArray.size:=by simp;omega
    have key:=SeqAt.RcAt.tuples (A:=A) (e:=λ_=>true) (show s.heap.IsTuple a aO.toArray from p1) (show s.heap.IsTuple b cj.toArray from p2) (by omega) λj Bq xF=>by
     have pQ:j < aO.length:=by simpa using Bq
     have pR:j < cj.length:=by simpa using xF
     obtain⟨u',e1,ru⟩:=r1.get (i:=j) (x:=xs[j]'(by omega)) (by simp)
     obtain⟨v',e2,rv⟩:=r2.get (i:=j) (x:=ys[j]'(by omega)) (by simp)
     have f1:aO.toArray[j]=u':=by
      have:=cA pQ
      rw[this] at e1
      simpa using Option.some.inj e1
     have f2:cj.toArray[j]=v':=by
      have:=cA pR
      rw[this] at e2
      simpa using Option.some.inj e2
     rw[f1,f2]
     exact m9 I n A.in1 (hi j _ _ (by simp) (by simp)) (by rw[in1_units];omega) ru rv
    have MH:SeqAt.RcAt A s (.ref a) (.ref b) true:=by
     have:((List.range (min aO.toArray.size cj.toArray.size)).all (λ_=>true) && aO.toArray.size == cj.toArray.size)=true:=by
      rw[sz];simp
     rw[this] at key
     exact key
    exact SeqAt.EqAt.of_refs WO MH
   ·obtain⟨aO,r1,p1,z1⟩:=I.list h1
    obtain⟨cj,r2,p2,z2⟩:=I.list h2
    have l1:=r1.length
    have l2:=r2.length
    have sz:aO.toArray.size=cj.toArray.size:=by simp;omega
    have key:=SeqAt.RcAt.lists (A:=A) (e:=λ_=>true) p1.isList p2.isList sz (by omega) λj Bq xF=>by
     have pQ:j < aO.length:=by simpa using Bq
     have pR:j < cj.length:=by simpa using xF
     obtain⟨u',e1,ru⟩:=r1.get (i:=j) (x:=xs[j]'(by omega)) (by simp)
     obtain⟨v',e2,rv⟩:=r2.get (i:=j) (x:=ys[j]'(by omega)) (by simp)
     have f1:aO.toArray[j]=u':=by
      have:=cA pQ
      rw[this] at e1
      simpa using Option.some.inj e1
     have f2:cj.toArray[j]=v':=by
      have:=cA pR
      rw[this] at e2
      simpa using Option.some.inj e2
     rw[f1,f2]
     exact m9 I n A.in1 (hi j _ _ (by simp) (by simp)) (by rw[in1_units];omega) ru rv
    have MH:SeqAt.RcAt A s (.ref a) (.ref b) true:=by
     have:((List.range aO.toArray.size).all (λ_=>true))=true:=by simp
     rw[this] at key
     exact key
    exact SeqAt.EqAt.of_refs WO MH
end
end
section
variable {pins:List (Addr×Obj)}{σ:St}
section
variable {X:Cx}
theorem Dz {H:Hp}{s:Shared}(I:Inv X pins σ H s){A:Around}{n:Nat}{a b:Addr}(h:km X.K H (n + 1) (.ref a) (.ref b))(hu:A.units + n + 1 < cLine):
  SeqAt.RcAt A s (.ref a) (.ref b) true/\SeqAt.RcNeAt A s (.ref a) (.ref b) false:=by
 rcases h with⟨e,f⟩ | ⟨a',b',xs,ys,ex,ey,hq,hl,hi⟩
 ·exact absurd (show false=true from f) Bool.false_ne_true
 ·cases ex
  cases ey
  rcases hq with⟨h1,h2⟩ | ⟨h1,h2⟩
  ·obtain⟨aO,r1,p1,z1⟩:=I.tuple h1
   obtain⟨cj,r2,p2,z2⟩:=I.tuple h2
   have l1:=r1.length
   have l2:=r2.length
   have sz:aO.toArray.size=cj.toArray.size:=by simp;omega
   have items:∀j (h1:j < aO.toArray.size) (h2:j < cj.toArray.size),SeqAt.EqAt A.in1 s aO.toArray[j] cj.toArray[j] ((λ_=>true) j):=λj Bq xF=>by
    have pQ:j < aO.length:=by simpa using Bq
    have pR:j < cj.length:=by simpa using xF
    obtain⟨u',e1,ru⟩:=r1.get (i:=j) (x:=xs[j]'(by omega)) (by simp)
    obtain⟨v',e2,rv⟩:=r2.get (i:=j) (x:=ys[j]'(by omega)) (by simp)
    have f1:aO.toArray[j]=u':=by
     have:=cA pQ
     rw[this] at e1
     simpa using Option.some.inj e1
    have f2:cj.toArray[j]=v':=by
     have:=cA pR
     rw[this] at e2
     simpa using Option.some.inj e2
    rw[f1,f2]
    exact m9 I n A.in1 (hi j _ _ (by simp) (by simp)) (by rw[in1_units];omega) ru rv
   have e:((List.range (min aO.toArray.size cj.toArray.size)).all (λ_=>true) && aO.toArray.size == cj.toArray.size)=true:=by
    rw[sz];simp
   have k1:=SeqAt.RcAt.tuples (A:=A) (show s.heap.IsTuple a aO.toArray from p1) (show s.heap.IsTuple b cj.toArray from p2) (by omega) items
   have k2:=SeqAt.RcNeAt.tuples (A:=A) (show s.heap.IsTuple a aO.toArray from p1) (show s.heap.IsTuple b cj.toArray from p2) (by omega) items
   rw[e] at k1 k2
   exact⟨k1,k2⟩
  ·obtain⟨aO,r1,p1,z1⟩:=I.list h1
   obtain⟨cj,r2,p2,z2⟩:=I.list h2
   have l1:=r1.length
   have l2:=r2.length
   have sz:aO.toArray.size=cj.toArray.size:=by simp;omega
   have items:∀j (h1:j < aO.toArray.size) (h2:j < cj.toArray.size),SeqAt.EqAt A.in1 s aO.toArray[j] cj.toArray[j] ((λ_=>true) j):=λj Bq xF=>by
    have pQ:j < aO.length:=by simpa using Bq
    have pR:j < cj.length:=by simpa using xF
    obtain⟨u',e1,ru⟩:=r1.get (i:=j) (x:=xs[j]'(by omega)) (by simp)
    obtain⟨v',e2,rv⟩:=r2.get (i:=j) (x:=ys[j]'(by omega)) (by simp)
    have f1:aO.toArray[j]=u':=by
     have:=cA pQ
     rw[this] at e1
     simpa using Option.some.inj e1
    have f2:cj.toArray[j]=v':=by
     have:=cA pR
     rw[this] at e2
     simpa using Option.some.inj e2
    rw[f1,f2]
    exact m9 I n A.in1 (hi j _ _ (by simp) (by simp)) (by rw[in1_units];omega) ru rv
   have e:(List.range aO.toArray.size).all (λ_=>true)=true:=by simp
   have k1:=SeqAt.RcAt.lists (A:=A) p1.isList p2.isList sz (by omega) items
   have k2:=SeqAt.RcNeAt.lists (A:=A) p1.isList p2.isList sz (by omega) items
   rw[e] at k1 k2
   exact⟨k1,k2⟩
def qI (K:W.Frag)(H:Hp)(a b:Addr):Prop:=∃xs ys,xs.length≠ys.length/\((aP K H a xs/\aP K H b ys)\/(bJ K H a xs/\bJ K H b ys/\(xs=[]\/ys=[])))
theorem zM {H:Hp}{s:Shared}(I:Inv X pins σ H s){A:Around}{a b:Addr}(h:qI X.K H a b)(hu:A.units < cLine):
  SeqAt.RcAt A s (.ref a) (.ref b) false/\SeqAt.RcNeAt A s (.ref a) (.ref b) true:=by
 obtain⟨xs,ys,pS,⟨h1,h2⟩ | ⟨h1,h2,h3⟩⟩:=h
 ·obtain⟨aO,r1,p1,z1⟩:=I.list h1
  obtain⟨cj,r2,p2,z2⟩:=I.list h2
  have l1:=r1.length
  have l2:=r2.length
  have hb:(aO.toArray.size != cj.toArray.size)=true:=by simp;omega
  exact⟨SeqAt.RcAt.lists_lengths p1.isList p2.isList hb hu,SeqAt.RcNeAt.lists_lengths p1.isList p2.isList hb hu⟩
 ·obtain⟨aO,r1,p1,z1⟩:=I.tuple h1
  obtain⟨cj,r2,p2,z2⟩:=I.tuple h2
  have l1:=r1.length
  have l2:=r2.length
  have items:∀j (h1:j < aO.toArray.size) (h2:j < cj.toArray.size),SeqAt.EqAt A.in1 s aO.toArray[j] cj.toArray[j] ((λ_=>true) j):=λj Bq xF=>by
   exfalso
   have pQ:j < aO.length:=by simpa using Bq
   have pR:j < cj.length:=by simpa using xF
   rcases h3 with e | e
   ·subst e;simp at l1;omega
   ·subst e;simp at l2;omega
  have e:((List.range (min aO.toArray.size cj.toArray.size)).all (λ_=>true) && aO.toArray.size == cj.toArray.size)=false:=by
   have:aO.toArray.size≠cj.toArray.size:=by simp;omega
   rw[Bool.and_eq_false_iff]
   exact .inr (beq_eq_false_iff_ne.mpr this)
  have k1:=SeqAt.RcAt.tuples (A:=A) (show s.heap.IsTuple a aO.toArray from p1) (show s.heap.IsTuple b cj.toArray from p2) hu items
  have k2:=SeqAt.RcNeAt.tuples (A:=A) (show s.heap.IsTuple a aO.toArray from p1) (show s.heap.IsTuple b cj.toArray from p2) hu items
  rw[e] at k1 k2
  exact⟨k1,k2⟩
def MI (K:W.Frag):R2:=λx y H Q=>match x,y with
 | .ref a,.ref b=>(km K H 20 (.ref a) (.ref b)/\Q (.bl true) H)\/(qI K H a b/\Q (.bl false) H)
 | x,y=>HF x y=true/\Q (.bl (decide (x=y))) H
def OH (K:W.Frag):R2:=λx y H Q=>match x,y with
 | .ref a,.ref b=>(km K H 20 (.ref a) (.ref b)/\Q (.bl false) H)\/(qI K H a b/\Q (.bl true) H)
 | x,y=>HF x y=true/\Q (.bl (!decide (x=y))) H
theorem DB (hu:X.A.units + 64 < cLine):gA X (compareOp .Eq) (MI X.K):=by
  intro pins s σ H x y v u Q I rx ry h
  cases x <;> cases y <;> first
    | exact Qf pins s σ H _ _ v u Q I rx ry h
    | (cases rx;cases ry
       rcases h with⟨h1,q⟩ | ⟨h1,q⟩
       · exact(Dz I (A:=X.A) h1 (by omega)).1 X.prog X.w X.xe _ ⟨.bl true,H,I,rfl,q⟩
       · exact(zM I (A:=X.A) h1 (by omega)).1 X.prog X.w X.xe _ ⟨.bl false,H,I,rfl,q⟩)
theorem MJ (hu:X.A.units + 64 < cLine):gA X (compareOp .NotEq) (OH X.K):=by
  intro pins s σ H x y v u Q I rx ry h
  cases x <;> cases y <;> first
    | exact Qg pins s σ H _ _ v u Q I rx ry h
    | (cases rx;cases ry
       rcases h with⟨h1,q⟩ | ⟨h1,q⟩
       · exact(Dz I (A:=X.A) h1 (by omega)).2 X.prog X.w X.xe _ ⟨.bl false,H,I,rfl,q⟩
       · exact(zM I (A:=X.A) h1 (by omega)).2 X.prog X.w X.xe _ ⟨.bl true,H,I,rfl,q⟩)
def QS (g:Bool->Bool):R2:=λx y H Q=>match x,y with
 | .bl c,.bl d=>Q (.bl (g (c == d))) H
 | x,.bR=>Q (.bl (g (decide (x=.bR)))) H
 | _,_=>False
theorem yl:gA X (compareOp .Is) (QS id):=by
 intro pins s σ H x y v u Q I rx ry h
 cases x <;> cases y <;> first
  | exact(show False from h).elim
  | exact Ma pins s σ H _ _ v u Q I rx ry ⟨rfl,h⟩
  | (cases rx;cases ry;exact is_bool ⟨.bl _,H,I,rfl,h⟩)
theorem tK:gA X (compareOp .IsNot) (QS not):=by
 intro pins s σ H x y v u Q I rx ry h
 cases x <;> cases y <;> first
  | exact(show False from h).elim
  | exact HG pins s σ H _ _ v u Q I rx ry ⟨rfl,h⟩
  | (cases rx;cases ry;exact isnot_bool ⟨.bl _,H,I,rfl,h⟩)
def uIn (K:W.Frag)(neg:Bool):R2:=λx y H Q=>match y with
 | .ref p=>∃xs,(aP K H p xs\/bJ K H p xs)/\fS x=true/\xs.all fS=true/\Q (.bl (if neg then !zF x xs else zF x xs)) H
 | _=>False
theorem DC:gA X (compareOp .In) (uIn X.K false):=by
 intro pins s σ H x y v u Q I rx ry h
 cases y <;> first
  | exact(show False from h).elim
  | (obtain⟨xs,h1,h2,h3,h4⟩:=h;exact Bi pins s σ H _ _ v u Q I rx ry ⟨_,xs,rfl,h1,h2,h3,h4⟩)
def WQ (K:W.Frag):List V->Hp->VK->Prop:=λxs H Q=>match xs with
 | [x,.ty n]=>∃t b,fV K H x t/\W.kitOne K t (.type n)=some b/\Q (.bl b) H
 | _=>False
def MK (K:W.Frag)(tl:TE):TI:=λσ H R=>tl σ H λx H1=>match x with
 | .ref a=>((∃xs,aP K H1 a xs)/\R (qB K a) H1)\/((∃xs,bJ K H1 a xs)/\R (Hy K a) H1)
 | _=>False
theorem bU {tg l:Expr}{tl:TE}(hl:PE X l tl):PI X tg l (MK X.K tl):=by
  refine⟨?_⟩
  intro pins s σ H R I h
  refine dq (hl pins s σ H _ I h) λv s1 ⟨x,H1,I1,r1,q1⟩=>?_
  cases x <;> first
    | exact(show False from q1).elim
    | (rename_i a;cases r1
       rcases q1 with⟨⟨xs,hq⟩,q⟩ | ⟨⟨xs,hq⟩,q⟩
       · obtain⟨aO,rv,p,hz⟩:=I1.list hq
         refine wpAny_pyIter_list p.isList ?_
         refine⟨s1.heap.objs.size,[s1.heap.objs.size],_,_,H1,rfl,I1.kept (t':=s1.toks) λb o e=>Heap.get?_push_of_some _ e,Ba a _,⟨_,Heap.get?_push_size _ rfl,rfl,rfl⟩,λb hb=>?_,q⟩
         have e:b=s1.heap.objs.size:=by simpa using hb
         subst e
         exact I1.CQ (Nat.le_refl _) (I1.bf.fresh (Nat.le_refl _))
       · obtain⟨aO,rv,p,hz⟩:=I1.tuple hq
         refine wpAny_pyIter_tuple (show s1.heap.IsTuple a aO.toArray from p) ?_
         refine⟨s1.heap.objs.size,[s1.heap.objs.size],_,_,H1,rfl,I1.kept (t':=s1.toks) λb o e=>Heap.get?_push_of_some _ e,xQ a _,⟨_,Heap.get?_push_size _ rfl,rfl,rfl⟩,λb hb=>?_,q⟩
         have e:b=s1.heap.objs.size:=by simpa using hb
         subst e
         exact I1.CQ (Nat.le_refl _) (I1.bf.fresh (Nat.le_refl _)))
def Its (lo st:Int)(n:Nat):It:=⟨λi _=>i < n,λi H x H'=>H'=H/\x=.int (lo + i * st),λi _=>n<=i⟩
def J8 (ta:TA):TI:=λσ H R=>ta σ H λvs H1=>match vs with
 | [.int i,.int j,.int k]=>Builtin.Range.small i j k=true/\0 < k/\k < 1000/\R (Its i k (Builtin.Range.rangeSize i j k).toNat) H1
 | _=>False
end
structure Def (P:Program)(w:World)(K:W.Frag)(mg:Str->Option Value)(base:Heap)(x:Str)(k:Nat)(ps:List Str)(sp:Sp):Prop where
 ex:∃f fd,kh P w K mg base yi k f fd ps sp/\mg x=some (.ref f)/\W.keepIn K (.ref f)=true/\Binds K fd ps []
structure dH (K:W.Frag)(mg:Str->Option Value)(x qual:Str)(st:Stmt)(ps:List Str):Prop where
 ex:∃f fd,GV K x qual st f fd/\mg x=some (.ref f)/\Binds K fd ps []
section
variable {P:Program}{w:World}{K:W.Frag}{mg:Str->Option Value}{base:Heap}
theorem dH.ok{x qual:Str}{st:Stmt}{N ps:List Str}{k:Nat}{sp:Sp}(T:dH K mg x qual st ps)(S:aD N ps (az st))(len:∀vs H Q E,sp vs H Q E->vs.length=ps.length)
  (ki:∀(f:Addr) (fT:Value) (A:Around) (outer:List Env) (s:Shared) (H:Hp) (vs:List V) (Q:VK) (E:XK),eP k (A.deeper (envOfC qual (az st) s.heap.objs.size f fT))->sp vs H Q E->
   ∃t,uu (pO yi P w K mg base N qual (az st) f fT A outer s H E).xN (cU st) t/\t {nx:=λ_ H'=>Q .bR H',rt:=Q} (start N vs) H):Def P w K mg base x (k + 1) ps sp:=by
 obtain⟨f,fd,F,hm,hb⟩:=T.ex
 exact⟨f,fd,F.ok S len (ki f),hm,F.kp,hb⟩
end
theorem QT {X:Cx}{k j:Nat}{ps:List Str}{sp:Sp}{x:Str}{p pos:Pos}{e:Expr}{es:List Expr}{t:TA}(D:Def X.prog X.w X.K X.mg X.base x k ps sp)(hr:eP j X.A)(ha:PA X (e::es) t)(hg:Gl X x:=by rfl)(hj:k<=j:=by decide)
  (uw:(x == ("__debug__":Str))=false:=by decide) (he:starEach (e::es) X.env=(false,eval e X.env)::starEach es X.env:=by rfl) (xD:(backTo pos (starEach es X.env)).any (·.1)=false:=by rfl):
  PE X (.Call (.Name x p) (e::es) [] pos) (vC sp [] E0 t):=by
 obtain⟨f,fd,F,hm,hk,hb⟩:=D.ex
 exact HL F (hr.mono hj) hg hm hk hb .nil zK ha uw he xD
end
section
variable {p:Addr}{H H1:Hp}
section
variable {X:Cx}
def OI (K:W.Frag):R2:=λx y H Q=>match x,y with
 | .str z,.int i=>∃c,z.length<=sizeLine/\gB z.cps.toList i=some c/\Q (.str ⟨#[c]⟩) H
 | .ref p,.int i=>∃xs v,(aP K H p xs\/bJ K H p xs)/\gB xs i=some v/\Q v H
 | .ref p,.str k=>∃v,jw H p (.str k) (some v)/\Q v H
 | _,_=>False
theorem WR (hu:X.A.units + 64 < cLine):Qu X (OI X.K):=by
  intro value slice pins s σ H x y v u Q I rx ry h hs
  cases x <;> cases y <;> first
    | exact(show False from h).elim
    | (obtain⟨c,h1,h2,h3⟩:=h;exact Mm value slice pins s σ H _ _ v u Q I rx ry ⟨_,_,c,rfl,rfl,h1,h2,h3⟩ hs)
    | (obtain⟨xs,w',h1 | h1,h2,h3⟩:=h
       · exact HS value slice pins s σ H _ _ v u Q I rx ry ⟨_,xs,_,w',rfl,rfl,h1,h2,h3⟩ hs
       · exact Ml value slice pins s σ H _ _ v u Q I rx ry ⟨_,xs,_,w',rfl,rfl,h1,h2,h3⟩ hs)
    | (obtain⟨w',g,h3⟩:=h
       cases rx
       exact tail_any (vK I g) PySem.F.slot_dict_getitem.lookup (Bk (by omega) I g ry λw2 s3 I3 Bh=>⟨w',H,I3,Bh,h3⟩) hs)
end
inductive DV where
 | bR | bl (b:Bool) | int (i:Int) | str (x:Str) | tup (ds:List DV) | lst (ds:List DV) | dict
inductive HD (H:Hp):Nat->V->DV->Prop
 | bR {n}:HD H n .bR .bR
 | bl {n} (b:Bool):HD H n (.bl b) (.bl b)
 | int {n} (i:Int):HD H n (.int i) (.int i)
 | str {n} (x:Str):HD H n (.str x) (.str x)
 | tup {n a xs ds}:H a=some (.tup xs)->xs.length=ds.length->(∀(i:Nat) u e,xs[i]?=some u->ds[i]?=some e->HD H n u e)->HD H (n + 1) (.ref a) (.tup ds)
 | lst {n a xs ds}:H a=some (.lst xs)->xs.length=ds.length->(∀(i:Nat) u e,xs[i]?=some u->ds[i]?=some e->HD H n u e)->HD H (n + 1) (.ref a) (.lst ds)
 | dict {n a bc}:H a=some (.dK bc)->HD H n (.ref a) .dict
theorem HD.same{H H':Hp}(s:av H H'){n:Nat}{x:V}{d:DV}(h:HD H n x d):HD H' n x d:=by
 induction h with
 | bR=>exact .bR
 | bl b=>exact .bl b
 | int i=>exact .int i
 | str x=>exact .str x
 | tup a b c ih=>exact .tup (s _ _ a) b ih
 | lst a b c ih=>exact .lst (s _ _ a) b ih
 | dict a=>exact .dict (s _ _ a)
theorem HD.mono{H:Hp}{n:Nat}{x:V}{d:DV}(h:HD H n x d):∀{m:Nat},n<=m->HD H m x d:=by
 induction h with
 | bR=>intro m _;exact .bR
 | bl b=>intro m _;exact .bl b
 | int i=>intro m _;exact .int i
 | str x=>intro m _;exact .str x
 | tup a b c ih=>
  intro m hm
  obtain⟨k,rfl⟩:∃k,m=k + 1:=⟨m - 1,by omega⟩
  exact .tup a b λi u e p q=>ih i u e p q (by omega)
 | lst a b c ih=>
  intro m hm
  obtain⟨k,rfl⟩:∃k,m=k + 1:=⟨m - 1,by omega⟩
  exact .lst a b λi u e p q=>ih i u e p q (by omega)
 | dict a=>intro m _;exact .dict a
inductive HT (H:Hp):Nat->V->DV->Prop
 | bR {n}:HT H n .bR .bR
 | bl {n} (b:Bool):HT H n (.bl b) (.bl b)
 | int {n} (i:Int):HT H n (.int i) (.int i)
 | str {n} (x:Str):HT H n (.str x) (.str x)
 | tup {n a xs ds}:H a=some (.tup xs)->xs.length=ds.length->(∀(i:Nat) u e,xs[i]?=some u->ds[i]?=some e->HT H n u e)->HT H (n + 1) (.ref a) (.tup ds)
theorem HT.hd{H:Hp}{n:Nat}{x:V}{d:DV}(h:HT H n x d):HD H n x d:=by
 induction h with
 | bR=>exact .bR
 | bl b=>exact .bl b
 | int i=>exact .int i
 | str x=>exact .str x
 | tup a b c ih=>exact .tup a b ih
def bQ (H H':Hp):Prop:=∀b xs,H b=some (.tup xs)->H' b=some (.tup xs)
theorem av.aQ{H':Hp}(h:av H H'):bQ H H':=λb xs e=>h b _ e
theorem bQ.refl(H:Hp):bQ H H:=λ_ _ h=>h
theorem bQ.trans{H2:Hp}(a:bQ H H1)(b:bQ H1 H2):bQ H H2:=λc o h=>b c o (a c o h)
theorem bQ.upd{H':Hp}(h:bQ H H'){p:Addr}{o:HO}(hp:∀xs,H' p≠some (.tup xs)):bQ H (upd H' p o):=λb xs e=>by
 have e':=h b xs e
 have:b≠p:=λz=>by subst z;exact hp xs e'
 rw[ay this];exact e'
theorem HT.aI{H H':Hp}(s:bQ H H'){n:Nat}{x:V}{d:DV}(h:HT H n x d):HT H' n x d:=by
 induction h with
 | bR=>exact .bR
 | bl b=>exact .bl b
 | int i=>exact .int i
 | str x=>exact .str x
 | tup a b c ih=>exact .tup (s _ _ a) b ih
theorem av.new(o:HO)(hn:H p=none):av H (upd H p o):=λb u e=>by rw[ay (aq e hn)];exact e
def eE (H:Hp)(p:Addr):Prop:=∃a b,H p=some (.lst [.int a,.int b])
structure Step (p:Addr)(H H':Hp):Prop where
 fR:eE H' p
 rest:∀b o,H b=some o->b≠p->H' b=some o
theorem Step.refl(h:eE H p):Step p H H:=⟨h,λ_ _ e _=>e⟩
theorem Step.trans{H2:Hp}(a:Step p H H1)(b:Step p H1 H2):Step p H H2:=⟨b.fR,λc o e n=>b.rest c o (a.rest c o e n) n⟩
theorem Step.same{H2:Hp}(a:Step p H H1)(b:av H1 H2):Step p H H2:=
 ⟨let ⟨x,y,e⟩:=a.fR;⟨x,y,b _ _ e⟩,λc o e n=>b c o (a.rest c o e n)⟩
theorem Step.set(a:Step p H H1)(x y:Int):Step p H (upd H1 p (.lst [.int x,.int y])):=
 ⟨⟨x,y,af⟩,λc o e n=>by rw[ay n];exact a.rest c o e n⟩
theorem Step.new{q:Addr}(a:Step p H H1){o:HO}(hn:H1 q=none):Step p H (upd H1 q o):=a.same (av.new o hn)
theorem Step.aQ(a:Step p H H1)(hp:eE H p):bQ H H1:=λb xs e=>a.rest b _ e λz=>by
 subst z
 obtain⟨_,_,h⟩:=hp
 rw[h] at e;cases e
theorem Step.ne{q:Addr}(hp:eE H p)(hn:H q=none):q≠p:=λz=>by
 subst z
 obtain⟨_,_,h⟩:=hp
 rw[h] at hn;cases hn
end
section
section
variable {X:Cx}
def ML (K:W.Frag):List V->Hp->VK->Prop:=λxs H Q=>match xs with
 | [x]=>∃n,CZ K x H n/\Q (.int (n:Nat)) H
 | _=>False
theorem aM:fg X (.builtin "len") (ML X.K):=by
 intro pins s σ H xs us Q I r h
 match xs,r,h with
 | [x],r,h=>
  obtain⟨n,h1,h2⟩:=h
  exact C0 pins s σ H _ us Q I r ⟨x,n,rfl,h1,h2⟩
def uII (g:Int->Int->Int):List V->Hp->VK->Prop:=λxs H Q=>match xs with
 | [.int i,.int j]=>Q (.int (g i j)) H
 | _=>False
theorem Br (hc:X.calm=true):fg X (.builtin "max") (uII λi j=>if j > i then j else i):=by
 intro pins s σ H xs us Q I r h
 match xs,r,h with
 | [.int i,.int j],r,h=>exact Bc hc pins s σ H _ us Q I r ⟨i,j,rfl,h⟩
def uK (K:W.Frag):List V->Hp->VK->Prop:=λxs H Q=>match xs with
 | [.ref p]=>(∃ys,aP K H p ys/\∀l,H l=none->Q (.ref l) (upd H l (.tup ys)))\/(∃ys,bJ K H p ys/\Q (.ref p) H)
 | _=>False
theorem cL:fg X (.type "tuple") (uK X.K):=by
 intro pins s σ H xs us Q I r h
 match xs,r,h with
 | [.ref p],r,h=>
  rcases h with⟨ys,h1,h2⟩ | ⟨ys,h1,h2⟩
  ·exact lJ pins s σ H _ us Q I r ⟨p,ys,rfl,.inl ⟨h1,h2⟩⟩
  ·exact lJ pins s σ H _ us Q I r ⟨p,ys,rfl,.inr ⟨h1,h2⟩⟩
def J9 (K:W.Frag):List V->Hp->VK->Prop:=λxs H Q=>match xs with
 | [.ref p]=>∃ys,(aP K H p ys\/bJ K H p ys)/\∀l,H l=none->Q (.ref l) (upd H l (.lst ys))
 | _=>False
theorem cC:fg X (.type "list") (J9 X.K):=by
 intro pins s σ H xs us Q I r h
 match xs,r,h with
 | [.ref p],r,h=>
  obtain⟨ys,h1,h2⟩:=h
  exact uD pins s σ H _ us Q I r ⟨p,ys,rfl,h1,h2⟩
def Ka:V->V->V->Hp->(Hp->Prop)->Prop:=λo i v H Q=>match o,i with
 | .ref p,.int k=>∃xs j,H p=some (.lst xs)/\pK xs.length k=some j/\Q (upd H p (.lst (xs.set j v)))
 | _,_=>False
theorem eg:LW X Ka:=by
 intro pins s σ H o i v ov iv u Q I ro ri rv h
 cases o <;> cases i <;> first
  | exact(show False from h).elim
  | (obtain⟨xs,j,h1,h2,h3⟩:=h;exact set_list pins s σ H _ _ v ov iv u Q I ro ri rv ⟨_,xs,_,j,rfl,rfl,h1,h2,h3⟩)
end
theorem QU {CX P w K mg base N qual scope f cd A outer s H E}:(pO CX P w K mg base N qual scope f cd A outer s H E).xN.K=K:=rfl
theorem Kb {X:Cx}:X.xN.K=X.K:=rfl
theorem DE {CX P w K mg base N qual scope f cd A outer s H E}:(pO CX P w K mg base N qual scope f cd A outer s H E).K=K:=rfl
theorem Kc {X:Cx}{scope C N' s₂ H₂ fp}:(QI X scope C N' s₂ H₂ fp).K=X.K:=rfl
theorem cM:2<=sizeLine:=by decide
end
section
variable {g:Int->Int->V}
section
variable {K:W.Frag}{H:Hp}{Q:VK}{i j:Int}{a b:Addr}{x y:V}{s t:Str}
theorem zN:MC (.int i) (.int j) H Q=Q (.int (i + j)) H:=rfl
theorem zO:MC (.str s) (.str t) H Q=(s.length + t.length<=sizeLine/\Q (.str (s++t)) H):=rfl
theorem zP:MC (.ref a) (.ref b) H Q=∃xs zs,H a=some (.lst xs)/\H b=some (.lst zs)/\xs.length + zs.length<=sizeLine/\∀p,H p=none->Q (.ref p) (upd H p (.lst (xs++zs))):=rfl
theorem Ke {C:Int->Int->Prop}:uI C g (.int i) (.int j) H Q=(C i j/\Q (g i j) H):=rfl
theorem DG:ME g (.int i) (.int j) H Q=Q (g i j) H:=rfl
theorem DH:decide (V.int i=V.int j)=decide (i=j):=by simp
theorem DI:decide (V.str s=V.str t)=decide (s=t):=by simp
theorem uL:MI K (.int i) (.int j) H Q=Q (.bl (decide (i=j))) H:=by
 show(true=true/\Q (.bl (decide (V.int i=V.int j))) H)=_
 rw[DH];simp
theorem uM:MI K (.str s) (.str t) H Q=Q (.bl (decide (s=t))) H:=by
 show(true=true/\Q (.bl (decide (V.str s=V.str t))) H)=_
 rw[DI];simp
theorem uN:OH K (.int i) (.int j) H Q=Q (.bl (!decide (i=j))) H:=by
 show(true=true/\Q (.bl (!decide (V.int i=V.int j))) H)=_
 rw[DH];simp
theorem uO:OH K (.str s) (.str t) H Q=Q (.bl (!decide (s=t))) H:=by
 show(true=true/\Q (.bl (!decide (V.str s=V.str t))) H)=_
 rw[DI];simp
theorem DJ:MI K (.ref a) (.ref b) H Q=((km K H 20 (.ref a) (.ref b)/\Q (.bl true) H)\/(qI K H a b/\Q (.bl false) H)):=rfl
theorem DK:OH K (.ref a) (.ref b) H Q=((km K H 20 (.ref a) (.ref b)/\Q (.bl false) H)\/(qI K H a b/\Q (.bl true) H)):=rfl
theorem DM {g:Bool->Bool}{c d:Bool}:QS g (.bl c) (.bl d) H Q=Q (.bl (g (c == d))) H:=rfl
theorem Kf {neg:Bool}:uIn K neg x (.ref a) H Q=∃xs,(aP K H a xs\/bJ K H a xs)/\fS x=true/\xs.all fS=true/\Q (.bl (if neg then !zF x xs else zF x xs)) H:=rfl
theorem DN:OI K (.ref a) (.int i) H Q=∃xs v,(aP K H a xs\/bJ K H a xs)/\gB xs i=some v/\Q v H:=rfl
theorem DO:OI K (.ref a) (.str s) H Q=∃v,jw H a (.str s) (some v)/\Q v H:=rfl
theorem DP:OI K (.str s) (.int i) H Q=∃c,s.length<=sizeLine/\gB s.cps.toList i=some c/\Q (.str ⟨#[c]⟩) H:=rfl
theorem DQ {n:String}:WQ K [x,.ty n] H Q=∃t b,fV K H x t/\W.kitOne K t (.type n)=some b/\Q (.bl b) H:=rfl
theorem DR:ML K [x] H Q=∃n,CZ K x H n/\Q (.int (n:Nat)) H:=rfl
theorem Kg {g:Int->Int->Int}:uII g [.int i,.int j] H Q=Q (.int (g i j)) H:=rfl
theorem nc:uK K [.ref a] H Q=((∃ys,aP K H a ys/\∀l,H l=none->Q (.ref l) (upd H l (.tup ys)))\/(∃ys,bJ K H a ys/\Q (.ref a) H)):=rfl
theorem zQ:J9 K [.ref a] H Q=∃ys,(aP K H a ys\/bJ K H a ys)/\∀l,H l=none->Q (.ref l) (upd H l (.lst ys)):=rfl
theorem vQ {R:Hp->Prop}:Ka (.ref a) (.int i) x H R=∃xs j,H a=some (.lst xs)/\pK xs.length i=some j/\R (upd H a (.lst (xs.set j x))):=rfl
theorem tL {α:Type}{o:Option α}:(some o).join=o:=rfl
end
theorem Step.base{p:Addr}{H0 H1 H2:Hp}(s:av H0 H1)(hn:H0 p=none)(st:L2.Step p H1 H2):av H0 H2:=λb o e=>st.rest b o (s b o e) (aq e hn)
end
section
variable {r:List V->Hp->VK->Prop}
def fW:Expr->Bool
 | .Starred ..=>false
 | _=>true
theorem fX {e:Expr}{es:List Expr}{env:Env}(h:fW e=true):starEach (e::es) env=(false,eval e env)::starEach es env:=by
 cases e <;> first | rfl | exact absurd h Bool.false_ne_true
theorem jx {pos:Pos}{env:Env}:∀{es:List Expr},es.all fW=true->(backTo pos (starEach es env)).any (·.1)=false
 | [],_=>rfl
 | e::es,h=>by
  rw[List.all_cons,Bool.and_eq_true] at h
  rw[fX h.1]
  show(false || (backTo pos (starEach es env)).any (·.1))=false
  rw[jx h.2];rfl
def ym:Expr->Bool
 | .ListComp ..=>false
 | .SetComp ..=>false
 | .DictComp ..=>false
 | _=>true
theorem gy {e:Expr}{t:Option Expr}{l:Nat}{env:Env}(h:ym e=true):swapsWith e t l env=pure false:=by
 cases e <;> first | rfl | exact absurd h Bool.false_ne_true
section
variable {X:Cx}{e:Expr}{es:List Expr}{te:TE}{t:TA}{pos p:Pos}{x:Str}
theorem ai (ha:PE X e te)(hr:PA X es t)(h:fW e=true:=by rfl):PA X (e::es) (zx te t):=HK ha hr (fX h)
theorem aN {k j:Nat}{ps:List Str}{sp:Sp}(D:Def X.prog X.w X.K X.mg X.base x k ps sp)(hr:eP j X.A)(ha:PA X (e::es) t)(hg:Gl X x:=by rfl)(hj:k<=j:=by decide)
  (uw:(x == ("__debug__":Str))=false:=by decide) (h1:fW e=true:=by rfl) (h2:es.all fW=true:=by rfl):
  PE X (.Call (.Name x p) (e::es) [] pos) (vC sp [] E0 t):=QT D hr ha hg hj uw (fX h1) (jx h2)
theorem aT {id:String}(hc:fg X (.builtin id) r)(hg:Gl X x)(hm:X.mg x=none)(hv:bootBuiltins x=some (.builtin id))(ha:PA X (e::es) t)(hn:x≠"__name__":=by decide)(uw:(x == ("__debug__":Str))=false:=by decide)
  (h1:fW e=true:=by rfl) (h2:es.all fW=true:=by rfl):PE X (.Call (.Name x p) (e::es) [] pos) (OD r t):=Df hc hg hm hv ha hn uw (fX h1) (jx h2)
theorem dB {T:String}(hc:fg X (.type T) r)(hg:Gl X x)(hm:X.mg x=none)(hv:bootBuiltins x=some (.type T))(ha:PA X (e::es) t)(hn:x≠"__name__":=by decide)(uw:(x == ("__debug__":Str))=false:=by decide)
  (h1:fW e=true:=by rfl) (h2:es.all fW=true:=by rfl):PE X (.Call (.Name x p) (e::es) [] pos) (OD r t):=Bg hc hg hm hv ha hn uw (fX h1) (jx h2)
theorem ba {i:Nat}{pos':Pos}(hN:X.N.Nodup)(hi:X.N[i]?=some x)(hx:Loc X.env.scope x)(he:PE X e te)(h:ym e=true:=by rfl)(hf:X.fn x=true\/X.env.scope.names.lookup x=some .local:=by first | exact .inl rfl | exact .inr rfl | assumption):
  PS X (.Assign [.Name x pos'] e pos) (A9 te (gR i)):=CM hN hi hx he (gy h) hf
theorem bY (he:PE X e te)(h:ym e=true:=by rfl):PS X (.Expr e pos) (zm te):=Hu he (gy h)
end
end
section
def uP:Expr->Bool
 | .Slice ..=>false
 | _=>true
theorem DS {b:Expr}(h:uP b=true):zD b:=λo i=>by
 cases b <;> first | rfl | exact absurd h Bool.false_ne_true
theorem ak {X:Cx}{a b:Expr}{ta tb:TE}{pos:Pos}(hu:X.A.units + 64 < cLine)(ha:PE X a ta)(hb:PE X b tb)(h:uP b=true:=by rfl):PE X (.Subscript a b pos) (HA (OI X.K) ta tb):=Qw (WR hu) ha hb (DS h)
end
section
def xbm:List Value:=[.type "ValueError",.type "Exception",.type "BaseException",.type "object"]
end
end L2
set_option maxHeartbeats 400000
namespace L2
open PySem PySem.Spec PyProof.Rows
section
structure QV (K:W.Frag)(C B:Addr):Prop where
 ob:∃nm q N bs sn sub ab col dd k0 k1 k2 k3 k5,K.lookup C=some (excClassObj nm q C N bs (.ref B::xbm) true sn sub ab col dd k0 k1 k2 k3 k5 "ValueError.__new__")
 ga:W.findIn K (.ref C) "__getattribute__"=some (some (.builtin "BaseException.__getattribute__"))
 gt:W.findIn K (.ref C) "__getattr__"=some none
 sa:W.findIn K (.ref C) "__setattr__"=some (some (.builtin "object.__setattr__"))
 cl:W.findIn K (.ref C) "__class__"=some (some (.builtin "object.__class__"))
 cg:W.specialIn K (.builtin "object.__class__") "__get__"=some (some (.builtin "getset_descriptor.__get__"))
 ct:W.takesIn K (.builtin "object.__class__")=some true
 kp:W.keepIn K (.ref C)=true
section
variable {prog:Program}{w:World}{A:Around}{E:Value->Shared->Prop}{s:Shared}{K:W.Frag}{x C B:Addr}{ox:Obj}{od:Option Obj}{name:Str}
open PySem.W in
open PySem.W in
end
end
section
end
end L2
namespace L2
open PySem PySem.Spec PyProof.Rows
end L2
set_option maxHeartbeats 4000000
namespace PySem
variable {a j:Addr}{aO:Array Value}{b:Bool}{h:Heap}{Q:Value->Shared->Prop}
section
variable {prog:Program}{w:World}{A:Around}{E:Value->Shared->Prop}{s:Shared}
theorem pT {n:Nat}{v:Value}(st:s.heap.IsTupleIter j a n)(ht:s.heap.IsTuple a aO)(hv:aO[n]?=some v)
  (q:∀g,g.IsTupleIter j a (n + 1)->Heap.SameBut j s.heap g->Q v {s with heap:=g}):wpAny (model prog w) A (Builtin.SmallTypes.nextOf (.ref j)) Q E s:=by
 obtain⟨ob,e,c,d⟩:=id st
 obtain⟨ot,et,_,nt,dt⟩:=ht
 unfold Builtin.SmallTypes.nextOf
 refine wpAny_bind (wpAny_callSpecial?_slot (name:=Str.ofString "__next__") st.typeIs F.slot_tuple_iterator_next (wpAny_call_entry F.slot_tuple_iterator_next st.typeIs F.entry_tuple_iterator_next ?_ (F.args_tuple_iterator_next_1 _)))
 refine wpAny_bind (m:=field (.ref j) 0) (wpAny_field e d (x:=.ref a) rfl ?_)
 show wpAny _ _ (if (Value.ref a == Value.none)=true then _ else _) _ _ _
 rw[if_neg (by exact Bool.false_ne_true)]
 refine wpAny_bind (m:=field (.ref j) 1) (wpAny_field e d (x:=.int n 0) rfl ?_)
 refine wpAny_bind (m:=seqItems? (.ref a)) (wpAny_seqItems et dt ?_)
 simp only[Int.toNat_natCast,hv]
 refine wpAny_bind (wpAny_setField e d (by simp) (wpAny_pure ⟨v,rfl,wpAny_pure (q _ ⟨_,Heap.get?_update_self _ e (Obj.isFreed_of_fields (Obj.data_mapFields d _)),(Obj.cls_mapFields ..).trans c,?_⟩ (Heap.SameBut.update ..))⟩))
 rw[Obj.data_mapFields d];simp[rawInt]
theorem qJ {n:Nat}(hh:A.handled=none)(st:s.heap.IsTupleIter j a n)(ht:s.heap.IsTuple a aO)(hv:aO[n]?=none)
  (q:∀g e,Heap.ExtBut j s.heap g->(∃o,g.get? e=some o/\o.cls=.type "StopIteration")->E (.ref e) {s with heap:=g}):wpAny (model prog w) A (Builtin.SmallTypes.nextOf (.ref j)) Q E s:=by
 obtain⟨ob,e,c,d⟩:=id st
 obtain⟨ot,et,_,nt,dt⟩:=ht
 unfold Builtin.SmallTypes.nextOf
 refine wpAny_bind (wpAny_callSpecial?_slot (name:=Str.ofString "__next__") st.typeIs F.slot_tuple_iterator_next (wpAny_call_entry F.slot_tuple_iterator_next st.typeIs F.entry_tuple_iterator_next ?_ (F.args_tuple_iterator_next_1 _)))
 refine wpAny_bind (m:=field (.ref j) 0) (wpAny_field e d (x:=.ref a) rfl ?_)
 show wpAny _ _ (if (Value.ref a == Value.none)=true then _ else _) _ _ _
 rw[if_neg (by exact Bool.false_ne_true)]
 refine wpAny_bind (m:=field (.ref j) 1) (wpAny_field e d (x:=.int n 0) rfl ?_)
 refine wpAny_bind (m:=seqItems? (.ref a)) (wpAny_seqItems et dt ?_)
 simp only[Int.toNat_natCast,hv]
 refine wpAny_bind (wpAny_rule (wpAny_bind (wpAny_setField e d (by simp) (wpAny_bind (m:=newExc (.type "StopIteration") []) ?_))))
 simp only[newExc,newTuple]
 refine wpAny_bind (wpAny_newObj_type (wpAny_bind (m:=firstArgMember _ _) (wpAny_of_eq (a:=Value.none) (by first | rfl | (simp only[firstArgMember];rfl)) (wpAny_newObj_type ?_ (by size_fits)))) (by size_fits))
 simp only[raiseNew]
 refine wpAny_bind (wpAny_handled ?_)
 first | rw[show A.in1.handled=none from hh] | rw[hh]
 exact wpAny_bind (wpAny_pure (wpAny_throw (q _ _ (((Heap.SameBut.update ..).extBut.push _).push _) ⟨_,Heap.get?_push_size _ rfl,rfl⟩)))
end
theorem Draws.tup{prog:Program}{w:World}{A:Around}(hh:A.handled=none)(j a:Addr)(pS:a≠j)(aO:Array Value):
  Draws prog w A j [j,a] aO.size (λi v=>aO[i]?=some v) (λi h=>h.IsTupleIter j a i/\h.IsTuple a aO) where
 live:=λ_ _ st=>let ⟨o,ho,_⟩:=st.1;⟨o,ho⟩
 frame:=λ_ _ _ st k=>⟨st.1.at λo e=>k j (by simp) o e,st.2.at λo e=>k a (by simp) o e⟩
 item:=λi s Q E hi st q=>pT st.1 st.2 (v:=aO[i]) (by simp[hi]) λg CT sb=>q _ g s.toks (by simp[hi]) ⟨CT,st.2.extBut sb.extBut pS⟩ sb
 done:=λs Q E st q=>qJ hh st.1 st.2 (by simp) q
def sk (b:Bool)(h:Heap)(a:Addr)(aO:Array Value):Prop:=if b=true then h.IsList a aO else h.IsTuple a aO
def oh (b:Bool)(h:Heap)(j a:Addr)(n:Nat):Prop:=if b=true then h.IsListIter j a n else h.IsTupleIter j a n
theorem sk.at {h':Heap}(x:sk b h a aO)(k:∀o,h.get? a=some o->h'.get? a=some o):sk b h' a aO:=by
 cases b
 ·exact Heap.IsTuple.at x k
 ·exact Heap.IsList.at x k
theorem oh.at {h':Heap}{n:Nat}(x:oh b h j a n)(k:∀o,h.get? j=some o->h'.get? j=some o):oh b h' j a n:=by
 cases b
 ·exact Heap.IsTupleIter.at x k
 ·exact Heap.IsListIter.at x k
theorem oh.obj{n:Nat}(x:oh b h j a n):∃o,h.get? j=some o/\∀v,o.data≠.cell v:=by
 cases b <;> (obtain⟨o,e,c,d⟩:=x;exact⟨o,e,λv z=>by rw[d] at z;cases z⟩)
theorem Draws.sq{prog:Program}{w:World}{A:Around}(hh:A.handled=none)(b:Bool)(j a:Addr)(pS:a≠j)(aO:Array Value):
  Draws prog w A j [j,a] aO.size (λi v=>aO[i]?=some v) (λi h=>oh b h j a i/\sk b h a aO):=by
 cases b
 ·exact Draws.tup hh j a pS aO
 ·exact Draws.list hh j a pS aO
end PySem
namespace PySem
variable {Q:Option Value->Shared->Prop}
structure ZA (z ti to i1 i2:Addr)(f1 f2:List Addr):Prop where
 a1:ti≠z
 a2:to≠z
 a3:i1≠z
 a4:i2≠z
 a5:ti≠to
 a6:ti≠i1
 a7:ti≠i2
 a8:to≠i1
 a9:to≠i2
 a10:i1≠i2
 b1:z ∉ f1
 b2:to ∉ f1
 b3:i2 ∉ f1
 c1:z ∉ f2
 c2:to ∉ f2
 c3:i1 ∉ f2
section
variable {prog:Program}{w:World}{A:Around}{E:Value->Shared->Prop}{s:Shared}{z ti to i1 i2:Addr}{f1 f2:List Addr}{n1 n2 k:Nat}{P1 P2:Nat->Value->Prop}{S1 S2:Nat->Heap->Prop}{a b:Value}
theorem Bs {Q:Value->Shared->Prop}(Z:ZA z ti to i1 i2 f1 f2)(D1:Draws prog w A i1 f1 n1 P1 S1)(D2:Draws prog w A i2 f2 n2 P2 S2)(hz:IsZip s.heap z ti to .none)(MM:IsPair s.heap ti (.ref i1) (.ref i2))(MN:IsPair s.heap to a b)
  (s1:S1 k s.heap) (s2:S2 k s.heap) (l1:k < n1) (l2:k < n2)
  (q:∀x y g tk,P1 k x->P2 k y->IsZip g z ti to (rawInt s.heap.objs.size)->IsPair g to x y->S1 (k + 1) g->S2 (k + 1) g->IsPair g s.heap.objs.size x y->g.objs.size=s.heap.objs.size + 1->
   (∀c o,c≠z->c≠to->c≠i1->c≠i2->s.heap.get? c=some o->g.get? c=some o)->Q (.ref s.heap.objs.size) {s with heap:=g,toks:=tk}):
  wpAny (model prog w) A (Builtin.«zip.__next__» ⟨[.ref z],[]⟩) (λfin s'=>∃v,fin=.done (.ret v)/\Q v s') E s:=by
 refine wpAny_bind (m:=field (.ref z) 2) (wpAny_field hz rfl (x:=.bool false) rfl (wpAny_bind (m:=field (.ref z) 3) (wpAny_field hz rfl (x:=.ref ti) rfl ?_)))
 refine wpAny_bind (wpAny_seqItems MM rfl (wpAny_bind (m:=Builtin.SmallTypes.ownedTupleIsFree (.ref z)) ?_))
 unfold Builtin.SmallTypes.ownedTupleIsFree
 refine wpAny_bind (wpAny_field hz rfl (x:=.none) rfl (wpAny_pure ?_))
 simp only[if_true]
 refine wpAny_bind (wpAny_rule (wpAny_bind (wpAny_field hz rfl (x:=.ref to) rfl (wpAny_bind (wpAny_setField_rec hz (by simp) λg1 Cg e1=>?_)))))
 replace Cg:IsZip g1 z ti to .ellipsis:=Cg
 refine wpAny_bind ?_
 simp only[List.zipIdx_cons,List.zipIdx_nil,List.forIn_cons,List.forIn_nil]
 refine wpAny_bind (wpAny_bind (wpAny_onRaise (wpAny_bind (m:=Builtin.SmallTypes.nextOf (.ref i1)) ?_)))
 refine D1.item k _ _ _ l1 (D1.frame _ _ _ s1 λc hc o e=>e1.extBut c o (λh=>Z.b1 (h ▸ hc)) e) λx g2 tk2 px t1 e2=>wpAny_pure ?_
 replace e2:Heap.SameBut i1 g1 g2:=e2
 have DT:IsPair g2 to a b:=e2.extBut _ _ Z.a8 (e1.extBut _ _ Z.a2 MN)
 refine wpAny_bind (wpAny_seqItems DT rfl (wpAny_bind (wpAny_updateSeq_pair DT λg3 Ij e3=>wpAny_bind (wpAny_letGo (wpAny_pure ?_)))))
 replace Ij:IsPair g3 to x b:=Ij
 replace e3:Heap.SameBut to g2 g3:=e3
 refine wpAny_bind (wpAny_bind (wpAny_onRaise (wpAny_bind (m:=Builtin.SmallTypes.nextOf (.ref i2)) ?_)))
 refine D2.item k _ _ _ l2 (D2.frame _ _ _ s2 λc hc o e=>e3.extBut c o (λh=>Z.c2 (h ▸ hc)) (e2.extBut c o (λh=>Z.c3 (h ▸ hc)) (e1.extBut c o (λh=>Z.c1 (h ▸ hc)) e))) λy g4 tk4 py t2 e4=>wpAny_pure ?_
 replace e4:Heap.SameBut i2 g3 g4:=e4
 have QW:IsPair g4 to x b:=e4.extBut _ _ Z.a9 Ij
 refine wpAny_bind (wpAny_seqItems QW rfl (wpAny_bind (wpAny_updateSeq_pair QW λg5 Ik e5=>wpAny_bind (wpAny_letGo (wpAny_pure (wpAny_pure ?_))))))
 replace Ik:IsPair g5 to x y:=Ik
 replace e5:Heap.SameBut to g4 g5:=e5
 refine wpAny_bind (wpAny_seqItems Ik rfl (wpAny_bind (wpAny_newTuple ?_)))
 have hsz:g5.objs.size=s.heap.objs.size:=by rw[e5.1,e4.1,e3.1,e2.1,e1.1]
 have hz5:IsZip g5 z ti to .ellipsis:=e5.extBut _ _ Z.a2.symm (e4.extBut _ _ Z.a4.symm (e3.extBut _ _ Z.a2.symm (e2.extBut _ _ Z.a3.symm Cg)))
 have k5:∀c o,c≠z->c≠to->c≠i1->c≠i2->s.heap.get? c=some o->g5.get? c=some o:=λc o c1 c2 c3 c4 e=>e5.extBut _ _ c2 (e4.extBut _ _ c4 (e3.extBut _ _ c2 (e2.extBut _ _ c3 (e1.extBut _ _ c1 e))))
 have u1:S1 (k + 1) g5:=D1.frame _ _ _ t1 λc hc o e=>e5.extBut c o (λh=>Z.b2 (h ▸ hc)) (e4.extBut c o (λh=>Z.b3 (h ▸ hc)) (e3.extBut c o (λh=>Z.b2 (h ▸ hc)) e))
 have u2:S2 (k + 1) g5:=D2.frame _ _ _ t2 λc hc o e=>e5.extBut c o (λh=>Z.c2 (h ▸ hc)) e
 have zlt:z < g5.objs.size:=Heap.lt_size hz5
 refine wpAny_bind (m:=Builtin.SmallTypes.ownedTupleHandOut (.ref z) (.ref g5.objs.size)) ?_
 unfold Builtin.SmallTypes.ownedTupleHandOut
 have hz6:IsZip (g5.push {cls:=.type "tuple",data:=.seq #[x,y]}) z ti to .ellipsis:=Heap.get?_push_of_some _ hz5
 refine wpAny_bind (wpAny_setField_rec hz6 (by simp) λg7 WT e7=>?_)
 replace WT:IsZip g7 z ti to (rawInt g5.objs.size):=WT
 refine wpAny_setField_rec WT (by simp) λg8 Kh e8=>?_
 replace Kh:IsZip g8 z ti to (rawInt g5.objs.size):=Kh
 have up:∀c o,c≠z->g5.get? c=some o->g8.get? c=some o:=λc o c1 e=>e8.extBut _ _ c1 (e7.extBut _ _ c1 (Heap.get?_push_of_some _ e))
 have hT:IsPair g8 g5.objs.size x y:=e8.extBut _ _ (Nat.ne_of_gt zlt) (e7.extBut _ _ (Nat.ne_of_gt zlt) (Heap.get?_push_size _ rfl))
 have sz8:g8.objs.size=g5.objs.size + 1:=by rw[e8.1,e7.1,Heap.size_push]
 rw[hsz] at Kh hT sz8
 refine wpAny_pure ⟨_,rfl,?_⟩
 show Q (.ref g5.objs.size) _
 rw[hsz]
 exact q x y g8 _ px py Kh (up _ _ Z.a2 Ik) (D1.frame _ _ _ u1 λc hc o e=>up c o (λh=>Z.b1 (h ▸ hc)) e) (D2.frame _ _ _ u2 λc hc o e=>up c o (λh=>Z.c1 (h ▸ hc)) e) hT sz8 λc o c1 c2 c3 c4 e=>up c o c1 (k5 c o c1 c2 c3 c4 e)
theorem DU {Q:Fin->Shared->Prop}(Z:ZA z ti to i1 i2 f1 f2)(D1:Draws prog w A i1 f1 n1 P1 S1)(D2:Draws prog w A i2 f2 n2 P2 S2)(hz:IsZip s.heap z ti to .none)(MM:IsPair s.heap ti (.ref i1) (.ref i2))(MN:IsPair s.heap to a b)
  (s1:S1 k s.heap) (s2:S2 k s.heap) (l:k=n1\/(k < n1/\k=n2))
  (q:∀g e tk,(∀c o,c≠z->c≠to->c≠i1->c≠i2->s.heap.get? c=some o->g.get? c=some o)->(∃o,g.get? e=some o/\o.cls=.type "StopIteration")->E (.ref e) {s with heap:=g,toks:=tk}):
  wpAny (model prog w) A (Builtin.«zip.__next__» ⟨[.ref z],[]⟩) Q E s:=by
 refine wpAny_bind (m:=field (.ref z) 2) (wpAny_field hz rfl (x:=.bool false) rfl (wpAny_bind (m:=field (.ref z) 3) (wpAny_field hz rfl (x:=.ref ti) rfl ?_)))
 refine wpAny_bind (wpAny_seqItems MM rfl (wpAny_bind (m:=Builtin.SmallTypes.ownedTupleIsFree (.ref z)) ?_))
 unfold Builtin.SmallTypes.ownedTupleIsFree
 refine wpAny_bind (wpAny_field hz rfl (x:=.none) rfl (wpAny_pure ?_))
 simp only[if_true]
 refine wpAny_bind (wpAny_rule (wpAny_bind (wpAny_field hz rfl (x:=.ref to) rfl (wpAny_bind (wpAny_setField_rec hz (by simp) λg1 Cg e1=>?_)))))
 replace Cg:IsZip g1 z ti to .ellipsis:=Cg
 refine wpAny_bind ?_
 simp only[List.zipIdx_cons,List.zipIdx_nil,List.forIn_cons,List.forIn_nil]
 refine wpAny_bind (wpAny_bind (wpAny_onRaise (wpAny_bind (m:=Builtin.SmallTypes.nextOf (.ref i1)) ?_)))
 have OJ:=D1.frame _ _ _ s1 λc hc o e=>e1.extBut c o (λh=>Z.b1 (h ▸ hc)) e
 rcases l with l | ⟨l1,l2⟩
 ·subst l
  refine D1.done _ _ _ OJ λg2 x e2 ⟨ox,hx,cx⟩=>?_
  replace e2:Heap.ExtBut i1 g1 g2:=e2
  have zR:IsZip g2 z ti to .ellipsis:=e2 _ _ Z.a3.symm Cg
  have WU:x≠z:=λy=>by subst y;rw[zR] at hx;cases hx;simp at cx
  exact wpAny_setField_rec zR (by simp) λg3 _ e3=>q g3 x s.toks (λc o c1 _ c3 _ y=>e3.extBut _ _ c1 (e2 _ _ c3 (e1.extBut _ _ c1 y))) ⟨ox,e3.extBut _ _ WU hx,cx⟩
 ·subst l2
  refine D1.item k _ _ _ l1 OJ λx g2 tk2 px t1 e2=>wpAny_pure ?_
  replace e2:Heap.SameBut i1 g1 g2:=e2
  have DT:IsPair g2 to a b:=e2.extBut _ _ Z.a8 (e1.extBut _ _ Z.a2 MN)
  refine wpAny_bind (wpAny_seqItems DT rfl (wpAny_bind (wpAny_updateSeq_pair DT λg3 Ij e3=>wpAny_bind (wpAny_letGo (wpAny_pure ?_)))))
  replace e3:Heap.SameBut to g2 g3:=e3
  refine wpAny_bind (wpAny_bind (wpAny_onRaise (wpAny_bind (m:=Builtin.SmallTypes.nextOf (.ref i2)) ?_)))
  refine D2.done _ _ _ (D2.frame _ _ _ s2 λc hc o e=>e3.extBut c o (λh=>Z.c2 (h ▸ hc)) (e2.extBut c o (λh=>Z.c3 (h ▸ hc)) (e1.extBut c o (λh=>Z.c1 (h ▸ hc)) e))) λg4 x e4 ⟨ox,hx,cx⟩=>?_
  replace e4:Heap.ExtBut i2 g3 g4:=e4
  have hz4:IsZip g4 z ti to .ellipsis:=e4 _ _ Z.a4.symm (e3.extBut _ _ Z.a2.symm (e2.extBut _ _ Z.a3.symm Cg))
  have WU:x≠z:=λy=>by subst y;rw[hz4] at hx;cases hx;simp at cx
  exact wpAny_setField_rec hz4 (by simp) λg5 _ e5=>q g5 x tk2 (λc o c1 c2 c3 c4 y=>e5.extBut _ _ c1 (e4 _ _ c4 (e3.extBut _ _ c2 (e2.extBut _ _ c3 (e1.extBut _ _ c1 y))))) ⟨ox,e5.extBut _ _ WU hx,cx⟩
end
section
variable {prog:Program}{w:World}{A:Around}{E:Value->Shared->Prop}{s:Shared}{z ti to i1 i2:Addr}{f1 f2:List Addr}{n1 n2 k:Nat}{P1 P2:Nat->Value->Prop}{S1 S2:Nat->Heap->Prop}{a b:Value}
theorem sm (Z:ZA z ti to i1 i2 f1 f2)(D1:Draws prog w A.in1 i1 f1 n1 P1 S1)(D2:Draws prog w A.in1 i2 f2 n2 P2 S2)(hz:IsZip s.heap z ti to .none)(MM:IsPair s.heap ti (.ref i1) (.ref i2))(MN:IsPair s.heap to a b)
  (s1:S1 k s.heap) (s2:S2 k s.heap) (l1:k < n1) (l2:k < n2)
  (q:∀x y g tk,P1 k x->P2 k y->IsZip g z ti to (rawInt s.heap.objs.size)->IsPair g to x y->S1 (k + 1) g->S2 (k + 1) g->IsPair g s.heap.objs.size x y->g.objs.size=s.heap.objs.size + 1->
   (∀c o,c≠z->c≠to->c≠i1->c≠i2->s.heap.get? c=some o->g.get? c=some o)->Q (some (.ref s.heap.objs.size)) {s with heap:=g,toks:=tk}):
  wpAny (model prog w) A (pyNext (.ref z)) Q E s:=by
 have hT:s.TypeIs (.ref z) "zip":=⟨_,hz,rfl⟩
 unfold pyNext
 exact wpAny_bind (wpAny_attempt (wpAny_callSpecial?_slot (name:=Str.ofString "__next__") hT F.slot_zip_next (wpAny_call_entry F.slot_zip_next hT F.entry_zip_next
  (Bs Z D1 D2 hz MM MN s1 s2 l1 l2 λx y g tk p1 p2 a1 a2 a3 a4 a5 a6 a7=>wpAny_pure (q x y g tk p1 p2 a1 a2 a3 a4 a5 a6 a7)) (F.args_zip_next_1 _))))
theorem uQ (Z:ZA z ti to i1 i2 f1 f2)(D1:Draws prog w A.in1 i1 f1 n1 P1 S1)(D2:Draws prog w A.in1 i2 f2 n2 P2 S2)(hz:IsZip s.heap z ti to .none)(MM:IsPair s.heap ti (.ref i1) (.ref i2))(MN:IsPair s.heap to a b)
  (s1:S1 k s.heap) (s2:S2 k s.heap) (l:k=n1\/(k < n1/\k=n2))
  (q:∀g tk,(∀c o,c≠z->c≠to->c≠i1->c≠i2->s.heap.get? c=some o->g.get? c=some o)->Q none {s with heap:=g,toks:=tk}):wpAny (model prog w) A (pyNext (.ref z)) Q E s:=by
 have hT:s.TypeIs (.ref z) "zip":=⟨_,hz,rfl⟩
 unfold pyNext
 refine wpAny_bind (wpAny_attempt (wpAny_callSpecial?_slot (name:=Str.ofString "__next__") hT F.slot_zip_next (wpAny_call_entry F.slot_zip_next hT F.entry_zip_next
  (DU Z D1 D2 hz MM MN s1 s2 l λg e tk kk ⟨o,ho,hc⟩=>?_) (F.args_zip_next_1 _))))
 exact wpAny_bind (wpAny_isInstance (T:="StopIteration") (b:=true) ⟨o,ho,hc⟩ isSubtype_stop (wpAny_pure (q _ _ kk)))
end
def GX (b:Bool)(a:Addr):Obj:=if b=true then {cls:=.type "list_iterator",data:=.fields #[.ref a,.int 0 0]} else {cls:=.type "tuple_iterator",data:=.fields #[.ref a,.int 0 0]}
abbrev UU (h:Heap)(b:Bool)(l:Addr):Heap:=h.push (GX b l)
abbrev UW (h:Heap)(b c:Bool)(l m:Addr):Heap:=(UU h b l).push (GX c m)
abbrev UX (h:Heap)(b c:Bool)(l m:Addr):Heap:=(UW h b c l m).push {cls:=.type "tuple",data:=.seq #[.ref h.objs.size,.ref (UU h b l).objs.size]}
abbrev UY (h:Heap)(b c:Bool)(l m:Addr):Heap:=(UX h b c l m).push {cls:=.type "tuple",data:=.seq #[.none,.none]}
abbrev MO (h:Heap)(b c:Bool)(l m:Addr):Heap:=(UY h b c l m).push {cls:=.type "zip",data:=.fields #[.none,.bool false,.bool false,.ref (UW h b c l m).objs.size,.ref (UX h b c l m).objs.size]}
theorem Bt (b c:Bool)(l m:Addr)(xs ys:Array Value):
  Meets (Builtin.«zip.__new__» ⟨[.type "zip",.ref l,.ref m],[]⟩) (λ_ R s=>sk b s.heap l xs/\sk c s.heap m ys/\R (.ok (.ret (.ref (UY s.heap b c l m).objs.size))) {s with heap:=MO s.heap b c l m}):=
 .of_wp λprog w A R s h=>by
  obtain⟨hp,g,d,tk,os⟩:=s
  obtain⟨h1,h2,h⟩:=h
  have MP:=sub_zip
  cases b <;> cases c
  ·have L1:Heap.IsTuple (Shared.heap ⟨hp,g,d,tk,os⟩) l xs:=h1
   have L2:Heap.IsTuple (Shared.heap ⟨hp.push {cls:=.type "tuple_iterator",data:=.fields #[.ref l,.int 0 0]},g,d,tk,os⟩) m ys:=Heap.IsTuple.push h2 _
   wp_walk using wpAny_pyIter_tuple L1,wpAny_pyIter_tuple L2
   exact⟨_,rfl,h⟩
  ·have L1:Heap.IsTuple (Shared.heap ⟨hp,g,d,tk,os⟩) l xs:=h1
   have L2:Heap.IsList (Shared.heap ⟨hp.push {cls:=.type "tuple_iterator",data:=.fields #[.ref l,.int 0 0]},g,d,tk,os⟩) m ys:=Heap.IsList.push h2 _
   wp_walk using wpAny_pyIter_tuple L1,wpAny_pyIter_list L2
   exact⟨_,rfl,h⟩
  ·have L1:Heap.IsList (Shared.heap ⟨hp,g,d,tk,os⟩) l xs:=h1
   have L2:Heap.IsTuple (Shared.heap ⟨hp.push {cls:=.type "list_iterator",data:=.fields #[.ref l,.int 0 0]},g,d,tk,os⟩) m ys:=Heap.IsTuple.push h2 _
   wp_walk using wpAny_pyIter_list L1,wpAny_pyIter_tuple L2
   exact⟨_,rfl,h⟩
  ·have L1:Heap.IsList (Shared.heap ⟨hp,g,d,tk,os⟩) l xs:=h1
   have L2:Heap.IsList (Shared.heap ⟨hp.push {cls:=.type "list_iterator",data:=.fields #[.ref l,.int 0 0]},g,d,tk,os⟩) m ys:=Heap.IsList.push h2 _
   wp_walk using wpAny_pyIter_list L1,wpAny_pyIter_list L2
   exact⟨_,rfl,h⟩
theorem qK (b:Bool)(a:Addr):(GX b a).isFreed=false:=by cases b <;> rfl
theorem yn {b:Bool}{h:Heap}{j a:Addr}(e:h.get? j=some (GX b a)):oh b h j a 0:=by
 cases b
 ·exact⟨_,e,rfl,rfl⟩
 ·exact⟨_,e,rfl,rfl⟩
theorem DW {prog:Program}{w:World}{A:Around}{E:Value->Shared->Prop}{s:Shared}{b c:Bool}{l m:Addr}{xs ys:Array Value}{Q:Value->Shared->Prop}(h1:sk b s.heap l xs)(h2:sk c s.heap m ys)
  (q:∀g,IsZip g (s.heap.objs.size + 4) (s.heap.objs.size + 2) (s.heap.objs.size + 3) .none->IsPair g (s.heap.objs.size + 2) (.ref s.heap.objs.size) (.ref (s.heap.objs.size + 1))->
   IsPair g (s.heap.objs.size + 3) .none .none->oh b g s.heap.objs.size l 0->oh c g (s.heap.objs.size + 1) m 0->g.objs.size=s.heap.objs.size + 5->
   (∀d o,s.heap.get? d=some o->g.get? d=some o)->Q (.ref (s.heap.objs.size + 4)) {s with heap:=g}):
  wpAny (model prog w) A (call (.type "zip") [.ref l,.ref m]) Q E s:=by
 refine callType_new F.called_zip (by decide) (F.typeCall_zip_2 _ _) (F.newCall_zip_2 _ _) (λobj=>F.args_object_init_3 obj _ _) F.entry_zip_new (Bt b c l m xs ys) ⟨h1,h2,?_⟩
 have y1:(UU s.heap b l).objs.size=s.heap.objs.size + 1:=Heap.size_push ..
 have y2:(UW s.heap b c l m).objs.size=s.heap.objs.size + 2:=by rw[Heap.size_push,y1]
 have y3:(UX s.heap b c l m).objs.size=s.heap.objs.size + 3:=by rw[Heap.size_push,y2]
 have y4:(UY s.heap b c l m).objs.size=s.heap.objs.size + 4:=by rw[Heap.size_push,y3]
 have y5:(MO s.heap b c l m).objs.size=s.heap.objs.size + 5:=by rw[Heap.size_push,y4]
 have e5:(MO s.heap b c l m).get? (UY s.heap b c l m).objs.size=some _:=Heap.get?_push_size _ rfl
 have e4:(MO s.heap b c l m).get? (UX s.heap b c l m).objs.size=some _:=Heap.get?_push_of_some _ (Heap.get?_push_size _ rfl)
 have e3:(MO s.heap b c l m).get? (UW s.heap b c l m).objs.size=some _:=Heap.get?_push_of_some _ (Heap.get?_push_of_some _ (Heap.get?_push_size _ rfl))
 have e2:(MO s.heap b c l m).get? (UU s.heap b l).objs.size=some (GX c m):=Heap.get?_push_of_some _ (Heap.get?_push_of_some _ (Heap.get?_push_of_some _ (Heap.get?_push_size _ (qK ..))))
 have e1:(MO s.heap b c l m).get? s.heap.objs.size=some (GX b l):=Heap.get?_push_of_some _ (Heap.get?_push_of_some _ (Heap.get?_push_of_some _ (Heap.get?_push_of_some _ (Heap.get?_push_size _ (qK ..)))))
 show _/\_
 rw[y2,y3,y4] at e5
 rw[y1,y2] at e3
 rw[y3] at e4
 rw[y1] at e2
 rw[y4]
 exact⟨⟨_,e5,rfl⟩,q _ e5 e3 e4 (yn e1) (yn e2) y5 λd o x=>Heap.get?_push_of_some _ (Heap.get?_push_of_some _ (Heap.get?_push_of_some _ (Heap.get?_push_of_some _ (Heap.get?_push_of_some _ x))))⟩
theorem qL (l:Addr)(aO:Array Value):
  Meets (Builtin.«enumerate.__new__» ⟨[.type "enumerate",.ref l],[]⟩) (λ_ R s=>s.heap.IsTuple l aO/\
   R (.ok (.ret (.ref (s.heap.push (GX false l)).objs.size))) {s with heap:=(s.heap.push (GX false l)).push {cls:=.type "enumerate",data:=.fields #[.none,.bool false,.ref s.heap.objs.size,rawInt 0,.none,.none]}}):=
 .of_wp λprog w A R s h=>by
  obtain⟨hp,g,d,tk,os⟩:=s
  obtain⟨hl,h⟩:=h
  have MP:=sub_enumerate
  have L1:Heap.IsTuple (Shared.heap ⟨hp,g,d,tk,os⟩) l aO:=hl
  obtain⟨ob,eo,co,no,dob⟩:=id hl
  replace eo:hp.get? l=some ob:=eo
  wp_walk using AutoSeq1.wpAny_loadPart' eo
  refine wpAny_stack_any λst=>wpAny_pure ?_
  split
  ·rename_i c _ _ _ _ _
   cases(c == Value.type "enumerate")
   ·wp_walk using AutoSeq1.wpAny_loadPart' eo,wpAny_pyIter_tuple L1
    exact⟨_,rfl,h⟩
   ·wp_walk using AutoSeq1.wpAny_loadPart' eo,wpAny_pyIter_tuple L1
    exact⟨_,rfl,h⟩
  ·wp_walk using AutoSeq1.wpAny_loadPart' eo,wpAny_pyIter_tuple L1
   exact⟨_,rfl,h⟩
end PySem
namespace L2
open PySem PySem.Spec PyProof.Rows
section
variable {a:Addr}{xs:List V}
section
variable {X:Cx}{pins:List (Addr×Obj)}{σ:St}{H:Hp}{s:Shared}
theorem Inv.zS{t':Nat}{ch:List Addr}{h':Heap}(I:Inv X pins σ H s)(hf:∀b ∈ ch,nW X pins H b)(k:∀b o,b ∉ ch->s.heap.get? b=some o->h'.get? b=some o):Inv X pins σ H {s with heap:=h',toks:=t'}:=by
 have JT:∀b u,H b=some u->b ∉ ch:=λb u e z=>by rw[(hf b z).1] at e;cases e
 refine I.step (g':=s.gens) (d':=s.drawn) (ch:=ch) (λb hb=>?_) (λb o _ _ hc e _=>k b o hc e) (λb o _ _ hc e _=>⟨o.slots,k b o hc e⟩) (λ_ _ _ _ n=>n) (λb o hc e=>⟨o,k b o hc e⟩) (λ_ _ e=>e) (λ_ _ _ e=>e) (λb ps e=>⟨#[],by rw[e];simp⟩) (λm hm=>?_) (λb u e=>?_) I.bare
 ·obtain⟨f0,f1,f2,f3,f4,f5⟩:=hf b hb
  exact⟨f3,f1,f4,f5⟩
 ·obtain⟨o,es,ep,ho,r⟩:=hm
  exact⟨o,es,ep,k _ o (λz=>(hf _ z).2.1 rfl) ho,r⟩
 ·refine(I.bf b u e).aI (λc v hc q=>k c v ?_ q) (λ_ q=>q) λ_ _ q=>q
  rcases hc with z | z
  ·rw[z];exact JT b u e
  ·exact JT c _ z
theorem Inv.zT{t':Nat}{ch:List Addr}{h':Heap}{T:Addr}{aO:List Value}(I:Inv X pins σ H s)(hf:∀b ∈ ch,nW X pins H b)(k:∀b o,b ∉ ch->s.heap.get? b=some o->h'.get? b=some o)
  (hT:s.heap.objs.size<=T) (hv:Vals xs aO) (hz:xs.length<=sizeLine) (ht:IsTup h' T aO.toArray):Inv X pins σ (upd H T (.tup xs)) {s with heap:=h',toks:=t'}:=by
 have JT:∀b u,H b=some u->b ∉ ch:=λb u e z=>by rw[(hf b z).1] at e;cases e
 have Il:H T=none:=I.bf.fresh hT
 have nT:∀b o,s.heap.get? b=some o->b≠T:=λb o e=>Nat.ne_of_lt (Nat.lt_of_lt_of_le (Heap.lt_size e) hT)
 refine I.step (g':=s.gens) (d':=s.drawn) (ch:=ch) (λb hb=>?_) (λb o _ _ hc e _=>k b o hc e) (λb o _ _ hc e _=>⟨o.slots,k b o hc e⟩) (λb o _ e n=>by rw[ay (nT b o e)];exact n) (λb o hc e=>⟨o,k b o hc e⟩)
  (λb ys e=>by rw[ay (aq e Il)];exact e) (λb o u e=>by rw[ay (aq e Il)];exact e) (λb ps e=>⟨#[],by rw[ay (aq e Il),e];simp⟩) (λm hm=>?_) (λb u e=>?_) I.bare
 ·obtain⟨f0,f1,f2,f3,f4,f5⟩:=hf b hb
  exact⟨f3,f1,f4,f5⟩
 ·obtain⟨o,es,ep,ho,r⟩:=hm
  exact⟨o,es,ep,k _ o (λz=>(hf _ z).2.1 rfl) ho,r⟩
 ·by_cases hb:b=T
  ·subst hb
   rw[af] at e
   cases e
   exact⟨hz,aO,hv,ht⟩
  ·rw[ay hb] at e
   refine(I.bf b u e).aI (λc v hc q=>k c v ?_ q) (λc q=>by rw[ay (aq q Il)];exact q) λc ys q=>by rw[ay (aq q Il)];exact q
   rcases hc with z | z
   ·rw[z];exact JT b u e
   ·exact JT c _ z
def Sq (b:Bool)(K:W.Frag)(H:Hp)(a:Addr)(xs:List V):Prop:=if b=true then aP K H a xs else bJ K H a xs
theorem Sq.l{K:W.Frag}(h:H a=some (.lst xs)):Sq true K H a xs:=aP.of h
theorem Sq.t{K:W.Frag}(h:H a=some (.tup xs)):Sq false K H a xs:=bJ.of h
theorem Inv.sq(I:Inv X pins σ H s){b:Bool}{a:Addr}{xs:List V}(h:Sq b X.K H a xs):∃aO:List Value,Vals xs aO/\sk b s.heap a aO.toArray/\xs.length<=sizeLine:=by
 cases b
 ·exact I.tuple h
 ·obtain⟨aO,r,p,z⟩:=I.list h
  exact⟨aO,r,p.isList,z⟩
theorem Inv.yo(I:Inv X pins σ H s){b:Bool}{a:Addr}{xs ys:List V}(h:Sq b X.K H a xs)(h':Sq b X.K H a ys):xs=ys:=by
 cases b
 ·exact I.sY h h'
 ·exact I.vA h h'
theorem Ki {u:HO}{b:Addr}(h:Rd H a u)(hn:H b=none):a≠b:=λz=>by
 subst z
 rcases h with h | ⟨o,h⟩ <;> (rw[hn] at h;cases h)
theorem Inv.qM(I:Inv X pins σ H s){b:Bool}{a c:Addr}{xs:List V}(h:Sq b X.K H a xs)(hf:nW X pins H c):a≠c:=by
 have key:∀o,X.K.lookup a=some o->a≠c:=λo e z=>by
  subst z
  have e':=I.ok.mod.OA a o e
  rcases hf.2.2.2.1 with y | y
  ·exact I.ok.xK a o e' y
  ·exact absurd (Nat.lt_of_lt_of_le (Nat.lt_of_lt_of_le (Heap.lt_size e') I.ok.Ce) y) (Nat.lt_irrefl _)
 cases b
 ·rcases h with h | ⟨o,aO,n,hk,_⟩
  ·exact Ki h hf.1
  ·exact key o hk
 ·rcases h with h | ⟨o,aO,n,hk,_⟩
  ·exact Ki h hf.1
  ·exact key o hk
end
end
section
def Im (b:Bool)(K:W.Frag)(a:Addr):It:=
 ⟨λi H=>∃xs x,Sq b K H a xs/\xs[i]?=some x,λi H y H'=>∃T,H T=none/\y=.ref T/\∀xs,Sq b K H a xs->∃x,xs[i]?=some x/\H'=upd H T (.tup [.int i,x]),λi H=>∃xs,Sq b K H a xs/\xs.length=i⟩
def UZ (b c:Bool)(K:W.Frag)(a d:Addr):It:=
  ⟨λi H=>∃xs ys x y,Sq b K H a xs/\Sq c K H d ys/\xs[i]?=some x/\ys[i]?=some y,λi H v H'=>∃T,H T=none/\v=.ref T/\∀xs ys,Sq b K H a xs->Sq c K H d ys->∃x y,xs[i]?=some x/\ys[i]?=some y/\H'=upd H T (.tup [x,y]),
   λi H=>∃xs ys,Sq b K H a xs/\Sq c K H d ys/\(i=xs.length\/(i < xs.length/\i=ys.length))⟩
theorem vR {a b:V}:([a,b]:List V).length<=sizeLine:=by show 2<=sizeLine;decide
theorem uR {aO:List Value}{i:Nat}{u:Value}(h:aO[i]?=some u):i < aO.toArray.size:=by
 have:=(List.getElem?_eq_some_iff.mp h).1
 simpa using this
theorem Bu {P:Program}{w:World}{K:W.Frag}{es:List Expr}{kt:Nat}{tp:Pos}(b:Bool)(e j a:Addr)(WV:e≠j):
  Turn P w K (.Tuple es kt tp) (Im b K a) [e,j] e (λi h=>(∃old,IsEnum h e j i old)/\oh b h j a i) where
 mem:=by simp
 obj:=λi h st c hc=>by
  obtain⟨⟨old,he⟩,hj⟩:=st
  simp only[List.mem_cons,List.not_mem_nil,or_false] at hc
  rcases hc with rfl | rfl
  ·exact⟨_,he,λv z=>by
    have z':Data.fields _=Data.cell v:=z
    cases z'⟩
  ·exact hj.obj
 keep:=λi h h' st k=>by
  obtain⟨⟨old,he⟩,hj⟩:=st
  exact⟨⟨old,k e (by simp) _ he⟩,hj.at λo q=>k j (by simp) o q⟩
 item:=by
  intro X hP hw hK hc i pins s σ H E I hf st hg
  subst hP hw hK
  obtain⟨⟨old,he⟩,hj⟩:=st
  obtain⟨xs,x,hq,hx⟩:=hg
  obtain⟨aO,rv,p,hz⟩:=I.sq hq
  obtain⟨u,hu,ru⟩:=rv.get hx
  have QX:a≠e:=I.qM hq (hf e (by simp))
  have WW:a≠j:=I.qM hq (hf j (by simp))
  have D:=Draws.sq (prog:=X.prog) (w:=X.w) (A:=X.A.in1) (show X.A.in1.handled=none from I.ok.hd hc) b j a WW aO.toArray
  refine wpAny_pyNext_enum_itemD D he ⟨hj,p⟩ (uR hu) WV (by simp[WV,Ne.symm QX]) λy h1 tk py ho s1 hT sz kk=>?_
  have ey:y=u:=by
   have:aO.toArray[i]?=some u:=by simpa using hu
   exact Option.some.inj (py.symm.trans this)
  subst ey
  refine⟨_,rfl,wpAny_letOwnedTupleGo_enum ho λh2 he2 xC=>?_⟩
  have k2:∀c o,c ∉ [e,j]->s.heap.get? c=some o->h2.get? c=some o:=λc o QY q=>(xC.2 c λz=>QY (by simp[z])).trans (kk c o (λz=>QY (by simp[z])) (λz=>QY (by simp[z])) q)
  have hTe:s.heap.objs.size≠e:=Nat.ne_of_gt (Heap.lt_size he)
  have Io:IsTup h2 s.heap.objs.size ([.int i tk,y]:List Value).toArray:=⟨_,(xC.2 _ hTe).trans hT,rfl,_,rfl⟩
  have Il:H s.heap.objs.size=none:=I.bf.fresh (Nat.le_refl _)
  refine⟨.ref s.heap.objs.size,upd H s.heap.objs.size (.tup [.int i,x]),I.zT hf k2 (Nat.le_refl _) (.cons ⟨tk,rfl⟩ (.cons ru .nil)) vR Io,rfl,⟨_,Il,rfl,λys hy=>⟨x,by rw[I.yo hy hq];exact hx,rfl⟩⟩,⟨⟨y,?_⟩,?_⟩,λc Ih=>?_⟩
  ·simpa using he2
  ·exact s1.1.at λo q=>(xC.2 j (Ne.symm WV)).trans q
  ·have pS:c≠s.heap.objs.size:=by
    simp only[List.mem_cons,List.not_mem_nil,or_false] at Ih
    rcases Ih with rfl | rfl
    ·exact Ne.symm hTe
    ·obtain⟨o,mW,_⟩:=hj.obj
     exact Nat.ne_of_lt (Heap.lt_size mW)
   rw[ay pS]
   exact(hf c Ih).1
 done:=by
  intro X hP hw hK hc i pins s σ H E I hf st hg
  subst hP hw hK
  obtain⟨⟨old,he⟩,hj⟩:=st
  obtain⟨xs,hq,hx⟩:=hg
  obtain⟨aO,rv,p,hz⟩:=I.sq hq
  have WW:a≠j:=I.qM hq (hf j (by simp))
  have D:=Draws.sq (prog:=X.prog) (w:=X.w) (A:=X.A.in1) (show X.A.in1.handled=none from I.ok.hd hc) b j a WW aO.toArray
  have hl:aO.toArray.size=i:=by have:=rv.length;simp;omega
  refine wpAny_pyNext_enum_endD D he (by rw[hl];exact⟨hj,p⟩) λh' kk=>⟨rfl,I.zS (t':=s.toks) hf λc o QY q=>kk c o (λz=>QY (by simp[z])) q⟩
 self:=λ_ _ _ _ _ st h=>by
  obtain⟨⟨old,he⟩,hj⟩:=st
  exact wpAny_pyIter_enum he h
theorem Bv {prog:Program}{w:World}{A:Around}{E:Value->Shared->Prop}{s:Shared}{b:Bool}{l:Addr}{aO:Array Value}{Q:Value->Shared->Prop}(hL:sk b s.heap l aO)
  (q:∀g,IsEnum g (s.heap.objs.size + 1) s.heap.objs.size 0 .none->oh b g s.heap.objs.size l 0->g.objs.size=s.heap.objs.size + 2->(∀c o,s.heap.get? c=some o->g.get? c=some o)->Q (.ref (s.heap.objs.size + 1)) {s with heap:=g}):
  wpAny (model prog w) A (call (.type "enumerate") [.ref l]) Q E s:=by
 cases b
 ·refine callType_new F.called_enumerate (by decide) (F.typeCall_enumerate_1 _) (F.newCall_enumerate_1 _) (λobj=>F.args_object_init_2 obj _) F.entry_enumerate_new (qL l aO) ⟨hL,?_⟩
  have hz:(s.heap.push (GX false l)).objs.size=s.heap.objs.size + 1:=Heap.size_push ..
  show _/\_
  rw[hz]
  have he:=Heap.get?_push_size (s.heap.push (GX false l)) (o:={cls:=.type "enumerate",data:=.fields #[.none,.bool false,.ref s.heap.objs.size,rawInt 0,.none,.none]}) rfl
  rw[hz] at he
  refine⟨⟨_,he,rfl⟩,q _ he (yn (Heap.get?_push_of_some _ (Heap.get?_push_size _ (qK ..)))) (by rw[Heap.size_push,hz]) λc o x=>Heap.get?_push_of_some _ (Heap.get?_push_of_some _ x)⟩
 ·exact call_enumerate_list hL q
theorem DX {P:Program}{w:World}{K:W.Frag}{es:List Expr}{kt:Nat}{tp:Pos}(b c:Bool)(z ti to i1 i2 a d:Addr)(N:[z,ti,to,i1,i2].Nodup):
  Turn P w K (.Tuple es kt tp) (UZ b c K a d) [z,ti,to,i1,i2] z (λi h=>IsZip h z ti to .none/\IsPair h ti (.ref i1) (.ref i2)/\(∃u v,IsPair h to u v)/\oh b h i1 a i/\oh c h i2 d i) where
 mem:=by simp
 obj:=λi h st e he=>by
  obtain⟨g1,g2,⟨u,v,g3⟩,g4,g5⟩:=st
  simp only[List.mem_cons,List.not_mem_nil,or_false] at he
  rcases he with rfl | rfl | rfl | rfl | rfl
  ·exact⟨_,g1,λv z=>by
    have z':Data.fields _=Data.cell v:=z
    cases z'⟩
  ·exact⟨_,g2,λv z=>by
    have z':Data.seq _ _=Data.cell v:=z
    cases z'⟩
  ·exact⟨_,g3,λv z=>by
    have z':Data.seq _ _=Data.cell v:=z
    cases z'⟩
  ·exact g4.obj
  ·exact g5.obj
 keep:=λi h h' st k=>by
  obtain⟨g1,g2,⟨u,v,g3⟩,g4,g5⟩:=st
  exact⟨k z (by simp) _ g1,k ti (by simp) _ g2,⟨u,v,k to (by simp) _ g3⟩,g4.at λo q=>k i1 (by simp) o q,g5.at λo q=>k i2 (by simp) o q⟩
 item:=by
  intro X hP hw hK hc i pins s σ H E I hf st hg
  subst hP hw hK
  obtain⟨g1,g2,⟨u0,v0,g3⟩,g4,g5⟩:=st
  obtain⟨xs,ys,x,y,hq,hr,hx,hy⟩:=hg
  obtain⟨aO,rv,p,hz⟩:=I.sq hq
  obtain⟨QZ,rt,pt,hzt⟩:=I.sq hr
  obtain⟨u,hu,ru⟩:=rv.get hx
  obtain⟨v,hv,rv'⟩:=rt.get hy
  have na:∀e ∈ [z,ti,to,i1,i2],e≠a:=λe he=>Ne.symm (I.qM hq (hf e he))
  have nd:∀e ∈ [z,ti,to,i1,i2],e≠d:=λe he=>Ne.symm (I.qM hr (hf e he))
  simp only[List.nodup_cons,List.mem_cons,List.not_mem_nil,or_false,not_or,List.nodup_nil,not_false_eq_true,and_true] at N
  obtain⟨⟨n1,n2,n3,n4⟩,⟨n5,n6,n7⟩,⟨n8,n9⟩,MQ⟩:=N
  have hh:X.A.in1.handled=none:=I.ok.hd hc
  have D1:=Draws.sq (prog:=X.prog) (w:=X.w) (A:=X.A.in1) hh b i1 a (Ne.symm (na i1 (by simp))) aO.toArray
  have D2:=Draws.sq (prog:=X.prog) (w:=X.w) (A:=X.A.in1) hh c i2 d (Ne.symm (nd i2 (by simp))) QZ.toArray
  have Z:ZA z ti to i1 i2 [i1,a] [i2,d]:=⟨Ne.symm n1,Ne.symm n2,Ne.symm n3,Ne.symm n4,n5,n6,n7,n8,n9,MQ,by simp[n3,na],by simp[n8,na],by simp[Ne.symm MQ,na],by simp[n4,nd],by simp[n9,nd],by simp[MQ,nd]⟩
  refine sm Z D1 D2 g1 g2 g3 ⟨g4,p⟩ ⟨g5,pt⟩ (uR hu) (uR hv) λx' y' h1 tk px py Cg WX s1 s2 hT sz kk=>?_
  have ex:x'=u:=by
   have:aO.toArray[i]?=some u:=by simpa using hu
   exact Option.some.inj (px.symm.trans this)
  have ey:y'=v:=by
   have:QZ.toArray[i]?=some v:=by simpa using hv
   exact Option.some.inj (py.symm.trans this)
  subst ex ey
  refine⟨_,rfl,wpAny_letOwnedTupleGo_zip Cg λh2 zR xC=>?_⟩
  have k2:∀e o,e ∉ [z,ti,to,i1,i2]->s.heap.get? e=some o->h2.get? e=some o:=λe o he q=>
   (xC.2 e λw=>he (by simp[w])).trans (kk e o (λw=>he (by simp[w])) (λw=>he (by simp[w])) (λw=>he (by simp[w])) (λw=>he (by simp[w])) q)
  have hTz:s.heap.objs.size≠z:=Nat.ne_of_gt (Heap.lt_size g1)
  have Io:IsTup h2 s.heap.objs.size ([x',y']:List Value).toArray:=⟨_,(xC.2 _ hTz).trans hT,rfl,_,rfl⟩
  have Il:H s.heap.objs.size=none:=I.bf.fresh (Nat.le_refl _)
  refine⟨.ref s.heap.objs.size,upd H s.heap.objs.size (.tup [x,y]),I.zT hf k2 (Nat.le_refl _) (.cons ru (.cons rv' .nil)) vR Io,rfl,
   ⟨_,Il,rfl,λxs' vn Kj QA=>⟨x,y,by rw[I.yo Kj hq];exact hx,by rw[I.yo QA hr];exact hy,rfl⟩⟩,⟨zR,?_,⟨_,_,(xC.2 to (Ne.symm n2)).trans WX⟩,s1.1.at λo q=>(xC.2 i1 (Ne.symm n3)).trans q,s2.1.at λo q=>(xC.2 i2 (Ne.symm n4)).trans q⟩,λe he=>?_⟩
  ·exact(xC.2 ti (Ne.symm n1)).trans (kk ti _ (Ne.symm n1) n5 n6 n7 g2)
  ·have pS:e≠s.heap.objs.size:=by
    simp only[List.mem_cons,List.not_mem_nil,or_false] at he
    rcases he with rfl | rfl | rfl | rfl | rfl
    ·exact Ne.symm hTz
    ·exact Nat.ne_of_lt (Heap.lt_size g2)
    ·exact Nat.ne_of_lt (Heap.lt_size g3)
    ·obtain⟨o,mW,_⟩:=g4.obj
     exact Nat.ne_of_lt (Heap.lt_size mW)
    ·obtain⟨o,mW,_⟩:=g5.obj
     exact Nat.ne_of_lt (Heap.lt_size mW)
   rw[ay pS]
   exact(hf e he).1
 done:=by
  intro X hP hw hK hc i pins s σ H E I hf st hg
  subst hP hw hK
  obtain⟨g1,g2,⟨u0,v0,g3⟩,g4,g5⟩:=st
  obtain⟨xs,ys,hq,hr,hx⟩:=hg
  obtain⟨aO,rv,p,hz⟩:=I.sq hq
  obtain⟨QZ,rt,pt,hzt⟩:=I.sq hr
  have na:∀e ∈ [z,ti,to,i1,i2],e≠a:=λe he=>Ne.symm (I.qM hq (hf e he))
  have nd:∀e ∈ [z,ti,to,i1,i2],e≠d:=λe he=>Ne.symm (I.qM hr (hf e he))
  simp only[List.nodup_cons,List.mem_cons,List.not_mem_nil,or_false,not_or,List.nodup_nil,not_false_eq_true,and_true] at N
  obtain⟨⟨n1,n2,n3,n4⟩,⟨n5,n6,n7⟩,⟨n8,n9⟩,MQ⟩:=N
  have hh:X.A.in1.handled=none:=I.ok.hd hc
  have D1:=Draws.sq (prog:=X.prog) (w:=X.w) (A:=X.A.in1) hh b i1 a (Ne.symm (na i1 (by simp))) aO.toArray
  have D2:=Draws.sq (prog:=X.prog) (w:=X.w) (A:=X.A.in1) hh c i2 d (Ne.symm (nd i2 (by simp))) QZ.toArray
  have Z:ZA z ti to i1 i2 [i1,a] [i2,d]:=⟨Ne.symm n1,Ne.symm n2,Ne.symm n3,Ne.symm n4,n5,n6,n7,n8,n9,MQ,by simp[n3,na],by simp[n8,na],by simp[Ne.symm MQ,na],by simp[n4,nd],by simp[n9,nd],by simp[MQ,nd]⟩
  have l1:=rv.length
  have l2:=rt.length
  exact uQ Z D1 D2 g1 g2 g3 ⟨g4,p⟩ ⟨g5,pt⟩ (by simp only[List.size_toArray];omega) λh' tk kk=>⟨rfl,I.zS hf λe o he q=>kk e o (λw=>he (by simp[w])) (λw=>he (by simp[w])) (λw=>he (by simp[w])) (λw=>he (by simp[w])) q⟩
 self:=λ_ _ _ _ _ st h=>wpAny_pyIter_zip st.1 h
section
variable {X:Cx}
def DY (K:W.Frag)(ta:TA):TI:=λσ H R=>ta σ H λvs H1=>match vs with
 | [.ref a]=>∃b xs,Sq b K H1 a xs/\R (Im b K a) H1
 | _=>False
def MR (K:W.Frag)(ta:TA):TI:=λσ H R=>ta σ H λvs H1=>match vs with
 | [.ref a,.ref d]=>∃b c xs ys,Sq b K H1 a xs/\Sq c K H1 d ys/\R (UZ b c K a d) H1
 | _=>False
theorem jI {es:List Expr}{kt:Nat}{tp:Pos}{a:Expr}{ta:TA}{p pos:Pos}(hg:Gl X "enumerate")(hm:X.mg "enumerate"=none)(ha:PA X [a] ta)(hs:starEach [a] X.env=[(false,eval a X.env)]:=by rfl):
  PI X (.Tuple es kt tp) (.Call (.Name "enumerate" p) [a] [] pos) (DY X.K ta):=by
 refine⟨?_⟩
 intro pins s σ H R I h
 refine Call_ (nU I hg hm boot_enumerate (PyProof.Rows.callWith_type1 (dq (ha pos pins s σ H _ I h) λus s1 ⟨vs,H1,I1,r1,q1⟩=>?_) (by rw[hs];rfl) rfl))
 match vs,r1,q1 with
 | [.ref a],r1,q1=>
  obtain⟨b,xs,hq,q⟩:=q1
  cases r1 with
  | cons r rr=>
   cases rr
   cases r
   obtain⟨aO,rv,p,hz⟩:=I1.sq hq
   refine Bv p λg e1 e2 sz kk=>wpAny_pyIter_enum e1 ?_
   have I2:Inv X pins σ H1 {s1 with heap:=g}:=I1.kept (t':=s1.toks) kk
   refine⟨_,[s1.heap.objs.size + 1,s1.heap.objs.size],_,_,H1,rfl,I2,Bu b _ _ a (Nat.succ_ne_self _),⟨⟨_,e1⟩,e2⟩,λc hc=>?_,q⟩
   have JW:s1.heap.objs.size<=c:=by
    simp only[List.mem_cons,List.not_mem_nil,or_false] at hc
    rcases hc with rfl | rfl
    ·exact Nat.le_succ _
    ·exact Nat.le_refl _
   exact I1.CQ JW (I1.bf.fresh JW)
theorem DZ {es:List Expr}{kt:Nat}{tp:Pos}{a b:Expr}{ta:TA}{p pos:Pos}(hg:Gl X "zip")(hm:X.mg "zip"=none)(ha:PA X [a,b] ta)(hs:starEach [a,b] X.env=[(false,eval a X.env),(false,eval b X.env)]:=by rfl)(xC:starEach [b] X.env=[(false,eval b X.env)]:=by rfl):
  PI X (.Tuple es kt tp) (.Call (.Name "zip" p) [a,b] [] pos) (MR X.K ta):=by
 refine⟨?_⟩
 intro pins s σ H R I h
 refine Call_ (nU I hg hm boot_zip (PyProof.Rows.callWith_type1 (dq (ha pos pins s σ H _ I h) λus s1 ⟨vs,H1,I1,r1,q1⟩=>?_) (by rw[hs,xC]) (by rw[xC];rfl)))
 match vs,r1,q1 with
 | [.ref a,.ref d],r1,q1=>
  obtain⟨b,c,xs,ys,hq,hr,q⟩:=q1
  cases r1 with
  | cons r rr=>
   cases rr with
   | cons r' rr=>
    cases rr
    cases r
    cases r'
    obtain⟨aO,rv,p1,hz⟩:=I1.sq hq
    obtain⟨QZ,rt,p2,hzt⟩:=I1.sq hr
    refine DW p1 p2 λg e1 e2 e3 e4 e5 sz kk=>wpAny_pyIter_zip e1 ?_
    have I2:Inv X pins σ H1 {s1 with heap:=g}:=I1.kept (t':=s1.toks) kk
    refine⟨_,[s1.heap.objs.size + 4,s1.heap.objs.size + 2,s1.heap.objs.size + 3,s1.heap.objs.size,s1.heap.objs.size + 1],_,_,H1,rfl,I2,DX b c _ _ _ _ _ a d ?_,⟨e1,e2,⟨_,_,e3⟩,e4,e5⟩,λe he=>?_,q⟩
    ·simp
    ·have JW:s1.heap.objs.size<=e:=by
      simp only[List.mem_cons,List.not_mem_nil,or_false] at he
      rcases he with rfl | rfl | rfl | rfl | rfl
      ·exact Nat.le_add_right _ _
      ·exact Nat.le_add_right _ _
      ·exact Nat.le_add_right _ _
      ·exact Nat.le_refl _
      ·exact Nat.le_add_right _ _
     exact I1.CQ JW (I1.bf.fresh JW)
end
end
end L2
namespace HT
open PySem PyProof.Rows
section
variable {prog:Program}{w:World}{A:Around}{E:Value->Shared->Prop}{s:Shared}
theorem ng {t sl:Addr}{items:Array Value}{vl vu:Value}{lo hi:Option Int}{Q:Value->Shared->Prop}(ht:IsTup s.heap t items)(hs:s.heap.IsSliceOf sl vl vu .none)(pl:IsPart vl lo)(pu:IsPart vu hi)
  (hw:d9 items.size 0 lo=0/\d9 items.size items.size hi=items.size) (h:Q (.ref t) s):wpAny (model prog w) A (getItem (.ref t) (.ref sl)) Q E s:=by
 obtain⟨os,Mi,Qq,yc⟩:=id hs
 have Ws:s.TypeIs (.ref sl) "slice":=⟨os,Mi,Qq⟩
 unfold getItem
 try with_reducible refine wpAny_holding ?_
 first | refine wpAny_bind (wpAny_pure ?_) | skip
 refine wpAny_bind (wpAny_sequenceKey ht.typeIs (by decide) (wpAny_bind (wpAny_callSpecial?_slot (name:=Str.ofString "__getitem__") ht.typeIs PyProof.Rows.slot_tuple_getitem
  (wpAny_call_entry PyProof.Rows.slot_tuple_getitem ht.typeIs entry_tuple_getitem ?_ (args_tuple_getitem _ _)))))
 refine wpAny_bind (m:=Builtin.Tuple.tupleItemsOf (.ref t)) (tupleItemsOf_ ht (wpAny_bind (wpAny_typeOf Ws ?_)))
 rw[if_pos (by decide)]
 refine wpAny_bind (ju hs pl pu ?_)
 have WZ:(((d9 items.size 0 lo:Nat):Int) == 0 && (1:Int) == 1 && (d9 items.size items.size hi - d9 items.size 0 lo) == items.size)=true:=by
  rw[hw.1,hw.2]
  simp
 show wpAny _ _ (if (((d9 items.size 0 lo:Nat):Int) == 0 && (1:Int) == 1 && (d9 items.size items.size hi - d9 items.size 0 lo) == items.size)=true then _ else _) _ _ s
 rw[if_pos WZ]
 refine wpAny_bind (m:=Builtin.Tuple.tupleIsExact (.ref t)) ?_
 unfold Builtin.Tuple.tupleIsExact
 refine wpAny_bind (wpAny_typeOf ht.typeIs (wpAny_pure ?_))
 rw[if_pos (by decide)]
 exact wpAny_bind (wpAny_rule (wpAny_pure ⟨_,rfl,wpAny_pure h⟩))
end
end HT
namespace L2
open PySem PySem.Spec PyProof.Rows
section
variable {p:Addr}{H:Hp}{Q:VK}{K:W.Frag}
section
variable {X:Cx}
def W0:V->Option Int->Option Int->Hp->VK->Prop:=λx lo hi H Q=>match x with
 | .ref a=>(∃xs,H a=some (.lst xs)/\∀p,H p=none->Q (.ref p) (upd H p (.lst (cI xs lo hi))))\/(∃xs,H a=some (.tup xs)/\∀p H',av H H'->H' p=some (.tup (cI xs lo hi))->Q (.ref p) H')
 | _=>False
theorem Kk {a:Addr}{lo hi:Option Int}:W0 (.ref a) lo hi H Q=((∃xs,H a=some (.lst xs)/\∀p,H p=none->Q (.ref p) (upd H p (.lst (cI xs lo hi))))\/(∃xs,H a=some (.tup xs)/\∀p H',av H H'->H' p=some (.tup (cI xs lo hi))->Q (.ref p) H')):=rfl
theorem W2:Qr X W0:=by
 intro pins s σ H x v vl vu lo hi sl Q I rx hs pl pu h
 cases x <;> first
  | exact(show False from h).elim
  | skip
 rename_i a
 rcases h with⟨xs,hx,q⟩ | ⟨xs,hx,q⟩
 ·exact zE pins s σ H _ v vl vu lo hi sl Q I rx hs pl pu ⟨a,xs,rfl,aP.of hx,q⟩
 ·by_cases hw:HT.d9 xs.length 0 lo=0/\HT.d9 xs.length xs.length hi=xs.length
  ·cases rx
   obtain⟨aO,r,ht,hz⟩:=I.tuple (bJ.of hx)
   have hlen:aO.toArray.size=xs.length:=by rw[List.size_toArray];exact r.length.symm
   refine⟨"tuple",_,PyProof.Rows.slot_tuple_getitem.lookup,ht.typeIs,HT.ng ht hs pl pu (by rw[hlen];exact hw) ⟨.ref a,H,I,rfl,q a H (av.refl H) ?_⟩⟩
   have e:cI xs lo hi=xs:=by
    unfold cI
    rw[hw.1,hw.2]
    simp
   rw[e];exact hx
  ·exact Mj pins s σ H _ v vl vu lo hi sl Q I rx hs pl pu ⟨a,xs,rfl,bJ.of hx,hw,λp hp=>q p _ (av.new _ hp) af⟩
theorem jJ {e:Expr}{te:TE}{lo hi:Option Expr}{tl th:TO}{pos p2:Pos}(he:PE X e te)(hl:PO X lo tl)(hu:PO X hi th):PE X (.Subscript e (.Slice lo hi none p2) pos) (Qs W0 te tl th):=vE W2 he hl hu
def U0:R2:=λx y H Q=>match x,y with
 | .int i,.int j=>Q (.int (i + j)) H
 | .str i,.str j=>i.length + j.length<=sizeLine/\Q (.str (i++j)) H
 | .ref a,.ref b=>(∃xs zs,H a=some (.lst xs)/\H b=some (.lst zs)/\xs.length + zs.length<=sizeLine/\∀p,H p=none->Q (.ref p) (upd H p (.lst (xs++zs))))\/
   (∃xs zs,H a=some (.tup xs)/\H b=some (.tup zs)/\xs.length + zs.length<=sizeLine/\∀p H',av H H'->H' p=some (.tup (xs++zs))->Q (.ref p) H')
 | _,_=>False
theorem D0 {i j:Int}:U0 (.int i) (.int j) H Q=Q (.int (i + j)) H:=rfl
theorem D7 {i j:Str}:U0 (.str i) (.str j) H Q=(i.length + j.length<=sizeLine/\Q (.str (i++j)) H):=rfl
theorem D8 {a b:Addr}:U0 (.ref a) (.ref b) H Q=((∃xs zs,H a=some (.lst xs)/\H b=some (.lst zs)/\xs.length + zs.length<=sizeLine/\∀p,H p=none->Q (.ref p) (upd H p (.lst (xs++zs))))\/
      (∃xs zs,H a=some (.tup xs)/\H b=some (.tup zs)/\xs.length + zs.length<=sizeLine/\∀p H',av H H'->H' p=some (.tup (xs++zs))->Q (.ref p) H')):=rfl
theorem da:gA X (binaryOp .Add) U0:=by
 intro pins s σ H x y v u Q I rx ry h
 cases x <;> cases y <;> first
  | exact(show False from h).elim
  | exact L5 pins s σ H _ _ v u Q I rx ry ⟨_,_,rfl,rfl,h⟩
  | exact xV pins s σ H _ _ v u Q I rx ry ⟨_,_,rfl,rfl,h.1,h.2⟩
  | skip
 rename_i a b
 rcases h with⟨xs,zs,h1,h2,h3,h4⟩ | ⟨xs,zs,h1,h2,h3,h4⟩
 ·exact Mt pins s σ H _ _ v u Q I rx ry ⟨_,_,xs,zs,rfl,rfl,h1,h2,h3,h4⟩
 ·by_cases hx:xs=[]
  ·subst hx
   cases rx
   cases ry
   obtain⟨aO,r1,p1,_⟩:=I.tuple (bJ.of h1)
   obtain⟨cj,r2,p2,_⟩:=I.tuple (bJ.of h2)
   cases r1
   obtain⟨⟨cls,dd,data,sl⟩,ho,hc,n,hd⟩:=id p1
   obtain⟨⟨Wr,UK,data2,UL⟩,Mg,J3,n2,hd2⟩:=id p2
   simp only at hc hd J3 hd2
   subst hc hd J3 hd2
   exact concat_meets ⟨_,ho,rfl⟩ ⟨_,Mg,rfl⟩ noFill_tuple_add seq_tuple_add PySem.F.slot_tuple_add PySem.F.entry_tuple_add (PySem.F.args_tuple_add_2 _ _)
    (tuple_addW0 a b _ _ n n2 dd UK sl UL (by simp)) ⟨ho,Mg,⟨.ref b,H,I,rfl,h4 b H (av.refl H) (by simpa using h2)⟩⟩
  ·refine HR pins s σ H _ _ v u Q I rx ry ⟨_,_,xs,zs,rfl,rfl,bJ.of h1,bJ.of h2,hx,h3,λz=>?_,λ_ p hp=>h4 p _ (av.new _ hp) af⟩
   subst z
   exact h4 a H (av.refl H) (by simpa using h1)
def Q0 (K:W.Frag):List V->Hp->VK->Prop:=λxs H Q=>match xs with
 | [.ref p]=>∃bs:List Bool,aP K H p (bs.map V.bl)/\Q (.bl (bs.all id)) H
 | _=>False
theorem Ea:Q0 K [.ref p] H Q=∃bs:List Bool,aP K H p (bs.map V.bl)/\Q (.bl (bs.all id)) H:=rfl
def Q1 (K:W.Frag):List V->Hp->VK->Prop:=λxs H Q=>match xs with
 | [.ref p]=>∃bs:List Bool,aP K H p (bs.map V.bl)/\Q (.bl (bs.any id)) H
 | _=>False
theorem Eb:Q1 K [.ref p] H Q=∃bs:List Bool,aP K H p (bs.map V.bl)/\Q (.bl (bs.any id)) H:=rfl
theorem uS:∀{bs:List Bool} {us:List Value},Vals (bs.map V.bl) us->us=bs.map Value.bool
 | [],_,.nil=>rfl
 | b::bs,_,.cons r t=>by
  cases r
  rw[uS t];rfl
theorem all_range:∀(bs:List Bool),((List.range bs.length).all λi=>bs.getD i false)=bs.all id:=by
 intro bs
 induction bs with
 | nil=>rfl
 | cons b r ih=>
  rw[List.length_cons,List.range_succ_eq_map,List.all_cons,List.all_map,List.all_cons]
  have:((λi=>(b::r).getD i false) ∘ Nat.succ)=λi=>r.getD i false:=by funext i;simp
  rw[this,ih];rfl
theorem any_range:∀(bs:List Bool),((List.range bs.length).any λi=>bs.getD i false)=bs.any id:=by
 intro bs
 induction bs with
 | nil=>rfl
 | cons b r ih=>
  rw[List.length_cons,List.range_succ_eq_map,List.any_cons,List.any_map,List.any_cons]
  have:((λi=>(b::r).getD i false) ∘ Nat.succ)=λi=>r.getD i false:=by funext i;simp
  rw[this,ih];rfl
theorem vS {prog:Program}{w:World}{A:Around}{bs:List Bool}:TruthOf prog w A (λi v=>(bs.map Value.bool).toArray[i]?=some v) (λi=>bs.getD i false):=by
 intro i v s Q E hp hq
 have GY:(bs.map Value.bool)[i]?=some v:=by simpa using hp
 rw[List.getElem?_map] at GY
 cases hb:bs[i]? with
 | none=>rw[hb] at GY;cases GY
 | some b=>
  rw[hb] at GY
  cases GY
  have:bs.getD i false=b:=by rw[List.getD_eq_getElem?_getD,hb];rfl
  replace hq:Q (bs.getD i false) s:=hq
  rw[this] at hq
  exact wpAny_truthy_bool hq
theorem gY (hc:X.calm=true):fg X (.builtin "all") (Q0 X.K):=by
 intro pins s σ H xs us Q I r h
 match xs,r,h with
 | [.ref p],r,h=>
  obtain⟨bs,hq,q⟩:=h
  obtain⟨u,rfl,ru⟩:=Vals.one r
  cases ru
  obtain⟨aO,rv,pl,hz⟩:=I.list hq
  have e:=uS rv
  subst e
  refine call_all_walk (wpAny_pyIter_list pl.isList ⟨s.heap.objs.size,_,_,_,_,_,λi=>bs.getD i false,rfl,Walks.list (show X.A.in1.handled=none from I.ok.hd hc) _ p ?_ (bs.map Value.bool).toArray,⟨⟨_,Heap.get?_push_size _ rfl,rfl,rfl⟩,pl.isList.push _⟩,vS,λh' tk kk=>?_⟩)
  ·obtain⟨o,e,_⟩:=pl.isList
   exact Nat.ne_of_lt (Heap.lt_size e)
  ·have:(bs.map Value.bool).toArray.size=bs.length:=by simp
   rw[this,all_range]
   exact⟨.bl _,H,I.kept λb o e=>kk b o (by simp[Nat.ne_of_lt (Heap.lt_size e)]) (Heap.get?_push_of_some _ e),rfl,q⟩
theorem lA (hc:X.calm=true):fg X (.builtin "any") (Q1 X.K):=by
 intro pins s σ H xs us Q I r h
 match xs,r,h with
 | [.ref p],r,h=>
  obtain⟨bs,hq,q⟩:=h
  obtain⟨u,rfl,ru⟩:=Vals.one r
  cases ru
  obtain⟨aO,rv,pl,hz⟩:=I.list hq
  have e:=uS rv
  subst e
  refine call_any_walk (wpAny_pyIter_list pl.isList ⟨s.heap.objs.size,_,_,_,_,_,λi=>bs.getD i false,rfl,Walks.list (show X.A.in1.handled=none from I.ok.hd hc) _ p ?_ (bs.map Value.bool).toArray,⟨⟨_,Heap.get?_push_size _ rfl,rfl,rfl⟩,pl.isList.push _⟩,vS,λh' tk kk=>?_⟩)
  ·obtain⟨o,e,_⟩:=pl.isList
   exact Nat.ne_of_lt (Heap.lt_size e)
  ·have:(bs.map Value.bool).toArray.size=bs.length:=by simp
   rw[this,any_range]
   exact⟨.bl _,H,I.kept λb o e=>kk b o (by simp[Nat.ne_of_lt (Heap.lt_size e)]) (Heap.get?_push_of_some _ e),rfl,q⟩
def Q2:List V->Hp->VK->Prop:=λxs H Q=>match xs with
 | [.ref p]=>(H p=some (.tup [])/\Q (.int 0) H)\/(∃i:Int,H p=some (.tup [.int i])/\-(2 ^ 63)<=i/\i < 2 ^ 63/\Q (.int i) H)
 | _=>False
theorem zU:Q2 [.ref p] H Q=((H p=some (.tup [])/\Q (.int 0) H)\/(∃i:Int,H p=some (.tup [.int i])/\-(2 ^ 63)<=i/\i < 2 ^ 63/\Q (.int i) H)):=rfl
def vT:List V->Option (List Value)
 | []=>some []
 | .ty n::r=>(vT r).map (.type n::·)
 | _=>none
theorem vU:∀{xs:List V} {us ts:List Value},Vals xs us->vT xs=some ts->us=ts
  | [],_,_,.nil,h=>by cases h;rfl
  | x::xs,_,ts,.cons r t,h=>by
    cases x <;> first
      | cases h
      | (rename_i n
         unfold vT at h
         obtain⟨ts',h1,h2⟩:=Option.map_eq_some_iff.mp h
         cases r
         rw[<-h2,vU t h1])
def Ip (K:W.Frag):List V->Hp->VK->Prop:=λxs H Q=>match xs with
 | [x,.ty n]=>∃t b,fV K H x t/\W.kitOne K t (.type n)=some b/\Q (.bl b) H
 | [x,.ref p]=>∃t b zs ts,fV K H x t/\H p=some (.tup zs)/\vT zs=some ts/\W.kitAny K t ts=some b/\Q (.bl b) H
 | _=>False
theorem Ec {x:V}{n:String}:Ip K [x,.ty n] H Q=∃t b,fV K H x t/\W.kitOne K t (.type n)=some b/\Q (.bl b) H:=rfl
theorem Ed {x:V}:Ip K [x,.ref p] H Q=∃t b zs ts,fV K H x t/\H p=some (.tup zs)/\vT zs=some ts/\W.kitAny K t ts=some b/\Q (.bl b) H:=rfl
theorem yp {x:V}{u t:Value}{pins:List (Addr×Obj)}{σ:St}{H:Hp}{s:Shared}{A:Around}{E:Value->Shared->Prop}{Q:Value->Shared->Prop}{b:Bool}{tp:Addr}{ts:List Value}(I:Inv X pins σ H s)(rx:RelV x u)(ty:fV X.K H x t)
  (ht:IsTup s.heap tp ts.toArray) (e:W.kitAny X.K t ts=some b) (h:∀tk,Q (.bool b) {s with toks:=tk}):wpAny (model X.prog X.w) A (call (.builtin "isinstance") [u,.ref tp]) Q E s:=by
 obtain⟨⟨cls,dd,data,sl⟩,ho,hc,n,hd⟩:=id ht
 simp only at hc hd
 subst hc hd
 cases ty with
 | bR=>cases(show u=Value.none from rx);exact W.kia_tup W.kitx_none I.jF True.intro ho e (λz=>nomatch z) h
 | bl y=>cases(show u=Value.bool y from rx);exact W.kia_tup W.kitx_bool I.jF True.intro ho e (λz=>nomatch z) h
 | int i=>obtain⟨t,q⟩:=(show ∃t,u=Value.int i t from rx);cases q;exact W.kia_tup W.kitx_int I.jF True.intro ho e (λz=>nomatch z) h
 | str y=>obtain⟨t,q⟩:=(show ∃t,u=Value.str y t from rx);cases q;exact W.kia_tup W.kitx_str I.jF True.intro ho e (λz=>nomatch z) h
 | CA y=>obtain⟨t,q⟩:=(show ∃t,u=Value.float y t from rx);cases q;exact W.kia_tup W.kitx_float I.jF True.intro ho e (λz=>nomatch z) h
 | @lst a xs ea=>
  cases(show u=Value.ref a from rx)
  obtain⟨_,_,n,_,h1⟩:=(show cR X.prog X.w H s.heap a (.lst xs) from I.bf a _ ea)
  exact W.kia_tup W.kitx_list I.jF ⟨_,h1,rfl⟩ ho e (λz=>nomatch z) h
 | @xA a ob xs ea=>
  cases(show u=Value.ref a from rx)
  obtain⟨_,_,_,n,_,h1⟩:=(show cR X.prog X.w H s.heap a (.xA ob (.lst xs)) from I.bf a _ ea)
  exact W.kia_tup W.kitx_list I.jF ⟨_,h1,rfl⟩ ho e (λz=>nomatch z) h
 | @tup a xs ea=>
  cases(show u=Value.ref a from rx)
  obtain⟨_,_,_,p⟩:=(show cR X.prog X.w H s.heap a (.tup xs) from I.bf a _ ea)
  obtain⟨o,h1,h2,_⟩:=p
  exact W.kia_tup W.kitx_tuple I.jF ⟨o,h1,h2⟩ ho e (λz=>nomatch z) h
 | @dK a bc ea=>
  cases(show u=Value.ref a from rx)
  obtain⟨_,_,vs,_,p⟩:=(show cR X.prog X.w H s.heap a (.dK bc) from I.bf a _ ea)
  obtain⟨o,es,ep,h1,h2,_⟩:=p
  exact W.kia_tup W.kitx_dict I.jF ⟨o,h1,h2.1⟩ ho e (λz=>nomatch z) h
 | @dT a bc ea=>
  cases(show u=Value.ref a from rx)
  obtain⟨_,_,xs,_,o,es,ep,h1,h2,_⟩:=(show cR X.prog X.w H s.heap a (.dT bc) from I.bf a _ ea)
  exact W.kia_tup W.kitx_dict I.jF ⟨o,h1,h2.1⟩ ho e (λz=>nomatch z) h
 | @ins a C dx fs ea cl ha hn UJ hm=>
  cases(show u=Value.ref a from rx)
  obtain⟨mA,O,_⟩:=mZ I.bf ea
  obtain⟨od,J,_⟩:=O.look
  exact W.kia_tup (W.kitx_own (cl.get _) cl.hd ha hn UJ hm) I.jF J ho e (λz=>nomatch z) h
theorem cw:fg X (.builtin "isinstance") (Ip X.K):=by
 intro pins s σ H xs us Q I r h
 match xs,r,h with
 | [x,.ty n],r,h=>
  obtain⟨t,b,ty,e,q⟩:=h
  obtain⟨u,w',rfl,rx,rn⟩:=vals2 r
  cases rn
  exact tf I rx ty e λtk=>⟨.bl b,H,I.tok _,rfl,q⟩
 | [x,.ref p],r,h=>
  obtain⟨t,b,zs,ts,ty,hp,hts,e,q⟩:=h
  obtain⟨u,w',rfl,rx,rn⟩:=vals2 r
  cases rn
  obtain⟨aO,rv,pl,hz⟩:=I.tuple (bJ.of hp)
  have e2:=vU rv hts
  subst e2
  exact yp I rx ty pl e λtk=>⟨.bl b,H,I.tok _,rfl,q⟩
end
end
section
variable {a:Addr}{H:Hp}{D:List (Str×V)}{Q:VK}
section
variable {X:Cx}
def Q3:V->List V->Hp->VK->Prop:=λx vs H Q=>match x,vs with
 | .ref l,[y]=>∃xs,H l=some (.lst xs)/\xs.length < sizeLine/\Q .bR (upd H l (.lst (xs++[y])))
 | _,_=>False
theorem Ee {l:Addr}{y:V}:Q3 (.ref l) [y] H Q=∃xs,H l=some (.lst xs)/\xs.length < sizeLine/\Q .bR (upd H l (.lst (xs++[y]))):=rfl
theorem bV:Qv X "list.append" Q3:=by
 intro pins s σ H x vs v us Q I rx rv h
 match x,vs,rv,h with
 | .ref l,[y],rv,⟨xs,h1,h2,h3⟩=>exact tD pins s σ H _ _ v us Q I rx rv ⟨l,xs,y,rfl,rfl,h1,h2,h3⟩
def Q4:V->List V->Hp->VK->Prop:=λx vs H Q=>match x,vs with
 | .ref l,[.ref b]=>∃xs zs,H l=some (.lst xs)/\H b=some (.lst zs)/\xs.length + zs.length<=sizeLine/\Q .bR (upd H l (.lst (xs++zs)))
 | _,_=>False
theorem Ef {l b:Addr}:Q4 (.ref l) [.ref b] H Q=∃xs zs,H l=some (.lst xs)/\H b=some (.lst zs)/\xs.length + zs.length<=sizeLine/\Q .bR (upd H l (.lst (xs++zs))):=rfl
theorem Iq:Qv X "list.extend" Q4:=by
 intro pins s σ H x vs v us Q I rx rv h
 match x,vs,rv,h with
 | .ref l,[.ref b],rv,⟨xs,zs,h1,h2,h3,h4⟩=>exact Bj pins s σ H _ _ v us Q I rx rv ⟨l,b,xs,zs,rfl,rfl,h1,h2,h3,h4⟩
def W3:V->List V->Hp->VK->Prop:=λx vs H Q=>match x,vs with
 | .ref l,[]=>∃xs,H l=some (.lst xs)/\Q .bR (upd H l (.lst []))
 | _,_=>False
theorem Eg {l:Addr}:W3 (.ref l) [] H Q=∃xs,H l=some (.lst xs)/\Q .bR (upd H l (.lst [])):=rfl
def W4:V->List V->Hp->VK->Prop:=λx vs H Q=>match x,vs with
 | .ref l,[.int 0,y]=>∃xs,H l=some (.lst xs)/\xs.length < sizeLine/\Q .bR (upd H l (.lst (y::xs)))
 | _,_=>False
theorem Eh {l:Addr}{y:V}:W4 (.ref l) [.int 0,y] H Q=∃xs,H l=some (.lst xs)/\xs.length < sizeLine/\Q .bR (upd H l (.lst (y::xs))):=rfl
def Q5:V->List V->Hp->VK->Prop:=λx vs H Q=>match x,vs with
 | .ref l,[.int 0]=>∃y xs,H l=some (.lst (y::xs))/\Q y (upd H l (.lst xs))
 | _,_=>False
theorem zV {l:Addr}:Q5 (.ref l) [.int 0] H Q=∃y xs,H l=some (.lst (y::xs))/\Q y (upd H l (.lst xs)):=rfl
def Ei (to ti:TE):TS:=λD σ H=>to σ H λx H1=>ti σ H1 λy H2=>∃l i xs k,x=.ref l/\y=.int i/\H2 l=some (.lst xs)/\-(2 ^ 63)<=i/\i < 2 ^ 63/\seqIndex? i xs.length=some k/\D.nx σ (upd H2 l (.lst (xs.eraseIdx k)))
theorem Ir {o i:Expr}{to ti:TE}{Mc pos:Pos}(ho:PE X o to)(hi:PE X i ti):PS X (.Delete [.Subscript o i Mc] pos) (Ei to ti):=by
 walk_at "xd"
 refine wpAny_Delete (wpAny_deleteEach_cons (wpAny_delete_Subscript (dq (ho pins s σ H _ I h) λu s1 ⟨x,H1,I1,rx,q1⟩=>dq (hi pins s1 σ H1 _ I1 q1) λiv s2 ⟨y,H2,I2,ry,l,i,xs,k,ex,ey,hl,h1,h2,hk,q2⟩=>?_)))
 subst ex ey
 obtain rfl:u=Value.ref l:=rx
 obtain⟨t,rfl⟩:=ry
 exact Dn I2 hl h1 h2 hk λs' I'=>wpAny_deleteEach_nil ⟨σ,_,I',q2⟩
structure CD (K:W.Frag)(a:Addr)(D:List (Str×V)):Prop where
 ex:∃o es ep,K.lookup a=some o/\o.ExactDict/\o.data=.dict es ep/\KTD.Rows RelV es.toList D
 ne:(a == sysModules)=false
theorem MT {prog:Program}{w:World}{A:Around}{E:Value->Shared->Prop}{s:Shared}{o:Obj}{es:Array DictEntry}{ep:Nat}{k:Str}{tk:Tok}{Q:Option Value->Shared->Prop}(ho:s.heap.get? a=some o)(hd:o.data=.dict es ep)(hr:KTD.Rows RelV es.toList D)
  (h1:∀d v,KTD.datumAt k D=some d->RelV d v->Q (some v) {s with toks:=s.toks + 1}) (h2:KTD.datumAt k D=none->Q none {s with toks:=s.toks + 1}):wpAny (model prog w) A (dictGet a (.str k tk)) Q E s:=by
 unfold dictGet
 try with_reducible refine wpAny_holding ?_
 refine wpAny_bind (wpAny_pyHash_str (wpAny_bind (KTD.kt_dictFind_strs (s:={s with toks:=s.toks + 1}) ho hd (by obtain⟨l⟩:=es;simpa using hr.exact) ?_)))
 have hq:Q (findBy (λk v=>v.isStr k) es k) {s with toks:=s.toks + 1}:=by
  have hf:findBy (λk v=>v.isStr k) es k=(es.toList.find? λe=>e.key.isStr k).map (·.val):=by
   obtain⟨l⟩:=es
   simp[findBy]
  rw[hf]
  cases MU:KTD.datumAt k D with
  | some d=>
   obtain⟨v,hv,hfl⟩:=hr.find_some MU
   rw[hv]
   exact h1 d v MU hfl
  | none=>rw[hr.find_none MU];exact h2 MU
 rw[findBy_of_findIdx?] at hq
 cases hi:es.findIdx? λe=>e.key.isStr k with
 | none=>rw[hi] at hq;exact wpAny_pure hq
 | some i=>rw[hi] at hq;exact wpAny_bind (wpAny_dictEntries (s:={s with toks:=s.toks + 1}) ho hd (wpAny_pure hq))
theorem yq {prog:Program}{w:World}{o:Obj}{es:Array DictEntry}{ep:Nat}{k:Str}{tk:Tok}(hd:o.data=.dict es ep)(hr:KTD.Rows RelV es.toList D)(pS:(a == sysModules)=false):
  MeetsIn prog w (Builtin.«dict.get» ⟨[.ref a,.str k tk],[]⟩) (λ_ R s=>s.heap.get? a=some o/\(∀d v,KTD.datumAt k D=some d->RelV d v->R (.ok (.ret v)) {s with toks:=s.toks + 1})/\(KTD.datumAt k D=none->R (.ok (.ret .none)) {s with toks:=s.toks + 1})):=
 .of_wp λA R s ⟨T,h1,h2⟩=>by
  show wpAny _ _ (dictGet a (.str k tk) >>= _) _ _ s
  refine wpAny_bind (MT T hd hr (λd v ha hv=>wpAny_pure ⟨v,rfl,h1 d v ha hv⟩) λhn=>?_)
  show wpAny _ _ (Builtin.Dict.missed a (.str k tk) >>= _) _ _ _
  exact wpAny_bind (wpAny_missed_other pS (wpAny_pure ⟨.none,rfl,h2 hn⟩))
theorem U4 {k:Str}{H1:Hp}:(match ([V.str k]:List V) with | [.str k]=>Q ((KTD.datumAt k D).getD .bR) H1 | _=>False)=Q ((KTD.datumAt k D).getD .bR) H1:=rfl
def Ej (D:List (Str×V))(t:TA):TE:=λσ H Q=>t σ H λxs H1=>match xs with
 | [.str k]=>Q ((KTD.datumAt k D).getD .bR) H1
 | _=>False
theorem Iu {n:Str}{e:Expr}{t:TA}{p apos hE:Pos}(C:CD X.K a D)(hg:Gl X n)(hm:X.mg n=some (.ref a))(ha:PA X [e] t)
  (uw:(n == ("__debug__":Str))=false:=by decide) (vF:attributeBase (.Name n p) "get" X.env (eval (.Name n p) X.env)=eval (.Name n p) X.env:=by rfl)
  (vG:(apos.endLine == hE.line)=true:=by rfl) (hs:starEach [e] X.env=[(false,eval e X.env)]:=by rfl):PE X (.Call (.Attribute (.Name n p) "get" apos) [e] [] hE) (Ej D t):=by
 walk_at "xc"
 obtain⟨o,es,ep,ho,hc,hd,hr⟩:=C.ex
 refine wpAny_Call_method_late vF (by rw[hs];rfl) vG rfl (qh I hg hm ?_ uw)
 have MU:s.heap.get? a=some o:=I.jF a o ho
 refine⟨"dict","dict.get",PySem.F.plainAttrs_dict,PySem.F.slot_dict_get,PySem.F.type_dict_get,⟨o,MU,hc.1⟩,λb e=>?_,?_⟩
 ·cases e
  exact⟨o,MU,hc.2.1⟩
 have hA:=ha hE pins s σ H _ I h
 rw[hs] at hA ⊢
 refine Calls.callWith_builtin rfl (Calls.evalArgs_plain (dq hA λus s2 ⟨vs,H2,I2,r2,q2⟩=>?_))
 match vs,r2,q2 with
 | [.str k],r2,q2=>
  obtain⟨u,rfl,ru⟩:=Vals.one r2
  obtain⟨tk,rfl⟩:=ru
  have Q6:s2.heap.get? a=some o:=I2.jF a o ho
  replace q2:Q ((KTD.datumAt k D).getD .bR) H2:=q2
  refine call_meetsIn PySem.F.slot_dict_get ⟨o,Q6,hc.1⟩ PySem.F.entry_dict_get (PySem.F.args_dict_get_2 _ _) (yq hd hr C.ne) ⟨Q6,λd v hdv hv=>?_,λhn=>?_⟩
  ·exact⟨d,H2,I2.tok _,hv,by have:=q2;rw[hdv] at this;exact this⟩
  ·exact⟨.bR,H2,I2.tok _,rfl,by have:=q2;rw[hn] at this;exact this⟩
end
end
section
variable {x:Str}
section
variable {X:Cx}
theorem fE {n:Int}{pos:Pos}(hm:∃t,X.mg x=some (.int n t))(hg:Gl X x)(hd:(x == ("__debug__":Str))=false:=by decide):PE X (.Name x pos) (tC (.int n)):=by
 obtain⟨t,hm⟩:=hm
 exact zk hg hm ⟨t,rfl⟩ hd
end
structure cB (P:Program)(w:World)(K:W.Frag)(mg:Str->Option Value)(base:Heap)(C:Addr)(m:Str)(k:Nat)(ps:List Str)(sp:Sp):Prop where
 ex:∃f fd,Meth K C m f/\kh P w K mg base yi k f fd ps sp/\Binds K fd ps []
structure gD (K:W.Frag)(C:Addr)(m qual:Str)(st:Stmt)(ps:List Str):Prop where
 ex:∃f fd,Meth K C m f/\GV K m qual st f fd/\Binds K fd ps []
structure vV (P:Program)(w:World)(K:W.Frag)(mg:Str->Option Value)(base:Heap)(x:Str)(C:Addr)(k:Nat)(ps:List Str)(sp:Sp):Prop where
 ex:∃f fd,Mk K C f/\kh P w K mg base yi k f fd ps sp/\Binds K fd ps []
 mg:mg x=some (.ref C)
structure Bw (K:W.Frag)(mg:Str->Option Value)(x:Str)(C:Addr)(qual:Str)(st:Stmt)(ps:List Str):Prop where
 ex:∃f fd,Mk K C f/\GV K "__init__" qual st f fd/\Binds K fd ps []
 mg:mg x=some (.ref C)
section
variable {P:Program}{w:World}{K:W.Frag}{mg:Str->Option Value}{base:Heap}
theorem gD.ok{C:Addr}{m qual:Str}{st:Stmt}{N ps:List Str}{k:Nat}{sp:Sp}(T:gD K C m qual st ps)(S:aD N ps (az st))(len:∀vs H Q E,sp vs H Q E->vs.length=ps.length)
  (ki:∀(f:Addr) (fT:Value) (A:Around) (outer:List Env) (s:Shared) (H:Hp) (vs:List V) (Q:VK) (E:XK),eP k (A.deeper (envOfC qual (az st) s.heap.objs.size f fT))->sp vs H Q E->
   ∃t,uu (pO yi P w K mg base N qual (az st) f fT A outer s H E).xN (cU st) t/\t {nx:=λ_ H'=>Q .bR H',rt:=Q} (start N vs) H):cB P w K mg base C m (k + 1) ps sp:=by
 obtain⟨f,fd,M,F,hb⟩:=T.ex
 exact⟨f,fd,M,F.ok S len (ki f),hb⟩
theorem Bw.ok{C:Addr}{qual:Str}{st:Stmt}{N ps:List Str}{k:Nat}{sp:Sp}(T:Bw K mg x C qual st ps)(S:aD N ps (az st))(len:∀vs H Q E,sp vs H Q E->vs.length=ps.length)
  (ki:∀(f:Addr) (fT:Value) (A:Around) (outer:List Env) (s:Shared) (H:Hp) (vs:List V) (Q:VK) (E:XK),eP k (A.deeper (envOfC qual (az st) s.heap.objs.size f fT))->sp vs H Q E->
   ∃t,uu (pO yi P w K mg base N qual (az st) f fT A outer s H E).xN (cU st) t/\t {nx:=λ_ H'=>Q .bR H',rt:=Q} (start N vs) H):vV P w K mg base x C (k + 1) ps sp:=by
 obtain⟨f,fd,M,F,hb⟩:=T.ex
 exact⟨⟨f,fd,M,F.ok S len (ki f),hb⟩,T.mg⟩
end
section
variable {X:Cx}{o e:Expr}{es:List Expr}{to:TE}{t:TA}{apos p pos:Pos}{C:Addr}{m x:Str}{k j:Nat}{ps:List Str}{sp:Sp}
theorem dE {pl:Sem Bool}(D:cB X.prog X.w X.K X.mg X.base C m k ps sp)(c:sZ X.K C)(hr:eP j X.A)(ho:PE X o to)(ha:PA X (e::es) t)(hj:k<=j:=by decide)(h1:fW e=true:=by rfl)(h2:es.all fW=true:=by rfl)
  (ht:eval (.Call (.Attribute o m apos) (e::es) [] pos) X.env=(do
   let ov <-eval o X.env
   standAt apos.atName
   let (f,first) <-holding [ov] (getMethod ov m pl)
   callWith pos f first (backTo pos (starEach (e::es) X.env)) (backToKw pos (keywordEach [] X.env))):=by rfl):
  PE X (.Call (.Attribute o m apos) (e::es) [] pos) (tj C m sp [] E0 to t):=by
 obtain⟨f,fd,M,F,hb⟩:=D.ex
 exact HM ho c M F (hr.mono hj) hb .nil zK ha (fX h1) (jx h2) ht
theorem fF {pl:Sem Bool}(D:cB X.prog X.w X.K X.mg X.base C m k ps sp)(c:sZ X.K C)(hr:eP j X.A)(ho:PE X o to)(hj:k<=j:=by decide)
  (ht:eval (.Call (.Attribute o m apos) [] [] pos) X.env=(do
   let ov <-eval o X.env
   standAt apos.atName
   let (f,first) <-holding [ov] (getMethod ov m pl)
   callWith pos f first (backTo pos (starEach [] X.env)) (backToKw pos (keywordEach [] X.env))):=by rfl):
  PE X (.Call (.Attribute o m apos) [] [] pos) (tj C m sp [] E0 to Dc):=by
 obtain⟨f,fd,M,F,hb⟩:=D.ex
 exact Dd ho c M F (hr.mono hj) hb .nil zK ht
theorem Ek (D:vV X.prog X.w X.K X.mg X.base x C k ps sp)(hr:eP j X.A)(ha:PA X (e::es) t)(hg:Gl X x:=by rfl)(hj:k + 1<=j:=by decide)(uw:(x == ("__debug__":Str))=false:=by decide)
  (h1:fW e=true:=by rfl) (h2:es.all fW=true:=by rfl):PE X (.Call (.Name x p) (e::es) [] pos) (zy C sp [] E0 t):=by
 obtain⟨f,fd,M,F,hb⟩:=D.ex
 exact HN M F (hr.mono hj) hg D.mg hb .nil zK ha uw (fX h1) (jx h2)
end
theorem nh {K:W.Frag}{b:Bool}{a:Addr}{xs:List V}{g:TG}{tb:TS}{D:Ends}{σ:St}{H:Hp}(Pv:Nat->St->Hp->Prop)(h0:Pv 0 σ H)(hq:∀i σ H,Pv i σ H->Sq b K H a xs)
  (hs:∀i x σ H T,xs[i]?=some x->Pv i σ H->H T=none->g (.ref T) σ (upd H T (.tup [.int i,x])) λσ2 H2=>tb {D with nx:=Pv (i + 1),ct:=Pv (i + 1),bk:=D.nx} σ2 H2) (hd:∀σ H,Pv xs.length σ H->D.nx σ H):
  ∃W:Nat->Nat->St->Hp->Prop,(∃m,W 0 m σ H)/\∀i m σ H,W i m σ H->
   ((Im b K a).stop i H/\D.nx σ H)\/((Im b K a).go i H/\∃N:St->Hp->Prop,(∀σ' H',N σ' H'->∃m',m' < m/\W (i + 1) m' σ' H')/\∀x H',(Im b K a).Hx i H x H'->g x σ H' λσ2 H2=>tb {D with nx:=N,ct:=N,bk:=D.nx} σ2 H2):=by
 refine⟨λi m σ H=>m=xs.length - i/\i<=xs.length/\Pv i σ H,⟨xs.length,by simp,Nat.zero_le _,h0⟩,?_⟩
 rintro i m σ H ⟨rfl,hi,p⟩
 by_cases kf:i < xs.length
 ·refine .inr ⟨⟨xs,xs[i],hq i σ H p,cA kf⟩,Pv (i + 1),λσ' H' p'=>⟨xs.length - (i + 1),by omega,rfl,kf,p'⟩,λx H' y=>?_⟩
  obtain⟨T,hT,rfl,y⟩:=y
  obtain⟨x,hx,rfl⟩:=y xs (hq i σ H p)
  exact hs i x σ H T hx p hT
 ·have e:i=xs.length:=by omega
  subst e
  exact .inl ⟨⟨xs,hq _ σ H p,rfl⟩,hd σ H p⟩
theorem iU {X:Cx}{i j:Nat}{y:Str}{px py pos:Pos}{k:Nat}(hc:X.calm=true)(hN:X.N.Nodup)(hi:X.N[i]?=some x)(hj:X.N[j]?=some y)(hx:Loc X.env.scope x)(hy:Loc X.env.scope y)
  (Q7:X.fn x=true\/X.env.scope.names.lookup x=some .local:=by first | exact .inl rfl | exact .inr rfl | assumption) (Q8:X.fn y=true\/X.env.scope.names.lookup y=some .local:=by first | exact .inl rfl | exact .inr rfl | assumption):
  PG X (.Tuple [.Name x px,.Name y py] k pos) (Hw X.K 2 (pI (gR i) (pI (gR j) Hv))):=CL hc (kd (aU hN hi hx Q7) (kd (aU hN hj hy Q8) zo))
end
end L2
set_option maxHeartbeats 400000
namespace L2
open PySem PySem.Spec PyProof.Rows
structure Q9 (K:W.Frag)(mg:Str->Option Value)(x:Str)(C B:Addr)(qual:Str)(st:Stmt)(ps:List Str):Prop where
 cl:QV K C B
 ex:∃f fd,W.findIn K (.ref C) "__init__"=some (some (.ref f))/\W.isFn K (.ref f)=true/\GV K "__init__" qual st f fd/\Binds K fd ps []
 mg:mg x=some (.ref C)
structure W5 (P:Program)(w:World)(K:W.Frag)(mg:Str->Option Value)(base:Heap)(x:Str)(C B:Addr)(k:Nat)(ps:List Str)(sp:Sp):Prop where
 cl:QV K C B
 ex:∃f fd,W.findIn K (.ref C) "__init__"=some (some (.ref f))/\W.isFn K (.ref f)=true/\kh P w K mg base yi k f fd ps sp/\Binds K fd ps []
 mg:mg x=some (.ref C)
section
variable {P:Program}{w:World}{K:W.Frag}{mg:Str->Option Value}{base:Heap}
theorem Q9.ok{x:Str}{C B:Addr}{qual:Str}{st:Stmt}{N ps:List Str}{k:Nat}{sp:Sp}(T:Q9 K mg x C B qual st ps)(S:aD N ps (az st))(len:∀vs H Q E,sp vs H Q E->vs.length=ps.length)
  (ki:∀(f:Addr) (fT:Value) (A:Around) (outer:List Env) (s:Shared) (H:Hp) (vs:List V) (Q:VK) (E:XK),eP k (A.deeper (envOfC qual (az st) s.heap.objs.size f fT))->sp vs H Q E->
   ∃t,uu (pO yi P w K mg base N qual (az st) f fT A outer s H E).xN (cU st) t/\t {nx:=λ_ H'=>Q .bR H',rt:=Q} (start N vs) H):W5 P w K mg base x C B (k + 1) ps sp:=by
 obtain⟨f,fd,M1,M2,F,hb⟩:=T.ex
 exact⟨T.cl,⟨f,fd,M1,M2,F.ok S len (ki f),hb⟩,T.mg⟩
end
end L2
set_option maxHeartbeats 4000000
namespace L2
open PySem PySem.Spec PyProof.Rows
variable {a:Addr}{g:Bool->Bool}{H:Hp}{ix:List (Option Nat)}{xE:List (TE×TE)}{σ:St}{te:TE}{wi:TI}{tt:TT}{Q:VK}{K:W.Frag}
section
variable {X:Cx}{K:W.Frag}
theorem fm (hK:X.K=K):fg X (.builtin "isinstance") (Ip K):=hK ▸ cw
theorem qO (hK:X.K=K):fg X (.builtin "len") (ML K):=hK ▸ aM
theorem ni (hK:X.K=K):fg X (.type "tuple") (uK K):=hK ▸ cL
theorem Iv (hK:X.K=K)(hu:X.A.units + 64 < cLine):gA X (compareOp .Eq) (MI K):=hK ▸ DB hu
theorem dC {a b:Expr}{ta tb:TE}{pos:Pos}(hK:X.K=K)(hu:X.A.units + 64 < cLine)(ha:PE X a ta)(hb:PE X b tb)(h:uP b=true:=by rfl):PE X (.Subscript a b pos) (HA (OI K) ta tb):=hK ▸ ak hu ha hb h
theorem Iw {e:Expr}{ta:TE}{f:Str}{pos:Pos}(hK:X.K=K)(he:PE X e ta)(hb:attributeBase e f X.env (eval e X.env)=eval e X.env):PE X (.Attribute e f pos) (HJ K ta f):=hK ▸ bI he hb
theorem jK {i j:Nat}{x y:Str}{px py pos:Pos}{k:Nat}(hK:X.K=K)(hc:X.calm=true)(hN:X.N.Nodup)(hi:X.N[i]?=some x)(hj:X.N[j]?=some y)(hx:Loc X.env.scope x)(hy:Loc X.env.scope y)
  (Q7:X.fn x=true\/X.env.scope.names.lookup x=some .local:=by first | exact .inl rfl | exact .inr rfl | assumption) (Q8:X.fn y=true\/X.env.scope.names.lookup y=some .local:=by first | exact .inl rfl | exact .inr rfl | assumption):
  PG X (.Tuple [.Name x px,.Name y py] k pos) (Hw K 2 (pI (gR i) (pI (gR j) Hv))):=hK ▸ iU hc hN hi hj hx hy Q7 Q8
end
inductive Ra {α:Sort _}(x:α):Type
 | mk
def W6 (ix:List (Option Nat))(wi:TI)(g:TG)(tt:TT)(te:TE)(_:Ra (ix,wi,g,tt,te)):TE:=QL ix wi g tt te
theorem zW {g:TG}:QL ix wi g tt te=W6 ix wi g tt te .mk:=rfl
def Rb (wi:TI)(g:TG)(tb:TS)(_:Ra (wi,g,tb)):TS:=L3 wi g tb
theorem vW {g:TG}{tb:TS}:L3 wi g tb=Rb wi g tb .mk:=rfl
def Iy (tc:TT)(tb:TS)(_:Ra (tc,tb)):TS:=uv tc tb
theorem qP {tc:TT}{tb:TS}:uv tc tb=Iy tc tb .mk:=rfl
theorem bF {g:TG}(h:wi σ H λJ H1=>∀D,H1 D=none->lU ix J g tt te σ H1 Q D):QL ix wi g tt te σ H Q:=h
def Iz (ix:List (Option Nat))(J:It)(g:TG)(tt:TT)(te:TE)(σ:St)(H:Hp)(Q:VK)(D:Addr)(_:Ra (ix,J,g,tt,te,σ,H,Q,D)):Prop:=lU ix J g tt te σ H Q D
theorem qQ {J:It}{g:TG}{D:Addr}:lU ix J g tt te σ H Q D=Iz ix J g tt te σ H Q D .mk:=rfl
theorem yr:QS g (.ref a) .bR H Q=Q (.bl (g false)) H:=by
 show Q (.bl (g (decide (V.ref a=.bR)))) H=_
 simp
theorem yt:QS g .bR .bR H Q=Q (.bl (g true)) H:=by
 show Q (.bl (g (decide (V.bR=.bR)))) H=_
 simp
theorem av.OK{H':Hp}(s:av H H'){a:Addr}{xs:List V}(h:bJ K H a xs):bJ K H' a xs:=by
 rcases h with(h | ⟨o,h⟩) | h
 ·exact .inl (.inl (s _ _ h))
 ·exact .inl (.inr ⟨o,s _ _ h⟩)
 ·exact .inr h
theorem eN {α:Type}(x:α)(n:Nat):List.replicate n x++[x]=List.replicate (n + 1) x:=by
 rw[List.replicate_succ',]
theorem lW (n:Nat):List.replicate n (V.bl true)=(List.replicate n true).map V.bl:=by simp
theorem cJ {xs:List V}{i:Int}{v:V}{P:V->Prop}(h:H a=some (.tup xs))(e:gB xs i=some v)(k:P v):∃xs v,(aP K H a xs\/bJ K H a xs)/\gB xs i=some v/\P v:=⟨xs,v,.inr (bJ.of h),e,k⟩
theorem bu {xs:List V}{i:Int}{v:V}{P:V->Prop}(h:H a=some (.lst xs))(e:gB xs i=some v)(k:P v):∃xs v,(aP K H a xs\/bJ K H a xs)/\gB xs i=some v/\P v:=⟨xs,v,.inl (aP.of h),e,k⟩
def MV (xE:List (TE×TE))(_:Ra xE):TE:=zI xE
theorem tM:zI xE=MV xE .mk:=rfl
theorem IA (h:∀p,H p=none->og xE σ (upd H p (.dK [])) λps H2=>H2 p=some (.dK [])/\∃bc:List (Key×V),ps=bc.map (λkv=>(kV kv.1,kv.2))/\bc.length<=15/\Q (.ref p) (upd H2 p (.dK (lR [] bc)))):zI xE σ H Q:=h
end L2
set_option maxHeartbeats 400000
namespace L2
open PySem PySem.Spec PyProof.Rows
section
section
variable {X:Cx}{K:W.Frag}
end
end
section
section
variable {X:Cx}{pins:List (Addr×Obj)}{σ:St}{H:Hp}{s:Shared}{e C:Addr}{d:Option Addr}{fl:Bool}{T:Option Addr}{h':Heap}
end
section
variable {X:Cx}{pins:List (Addr×Obj)}{σ:St}{H:Hp}{s:Shared}{a C:Addr}{d:Option Addr}{fl:Bool}{T:Option Addr}{h':Heap}{E:XK}{E1:Value->Shared->Prop}
end
end
section
section
variable {X:Cx}{o e:Expr}{es:List Expr}{to:TE}{t:TA}{apos p pos:Pos}{C:Addr}{m x:Str}{k j:Nat}{ps:List Str}{sp:Sp}{E:XK}
end
section
variable {X:Cx}{k j:Nat}{f C:Addr}{fd:FuncData}{ps:List Str}{sp:Sp}{E:XK}{x m:Str}{p pos apos:Pos}{e o:Expr}{es:List Expr}{ta:TE}{t:TA}
theorem PA.any{xe:Value->Shared->Prop}(ha:PA X.xN es t){pins:List (Addr×Obj)}{s:Shared}{σ:St}{H:Hp}{Q:List V->Hp->Prop}(I:Inv X pins σ H s)(h:t σ H Q)(pos:Pos):
  wpAny (model X.prog X.w) X.A (spliced (backTo pos (starEach es X.env))) (AP X pins σ Q) xe s:=
 wpAny_mono (ha.out pos pins s σ H Q (I.nV _) h) (λ_ _ ⟨vs,H',I',r,q⟩=>⟨vs,H',I'.g9,r,q⟩) λ_ _ z=>False.elim z
end
end
section
end
end L2
namespace L2
open PySem PySem.Spec PyProof.Rows
structure vX (k:Nat)(A:Around):Prop where
 dp:A.depth + 3 * k + 5 < recursionLimit
 un:A.units + 16 * k + 200 < cLine
theorem vX.deeper{k:Nat}{A:Around}(r:vX (k + 1) A)(env:Env):vX k (A.deeper env):=
 ⟨by have:=r.dp;show A.depth + 1 + 3 * k + 5 < _;omega,by have:=r.un;show A.units + 3 + 16 * k + 200 < _;omega⟩
theorem vX.units{k:Nat}{A:Around}(r:vX k A):A.units + 64 < cLine:=by have:=r.un;omega
end L2
set_option maxHeartbeats 4000000
namespace DD
open PySem L2
variable {H:Hp}{x:V}
inductive Kd (H:Hp):V->Value->Prop
 | bR:Kd H .bR (.type "NoneType")
 | bl (b:Bool):Kd H (.bl b) (.type "bool")
 | int (i:Int):Kd H (.int i) (.type "int")
 | str (x:Str):Kd H (.str x) (.type "str")
 | lst {a xs}:H a=some (.lst xs)->Kd H (.ref a) (.type "list")
 | tup {a xs}:H a=some (.tup xs)->Kd H (.ref a) (.type "tuple")
 | dK {a bc}:H a=some (.dK bc)->Kd H (.ref a) (.type "dict")
theorem Kd.ty{K:W.Frag}{H:Hp}{x:V}{t:Value}(h:Kd H x t):fV K H x t:=by
 cases h with
 | bR=>exact .bR
 | bl b=>exact .bl b
 | int i=>exact .int i
 | str x=>exact .str x
 | lst e=>exact .lst e
 | tup e=>exact .tup e
 | dK e=>exact .dK e
def W7:V->Bool
 | .int _=>true
 | _=>false
theorem MW {K:W.Frag}{H:Hp}{x:V}{t:Value}(h:Kd H x t):∃b c,W.kitOne K t (.type "int")=some b/\W.kitOne K t (.type "bool")=some c/\W7 x=(b && !c):=by
 cases h with
 | bR=>exact⟨false,false,rfl,rfl,rfl⟩
 | bl b=>exact⟨true,true,rfl,rfl,rfl⟩
 | int i=>exact⟨true,false,rfl,rfl,rfl⟩
 | str x=>exact⟨false,false,rfl,rfl,rfl⟩
 | lst e=>exact⟨false,false,rfl,rfl,rfl⟩
 | tup e=>exact⟨false,false,rfl,rfl,rfl⟩
 | dK e=>exact⟨false,false,rfl,rfl,rfl⟩
def inR (lo hi:Int):V->Bool
 | .int i=>decide (lo<=i) && decide (i < hi)
 | _=>false
theorem Rc {H:Hp}{n:Nat}{x:V}{d:DV}(h:HD H n x d):∃t,Kd H x t:=by
 cases h with
 | bR=>exact⟨_,.bR⟩
 | bl b=>exact⟨_,.bl b⟩
 | int i=>exact⟨_,.int i⟩
 | str x=>exact⟨_,.str x⟩
 | tup e=>exact⟨_,.tup e⟩
 | lst e=>exact⟨_,.lst e⟩
 | dict e=>exact⟨_,.dK e⟩
def MX:DV->Bool
 | .int _=>true
 | _=>false
def Rf (lo hi:Int):DV->Bool
 | .int i=>decide (lo<=i) && decide (i < hi)
 | _=>false
theorem MY {n:Nat}{d:DV}(h:HD H n x d):W7 x=MX d:=by cases h <;> rfl
theorem MZ {n:Nat}{d:DV}(h:HD H n x d)(lo hi:Int):inR lo hi x=Rf lo hi d:=by cases h <;> rfl
def qR:List V:=[.str "letter",.str "way",.str "first"]
def IB (w:Str)(m:Int):List DV->Bool
 | [z]=>if w="is" then MX z else(decide (w="number") && Rf 0 m z)
 | _=>false
def Bx (m:Int):DV->Bool
 | .tup (.str w::r)=>if zF (.str w) qR=true then decide (r.length=0) else IB w m r
 | _=>false
inductive Val where
 | is (c:Int) | number (i:Int) | lX | way | first
def Val.dv:Val->DV
 | .is c=>.tup [.str "is",.int c]
 | .number i=>.tup [.str "number",.int i]
 | .lX=>.tup [.str "letter"]
 | .way=>.tup [.str "way"]
 | .first=>.tup [.str "first"]
def Val.ok(m:Int):Val->Prop
 | .number i=>0<=i/\i < m
 | _=>True
theorem M0 {m:Int}{v:Val}(h:v.ok m):Bx m v.dv=true:=by
 cases v with
 | is c=>exact rfl
 | number i=>
  obtain⟨h1,h2⟩:=h
  show(if zF (.str "number") qR=true then decide (([DV.int i]:List DV).length=0) else if ("number":Str)="is" then MX (.int i) else(decide (("number":Str)="number") && (decide (0<=i) && decide (i < m))))=true
  rw[if_neg (by decide +kernel),if_neg (by decide +kernel)]
  simp[h1,h2]
 | lX=>exact rfl
 | way=>exact rfl
 | first=>exact rfl
def qS (ns row:List Int)(way said:Int):Val->Int
 | .is c=>c
 | .number i=>ns.getD i.toNat 0
 | .lX=>said
 | .way=>way
 | .first=>row.headD 0
abbrev vo (ns row:List Int):DV:=.tup [.tup (ns.map .int),.tup (row.map .int)]
theorem fY {H:Hp}{n:Nat}{x:V}{d:DV}(h:HT H n x (.tup [d])):∃a u k,x=.ref a/\H a=some (.tup [u])/\HT H k u d:=by
 cases h with
 | @tup k a xs _ e l i=>
  match xs,l,e,i with
  | [u],_,e,i=>exact⟨a,u,k,rfl,e,i 0 u d rfl rfl⟩
theorem cy {H:Hp}{n:Nat}{x:V}{d d':DV}(h:HT H n x (.tup [d,d'])):∃a u v k,x=.ref a/\H a=some (.tup [u,v])/\HT H k u d/\HT H k v d':=by
 cases h with
 | @tup k a xs _ e l i=>
  match xs,l,e,i with
  | [u,v],_,e,i=>exact⟨a,u,v,k,rfl,e,i 0 u d rfl rfl,i 1 v d' rfl rfl⟩
theorem qk {H:Hp}{n:Nat}{x:V}{ns:List Int}(h:HT H n x (.tup (ns.map .int))):∃a,x=.ref a/\H a=some (.tup (ns.map V.int)):=by
 cases h with
 | @tup k a xs _ e l i=>
  refine⟨a,rfl,?_⟩
  have:xs=ns.map V.int:=by
   apply List.ext_getElem?
   intro j
   rw[List.getElem?_map]
   cases hj:ns[j]? with
   | none=>
    have h1:ns.length<=j:=List.getElem?_eq_none_iff.mp hj
    rw[List.getElem?_eq_none_iff.mpr (by rw[l,List.length_map];exact h1)]
    rfl
   | some z=>
    have h1:j < ns.length:=(List.getElem?_eq_some_iff.mp hj).1
    have h2:j < xs.length:=by rw[l,List.length_map];exact h1
    have h3:=i j xs[j] (.int z) (cA h2) (by rw[List.getElem?_map,hj];rfl)
    rw[cA h2]
    generalize xs[j]=y at h3
    cases h3
    rfl
  rw[<-this];exact e
theorem nj {H:Hp}{n:Nat}{a:Addr}{ns:List Int}(e:H a=some (.tup (ns.map V.int))):HT H (n + 1) (.ref a) (.tup (ns.map .int)):=by
 refine .tup e (by simp) λi u d hu hd=>?_
 rw[List.getElem?_map] at hu hd
 cases hj:ns[i]? with
 | none=>rw[hj] at hu;cases hu
 | some z=>rw[hj] at hu hd;cases hu;cases hd;exact .int z
theorem qT {H:Hp}{n:Nat}{a:Addr}{u:V}{d:DV}(e:H a=some (.tup [u]))(h:HT H n u d):HT H (n + 1) (.ref a) (.tup [d]):=by
 refine .tup e rfl λi x y hx hy=>?_
 cases i with
 | zero=>simp at hx hy;subst hx hy;exact h
 | succ i=>simp at hx
theorem dw {H:Hp}{n:Nat}{a:Addr}{u v:V}{d d':DV}(e:H a=some (.tup [u,v]))(h:HT H n u d)(h':HT H n v d'):HT H (n + 1) (.ref a) (.tup [d,d']):=by
 refine .tup e rfl λi x y hx hy=>?_
 match i,hx,hy with
 | 0,hx,hy=>simp at hx hy;subst hx hy;exact h
 | 1,hx,hy=>simp at hx hy;subst hx hy;exact h'
theorem _root_.L2.HT.mono{H:Hp}{n:Nat}{x:V}{d:DV}(h:HT H n x d):∀{m:Nat},n<=m->HT H m x d:=by
 induction h with
 | bR=>intro m _;exact .bR
 | bl b=>intro m _;exact .bl b
 | int i=>intro m _;exact .int i
 | str x=>intro m _;exact .str x
 | tup a b c ih=>
  intro m hm
  obtain⟨k,rfl⟩:∃k,m=k + 1:=⟨m - 1,by omega⟩
  exact .tup a b λi u e p q=>ih i u e p q (by omega)
theorem zX {K:W.Frag}{H:Hp}{n:Nat}{x:V}{d:DV}(h:HT H n x d):∀{m:Nat} {y:V} {k:Nat},HT H m y d->n < k->km K H k x y:=by
 induction h with
 | bR=>intro m y k h hk;cases h;obtain⟨j,rfl⟩:∃j,k=j + 1:=⟨k - 1,by omega⟩;exact .inl ⟨rfl,rfl⟩
 | bl b=>intro m y k h hk;cases h;obtain⟨j,rfl⟩:∃j,k=j + 1:=⟨k - 1,by omega⟩;exact .inl ⟨rfl,rfl⟩
 | int i=>intro m y k h hk;cases h;obtain⟨j,rfl⟩:∃j,k=j + 1:=⟨k - 1,by omega⟩;exact .inl ⟨rfl,rfl⟩
 | str i=>intro m y k h hk;cases h;obtain⟨j,rfl⟩:∃j,k=j + 1:=⟨k - 1,by omega⟩;exact .inl ⟨rfl,rfl⟩
 | @tup n a xs ds e l i ih=>
  intro m y k h hk
  obtain⟨j,rfl⟩:∃j,k=j + 1:=⟨k - 1,by omega⟩
  cases h with
  | @tup m b ys _ e' l' i'=>
   refine .inr ⟨a,b,xs,ys,rfl,rfl,.inl ⟨bJ.of e,bJ.of e'⟩,l.trans l'.symm,λp u v hu hv=>?_⟩
   have hp:p < ds.length:=by rw[<-l];exact(List.getElem?_eq_some_iff.mp hu).1
   exact ih p u ds[p] hu (cA hp) (i' p v ds[p] hv (cA hp)) (by omega)
inductive bH where
 | set (i:Int) (v:Val) | add (i:Int) (v:Val) | times (i:Int) (v:Val) | put (v:Val) | drop | send (j:Int) (v:Val) | say (v:Val) | skip (v w:Val) (k:Int)
def bH.dv:bH->DV
 | .set i v=>.tup [.str "set",.int i,v.dv]
 | .add i v=>.tup [.str "add",.int i,v.dv]
 | .times i v=>.tup [.str "times",.int i,v.dv]
 | .put v=>.tup [.str "put",v.dv]
 | .drop=>.tup [.str "drop"]
 | .send j v=>.tup [.str "send",.int j,v.dv]
 | .say v=>.tup [.str "say",v.dv]
 | .skip v w k=>.tup [.str "skip",v.dv,w.dv,.int k]
def bH.ok(m:Int):bH->Prop
 | .set i v=>0<=i/\i < m/\v.ok m
 | .add i v=>0<=i/\i < m/\v.ok m
 | .times i v=>0<=i/\i < m/\v.ok m
 | .put v=>v.ok m
 | .drop=>True
 | .send j v=>0<=j/\v.ok m
 | .say v=>v.ok m
 | .skip v w k=>v.ok m/\w.ok m/\1<=k/\k < 25
def bH.vals:bH->List Val
 | .set _ v=>[v]
 | .add _ v=>[v]
 | .times _ v=>[v]
 | .put v=>[v]
 | .drop=>[]
 | .send _ v=>[v]
 | .say v=>[v]
 | .skip v w _=>[v,w]
def bH.word:bH->Str
 | .set _ _=>"set"
 | .add _ _=>"add"
 | .times _ _=>"times"
 | .put _=>"put"
 | .drop=>"drop"
 | .send _ _=>"send"
 | .say _=>"say"
 | .skip _ _ _=>"skip"
def bH.sr:bH->List Str
 | .set _ _=>["number","value"]
 | .add _ _=>["number","value"]
 | .times _ _=>["number","value"]
 | .put _=>["value"]
 | .drop=>[]
 | .send _ _=>["way","value"]
 | .say _=>["value"]
 | .skip _ _ _=>["value","value","many"]
structure WS where
 ns:List Int
 row:List Int
 cq:List (Int×Int)
 words:List Int
def fG (M way said:Int)(ns row:List Int)(v:Val):Int:=qS ns row way said v % M
def de (M:Int)(ns:List Int)(x:Int):bH->List Int
 | .set i _=>ns.set i.toNat x
 | .add i _=>ns.set i.toNat ((ns.getD i.toNat 0 + x) % M)
 | .times i _=>ns.set i.toNat ((ns.getD i.toNat 0 * x) % M)
 | _=>ns
def fH (row:List Int)(x:Int):bH->List Int
 | .put _=>if row.length < 12 then row++[x] else row
 | .drop=>row.tail
 | _=>row
def bD (x:Int):bH->List (Int×Int)
 | .send j _=>[(j,x)]
 | _=>[]
def aX (x:Int):bH->List Int
 | .say _=>[x]
 | _=>[]
def fI (x y:Int):bH->Int
 | .skip _ _ k=>if x < y then k else 0
 | _=>0
def fJ (M way said:Int)(d:bH)(s:WS):WS:=
 let ws:=d.vals.map (fG M way said s.ns s.row)
 ⟨de M s.ns (ws.getD 0 0) d,fH s.row (ws.getD 0 0) d,s.cq++bD (ws.getD 0 0) d,s.words++aX (ws.getD 0 0) d⟩
def lM (M way said:Int)(d:bH)(s:WS):Int:=
 let ws:=d.vals.map (fG M way said s.ns s.row)
 fI (ws.getD 0 0) (ws.getD 1 0) d
def vY (M way said:Int):Nat->List bH->WS->WS
 | 0,_,s=>s
 | _,[],s=>s
 | f + 1,d::r,s=>vY M way said f (r.drop (lM M way said d s).toNat) (fJ M way said d s)
theorem zY {M way said:Int}{f:Nat}{s:WS}:vY M way said f [] s=s:=by cases f <;> rfl
def nk (M way said:Int)(ds:List bH)(ns row:List Int):WS:=vY M way said ds.length ds ⟨ns,row,[],[]⟩
theorem bZ {M x:Int}{ns:List Int}{d:bH}:(de M ns x d).length=ns.length:=by cases d <;> simp[de]
def vZ (K:W.Frag)(H:Hp)(st:V)(ns row:List Int):Prop:=∃a b c,st=.ref a/\H a=some (.tup [.ref b,.ref c])/\(aP K H b (ns.map V.int)\/bJ K H b (ns.map V.int))/\(aP K H c (row.map V.int)\/bJ K H c (row.map V.int))
theorem vZ.of{K:W.Frag}{n:Nat}{st:V}{ns row:List Int}(h:HT H n st (vo ns row)):vZ K H st ns row:=by
 obtain⟨a,u,v,k,rfl,e,h1,h2⟩:=cy h
 obtain⟨b,rfl,e1⟩:=qk h1
 obtain⟨c,rfl,e2⟩:=qk h2
 exact⟨a,b,c,rfl,e,.inr (bJ.of e1),.inr (bJ.of e2)⟩
def bW:Stmt->List Stmt
 | .ClassDef _ _ _ body _ _ _ _ _ _ _=>body
 | _=>[]
theorem b4 {H:Hp}{n:Nat}{x:V}{d d' By:DV}(h:HT H n x (.tup [d,d',By])):∃a u v w k,x=.ref a/\H a=some (.tup [u,v,w])/\HT H k u d/\HT H k v d'/\HT H k w By:=by
 cases h with
 | @tup k a xs _ e l i=>
  match xs,l,e,i with
  | [u,v,w],_,e,i=>exact⟨a,u,v,w,k,rfl,e,i 0 u d rfl rfl,i 1 v d' rfl rfl,i 2 w By rfl rfl⟩
theorem jL {H:Hp}{n:Nat}{x:V}{d d' By d3:DV}(h:HT H n x (.tup [d,d',By,d3])):∃a u v w z k,x=.ref a/\H a=some (.tup [u,v,w,z])/\HT H k u d/\HT H k v d'/\HT H k w By/\HT H k z d3:=by
 cases h with
 | @tup k a xs _ e l i=>
  match xs,l,e,i with
  | [u,v,w,z],_,e,i=>exact⟨a,u,v,w,z,k,rfl,e,i 0 u d rfl rfl,i 1 v d' rfl rfl,i 2 w By rfl rfl,i 3 z d3 rfl rfl⟩
theorem lY {H:Hp}{n:Nat}{a:Addr}{u v w:V}{d d' By:DV}(e:H a=some (.tup [u,v,w]))(h:HT H n u d)(h':HT H n v d')(W8:HT H n w By):HT H (n + 1) (.ref a) (.tup [d,d',By]):=by
 refine .tup e rfl λi x y hx hy=>?_
 match i,hx,hy with
 | 0,hx,hy=>simp at hx hy;subst hx hy;exact h
 | 1,hx,hy=>simp at hx hy;subst hx hy;exact h'
 | 2,hx,hy=>simp at hx hy;subst hx hy;exact W8
theorem zZ {n:Nat}{v:Val}(h:HT H n x v.dv):∃a xs,x=.ref a/\H a=some (.tup xs):=by
 cases v <;> (cases h;rename_i a xs e l i;exact⟨_,_,rfl,by assumption⟩)
end DD
set_option maxHeartbeats 400000
namespace L2
open PySem PySem.Spec PyProof.Rows
def Rg:R2:=λx y H Q=>match x,y with
 | .ref a,.int n=>∃v,H a=some (.lst [v])/\-1000<=n/\n<=1000/\∀p,H p=none->Q (.ref p) (upd H p (.lst (List.replicate n.toNat v)))
 | _,_=>False
theorem El {α:Type}(n:Nat)(v:α):(List.replicate n [v]).flatten=List.replicate n v:=by
 induction n with
 | zero=>rfl
 | succ n ih=>rw[List.replicate_succ,List.flatten_cons,ih];rfl
theorem v7 {v:V}{u:Value}(r:RelV v u):∀n:Nat,Vals (List.replicate n v) (List.replicate n u)
 | 0=>.nil
 | n + 1=>.cons r (v7 r n)
section
variable {X:Cx}
theorem qU:gA X (binaryOp .Mult) Rg:=by
 intro pins s σ H x y v u Q I rx ry h
 cases x <;> cases y <;> first
  | exact(show False from h).elim
  | skip
 rename_i a n
 obtain⟨w,hw,h1,h2,q⟩:=h
 obtain rfl:v=Value.ref a:=rx
 obtain⟨tk,rfl⟩:∃tk,u=Value.int n tk:=ry
 obtain⟨_,aO,k,rv,ho⟩:=I.bf a _ hw
 obtain⟨iw,rfl,Bh⟩:=rv.one
 have adG:([iw]:List Value).toArray.size * n.toNat<=1000:=by simp;omega
 refine wpAny_binaryOp_repeat_ref (T:="list") (U:="int") (by decide) ⟨_,ho,rfl⟩ (λs'=>typeIs_int s' n tk) noFill_list_mul F.fills_int_mul F.slot_int_rmul repeat_list F.slot_int_index.lookup
  (call_meets F.slot_int_rmul (typeIs_int s n tk) F.entry_int_rmul (F.args_int_rmul_2 _ _) (lm_int_rmul_list_any n tk a ([iw]:List Value).toArray k none #[])
   ⟨ho,rfl,⟨_,ho,rfl⟩,call_meets F.slot_list_mul ⟨_,ho,rfl⟩ F.entry_list_mul (F.args_list_mul_2 _ _)
    (lm_list_mul_any a ([iw]:List Value).toArray k none #[] n tk (by simp[Builtin.List.listFitsIndex];omega) (by omega) (by simp[Builtin.List.listTooLong,sizeLine];omega))
    ⟨ho,?_⟩⟩)
 rw[listMul_foldl_if,El]
 have fr:H s.heap.objs.size=none:=I.bf.fresh (Nat.le_refl _)
 refine⟨V.ref s.heap.objs.size,_,I.laid (o:=.lst (List.replicate n.toNat w)) (a:=s.heap.objs.size) (λb o e=>Heap.get?_push_of_some _ e) (Nat.le_refl _) (show _/\_ from⟨?_,_,0,v7 Bh _,Heap.get?_push_size _ rfl⟩),rfl,q _ fr⟩
 rw[List.length_replicate,sizeLine_eq]
 omega
end
end L2
namespace L2
open PySem PySem.Spec PyProof.Rows Builtin.Str
end L2
namespace L2
open PySem PySem.Spec PyProof.Rows Builtin.Str
end L2
set_option maxHeartbeats 4000000
namespace L2
open PySem
section
variable {X:Cx}
def W9 (K:W.Frag):List V->Hp->VK->Prop:=λxs H Q=>∃(x:V) (C:Addr) (t:Value) (b:Bool),xs=[x,.ref C]/\fV K H x t/\W.kitOne K t (.ref C)=some b/\Q (.bl b) H
theorem Em {K:W.Frag}(hK:X.K=K):fg X (.builtin "isinstance") (W9 K):=by
 subst hK
 intro pins s σ H xs us Q I r h
 obtain⟨x,C,t,b,rfl,ty,e,q⟩:=h
 obtain⟨u,w',rfl,rx,rn⟩:=vals2 r
 cases rn
 exact tf I rx ty e λtk=>⟨.bl b,H,I.tok _,rfl,q⟩
end
end L2
namespace L2
open PySem PySem.Spec PyProof.Rows
variable {e:Nat->Bool}
def Ci (K:W.Frag)(H:Hp):Nat->V->V->Bool->Prop
 | 0,_,_,_=>False
 | n + 1,x,y,b=>(∃a,x=.ref a/\y=.ref a/\b=true)\/(fS x=true/\fS y=true/\b=Cf x y)
  \/(∃a xs,fS x=true/\y=.ref a/\(bJ K H a xs\/aP K H a xs)/\b=false)\/(∃a xs,fS y=true/\x=.ref a/\(bJ K H a xs\/aP K H a xs)/\b=false)
  \/(∃a c xs ys,x=.ref a/\y=.ref c/\((bJ K H a xs/\aP K H c ys)\/(aP K H a xs/\bJ K H c ys))/\b=false)
  \/∃a c xs ys,∃e:Nat->Bool,x=.ref a/\y=.ref c/\a≠c/\((bJ K H a xs/\bJ K H c ys)\/(aP K H a xs/\aP K H c ys))
   /\(∀(i:Nat) u v,xs[i]?=some u->ys[i]?=some v->Ci K H n u v (e i))/\b=((List.range (min xs.length ys.length)).all e && (xs.length == ys.length))
def U5 (K:W.Frag)(H:Hp)(n:Nat)(a c:Addr)(b:Bool):Prop:=∃xs ys,∃e:Nat->Bool,((bJ K H a xs/\bJ K H c ys)\/(aP K H a xs/\aP K H c ys))
      /\(∀(i:Nat) u v,xs[i]?=some u->ys[i]?=some v->Ci K H n u v (e i))/\b=((List.range (min xs.length ys.length)).all e && (xs.length == ys.length))
section
variable {X:Cx}
theorem En {pins:List (Addr×Obj)}{σ:St}{H:Hp}{s:Shared}(I:Inv X pins σ H s){n:Nat}(ih:∀(A:Around) {x y:V} {u v:Value} {b:Bool},Ci X.K H n x y b->A.units + n < cLine->RelV x u->RelV y v->SeqAt.EqAt A s u v b)
  {A:Around} {a c:Addr} {b:Bool} (h:U5 X.K H n a c b) (hu:A.units + n + 1 < cLine):SeqAt.RcAt A s (.ref a) (.ref c) b/\SeqAt.RcNeAt A s (.ref a) (.ref c) (!b):=by
 obtain⟨xs,ys,e,hq,hi,rfl⟩:=h
 rcases hq with⟨h1,h2⟩ | ⟨h1,h2⟩
 ·obtain⟨aO,r1,p1,z1⟩:=I.tuple h1
  obtain⟨cj,r2,p2,z2⟩:=I.tuple h2
  have l1:=r1.length
  have l2:=r2.length
  have items:∀j (h1:j < aO.toArray.size) (h2:j < cj.toArray.size),SeqAt.EqAt A.in1 s aO.toArray[j] cj.toArray[j] (e j):=λj Bq xF=>by
   have pQ:j < aO.length:=by simpa using Bq
   have pR:j < cj.length:=by simpa using xF
   obtain⟨u',e1,ru⟩:=r1.get (i:=j) (x:=xs[j]'(by omega)) (by simp)
   obtain⟨v',e2,rv⟩:=r2.get (i:=j) (x:=ys[j]'(by omega)) (by simp)
   have f1:aO.toArray[j]=u':=by
    have:=cA pQ
    rw[this] at e1
    simpa using Option.some.inj e1
   have f2:cj.toArray[j]=v':=by
    have:=cA pR
    rw[this] at e2
    simpa using Option.some.inj e2
   rw[f1,f2]
   exact ih A.in1 (hi j _ _ (by simp) (by simp)) (by rw[in1_units];omega) ru rv
  have k1:=SeqAt.RcAt.tuples (A:=A) (show s.heap.IsTuple a aO.toArray from p1) (show s.heap.IsTuple c cj.toArray from p2) (by omega) items
  have k2:=SeqAt.RcNeAt.tuples (A:=A) (show s.heap.IsTuple a aO.toArray from p1) (show s.heap.IsTuple c cj.toArray from p2) (by omega) items
  have z1:aO.toArray.size=xs.length:=by simp;omega
  have z2:cj.toArray.size=ys.length:=by simp;omega
  rw[z1,z2] at k1 k2
  exact⟨k1,k2⟩
 ·obtain⟨aO,r1,p1,z1⟩:=I.list h1
  obtain⟨cj,r2,p2,z2⟩:=I.list h2
  have l1:=r1.length
  have l2:=r2.length
  by_cases hsz:xs.length=ys.length
  ·have sz:aO.toArray.size=cj.toArray.size:=by simp;omega
   have items:∀j (h1:j < aO.toArray.size) (h2:j < cj.toArray.size),SeqAt.EqAt A.in1 s aO.toArray[j] cj.toArray[j] (e j):=λj Bq xF=>by
    have pQ:j < aO.length:=by simpa using Bq
    have pR:j < cj.length:=by simpa using xF
    obtain⟨u',e1,ru⟩:=r1.get (i:=j) (x:=xs[j]'(by omega)) (by simp)
    obtain⟨v',e2,rv⟩:=r2.get (i:=j) (x:=ys[j]'(by omega)) (by simp)
    have f1:aO.toArray[j]=u':=by
     have:=cA pQ
     rw[this] at e1
     simpa using Option.some.inj e1
    have f2:cj.toArray[j]=v':=by
     have:=cA pR
     rw[this] at e2
     simpa using Option.some.inj e2
    rw[f1,f2]
    exact ih A.in1 (hi j _ _ (by simp) (by simp)) (by rw[in1_units];omega) ru rv
   have k1:=SeqAt.RcAt.lists (A:=A) p1.isList p2.isList sz (by omega) items
   have k2:=SeqAt.RcNeAt.lists (A:=A) p1.isList p2.isList sz (by omega) items
   have z1:aO.toArray.size=xs.length:=by simp;omega
   have e3:((List.range (min xs.length ys.length)).all e && (xs.length == ys.length))=(List.range xs.length).all e:=by rw[hsz];simp
   rw[z1] at k1 k2
   rw[e3]
   exact⟨k1,k2⟩
  ·have hb:(aO.toArray.size != cj.toArray.size)=true:=by simp;omega
   have e3:((List.range (min xs.length ys.length)).all e && (xs.length == ys.length))=false:=by simp[hsz]
   rw[e3]
   exact⟨SeqAt.RcAt.lists_lengths p1.isList p2.isList hb (by omega),SeqAt.RcNeAt.lists_lengths p1.isList p2.isList hb (by omega)⟩
theorem Eo {pins:List (Addr×Obj)}{σ:St}{H:Hp}{s:Shared}(I:Inv X pins σ H s):∀(n:Nat) (A:Around) {x y:V} {u v:Value} {b:Bool},Ci X.K H n x y b->A.units + n < cLine->RelV x u->RelV y v->SeqAt.EqAt A s u v b
 | 0,_,_,_,_,_,_,h,_,_,_=>h.elim
 | n + 1,A,x,y,u,v,b,h,hu,rx,ry=>by
  rcases h with⟨a,rfl,rfl,rfl⟩ | ⟨f,g,rfl⟩ | ⟨a,xs,f,rfl,hq,rfl⟩ | ⟨a,xs,f,rfl,hq,rfl⟩ | ⟨a,c,xs,ys,rfl,rfl,hq,rfl⟩ | ⟨a,c,xs,ys,e,rfl,rfl,pS,hq,hi,hb⟩
  ·cases rx;cases ry;exact SeqAt.EqAt.same _
  ·exact ye rx ry f g
  ·cases ry
   rcases hq with hq | hq
   ·obtain⟨aO,r1,p1,z1⟩:=I.tuple hq
    cases x <;> first | exact absurd (show false=true from f) Bool.false_ne_true | skip
    ·cases rx;exact SeqAt.EqAt.none_tuple (show s.heap.IsTuple a aO.toArray from p1) (by omega)
    ·cases rx;exact SeqAt.EqAt.bool_tuple _ (show s.heap.IsTuple a aO.toArray from p1) (by omega)
    ·obtain⟨t,rfl⟩:=rx;exact SeqAt.EqAt.int_tuple _ _ (show s.heap.IsTuple a aO.toArray from p1) (by omega)
    ·obtain⟨t,rfl⟩:=rx;exact SeqAt.EqAt.str_tuple _ _ (show s.heap.IsTuple a aO.toArray from p1) (by omega)
   ·obtain⟨aO,r1,p1,z1⟩:=I.list hq
    cases x <;> first | exact absurd (show false=true from f) Bool.false_ne_true | skip
    ·cases rx;exact SeqAt.EqAt.none_list p1.isList (by omega)
    ·cases rx;exact SeqAt.EqAt.bool_list _ p1.isList (by omega)
    ·obtain⟨t,rfl⟩:=rx;exact SeqAt.EqAt.int_list _ _ p1.isList (by omega)
    ·obtain⟨t,rfl⟩:=rx;exact SeqAt.EqAt.str_list _ _ p1.isList (by omega)
  ·cases rx
   rcases hq with hq | hq
   ·obtain⟨aO,r1,p1,z1⟩:=I.tuple hq
    cases y <;> first | exact absurd (show false=true from f) Bool.false_ne_true | skip
    ·cases ry;exact SeqAt.EqAt.tuple_none (show s.heap.IsTuple a aO.toArray from p1) (by omega)
    ·cases ry;exact SeqAt.EqAt.tuple_bool _ (show s.heap.IsTuple a aO.toArray from p1) (by omega)
    ·obtain⟨t,rfl⟩:=ry;exact SeqAt.EqAt.tuple_int _ _ (show s.heap.IsTuple a aO.toArray from p1) (by omega)
    ·obtain⟨t,rfl⟩:=ry;exact SeqAt.EqAt.tuple_str _ _ (show s.heap.IsTuple a aO.toArray from p1) (by omega)
   ·obtain⟨aO,r1,p1,z1⟩:=I.list hq
    cases y <;> first | exact absurd (show false=true from f) Bool.false_ne_true | skip
    ·cases ry;exact SeqAt.EqAt.list_none p1.isList (by omega)
    ·cases ry;exact SeqAt.EqAt.list_bool _ p1.isList (by omega)
    ·obtain⟨t,rfl⟩:=ry;exact SeqAt.EqAt.list_int _ _ p1.isList (by omega)
    ·obtain⟨t,rfl⟩:=ry;exact SeqAt.EqAt.list_str _ _ p1.isList (by omega)
  ·cases rx
   cases ry
   rcases hq with⟨h1,h2⟩ | ⟨h1,h2⟩
   ·obtain⟨aO,r1,p1,z1⟩:=I.tuple h1
    obtain⟨cj,r2,p2,z2⟩:=I.list h2
    exact SeqAt.EqAt.tuple_list (show s.heap.IsTuple a aO.toArray from p1) p2.isList (by omega)
   ·obtain⟨aO,r1,p1,z1⟩:=I.list h1
    obtain⟨cj,r2,p2,z2⟩:=I.tuple h2
    exact SeqAt.EqAt.list_tuple p1.isList (show s.heap.IsTuple c cj.toArray from p2) (by omega)
  ·cases rx
   cases ry
   exact SeqAt.EqAt.of_refs pS (En I (λA {x y u v b}=>Eo I n A) ⟨xs,ys,e,hq,hi,hb⟩ (by omega)).1
def M3 (K:W.Frag):R2:=λx y H Q=>∃a c b,x=.ref a/\y=.ref c/\U5 K H 19 a c b/\Q (.bl b) H
def Rh (K:W.Frag):R2:=λx y H Q=>∃a c b,x=.ref a/\y=.ref c/\U5 K H 19 a c b/\Q (.bl (!b)) H
theorem IC (hu:X.A.units + 64 < cLine):gA X (compareOp .Eq) (M3 X.K):=by
 intro pins s σ H x y v u Q I rx ry h
 obtain⟨a,c,b,rfl,rfl,h1,q⟩:=h
 cases rx
 cases ry
 exact(En I (λA {x y u v b}=>Eo I 19 A) (A:=X.A) h1 (by omega)).1 X.prog X.w X.xe _ ⟨.bl b,H,I,rfl,q⟩
end
inductive rV:DV->Prop
 | bR:rV .bR
 | int (i:Int):rV (.int i)
 | str (x:Str):rV (.str x)
 | tup {ds:List DV}:(∀e ∈ ds,rV e)->rV (.tup ds)
 | lst {ds:List DV}:(∀e ∈ ds,rV e)->rV (.lst ds)
theorem Ci.mono{K:W.Frag}{H:Hp}:∀{n:Nat} {x y:V} {b:Bool},Ci K H n x y b->∀{m:Nat},n<=m->Ci K H m x y b
 | 0,_,_,_,h,_,_=>h.elim
 | n + 1,x,y,b,h,m,hm=>by
  obtain⟨k,rfl⟩:∃k,m=k + 1:=⟨m - 1,by omega⟩
  rcases h with h | h | h | h | h | ⟨a,c,xs,ys,e,h1,h2,h3,h4,h5,h6⟩
  ·exact .inl h
  ·exact .inr (.inl h)
  ·exact .inr (.inr (.inl h))
  ·exact .inr (.inr (.inr (.inl h)))
  ·exact .inr (.inr (.inr (.inr (.inl h))))
  ·exact .inr (.inr (.inr (.inr (.inr ⟨a,c,xs,ys,e,h1,h2,h3,h4,λi u v p q=>(h5 i u v p q).mono (by omega),h6⟩))))
theorem ID {H:Hp}{n:Nat}{x:V}{d:DV}(h:HD H n x d):∀{m:Nat} {d':DV},HD H m x d'->d=d':=by
 induction h with
 | bR=>intro m d' h;cases h;rfl
 | bl b=>intro m d' h;cases h;rfl
 | int i=>intro m d' h;cases h;rfl
 | str x=>intro m d' h;cases h;rfl
 | @tup n a xs ds e l i ih=>
  intro m d' h
  cases h with
  | @tup m _ ys Cj e' l' i'=>
   rw[e] at e'
   cases e'
   congr 1
   apply List.ext_getElem (by omega)
   intro j h1 h2
   have hj:j < xs.length:=by omega
   exact ih j xs[j] ds[j] (by simp) (by simp) (i' j xs[j] Cj[j] (by simp) (by simp))
  | lst e'=>rw[e] at e';cases e'
  | dict e'=>rw[e] at e';cases e'
 | @lst n a xs ds e l i ih=>
  intro m d' h
  cases h with
  | @lst m _ ys Cj e' l' i'=>
   rw[e] at e'
   cases e'
   congr 1
   apply List.ext_getElem (by omega)
   intro j h1 h2
   have hj:j < xs.length:=by omega
   exact ih j xs[j] ds[j] (by simp) (by simp) (i' j xs[j] Cj[j] (by simp) (by simp))
  | tup e'=>rw[e] at e';cases e'
  | dict e'=>rw[e] at e';cases e'
 | dict e=>
  intro m d' h
  cases h with
  | tup e'=>rw[e] at e';cases e'
  | lst e'=>rw[e] at e';cases e'
  | dict _=>rfl
theorem all_eq {ds Cj:List DV}(he:∀(i:Nat) u v,ds[i]?=some u->Cj[i]?=some v->e i=true->u=v)(h:((List.range (min ds.length Cj.length)).all e && (ds.length == Cj.length))=true):ds=Cj:=by
 rw[Bool.and_eq_true] at h
 obtain⟨h1,h2⟩:=h
 have h2:ds.length=Cj.length:=by simpa using h2
 apply List.ext_getElem h2
 intro j g1 g2
 refine he j _ _ (by simp) (by simp) ?_
 rw[List.all_eq_true] at h1
 exact h1 j (by simp;omega)
theorem Bz {ds:List DV}(he:∀i,i < ds.length->e i=true):((List.range (min ds.length ds.length)).all e && (ds.length == ds.length))=true:=by
 simp
 exact he
theorem lB {K:W.Frag}{H:Hp}{n m:Nat}{x y:V}{d d':DV}(h:HD H 0 x d)(h':HD H m y d')(nb:rV d)(su:rV d')(f:fS x=true):∃b,Ci K H (n + 1) x y b/\(b=true↔d=d'):=by
 cases h <;> cases h' <;> first
  | (refine⟨_,.inr (.inl ⟨rfl,rfl,rfl⟩),?_⟩;simp[Cf];done)
  | (rename_i e _ _;exact⟨false,.inr (.inr (.inl ⟨_,_,rfl,rfl,.inl (bJ.of e),rfl⟩)),by simp⟩)
  | (rename_i e _ _;exact⟨false,.inr (.inr (.inl ⟨_,_,rfl,rfl,.inr (aP.of e),rfl⟩)),by simp⟩)
  | (exfalso;cases nb;done)
  | (exfalso;cases su;done)
theorem uT {K:W.Frag}{H:Hp}:∀(n:Nat) {x y:V} {d d':DV} {m:Nat},HD H n x d->HD H m y d'->rV d->rV d'->∃b,Ci K H (n + 1) x y b/\(b=true↔d=d'):=by
 have items:∀{k m:Nat} {xs ys:List V} {ds es:List DV},(∀{x y:V} {d d':DV} {m:Nat},HD H k x d->HD H m y d'->rV d->rV d'->∃b,Ci K H (k + 1) x y b/\(b=true↔d=d'))->xs.length=ds.length->ys.length=es.length->
   (∀(i:Nat) u e,xs[i]?=some u->ds[i]?=some e->HD H k u e)->(∀(i:Nat) u e,ys[i]?=some u->es[i]?=some e->HD H m u e)->(∀e ∈ ds,rV e)->(∀e ∈ es,rV e)->
   ∃e:Nat->Bool,(∀(i:Nat) u v,xs[i]?=some u->ys[i]?=some v->Ci K H (k + 1) u v (e i))/\(((List.range (min xs.length ys.length)).all e && (xs.length == ys.length))=true↔ds=es):=by
  intro k m xs ys ds es ih l l' i i' nb su
  have pick:∀j:Nat,∃b:Bool,(∀u v,xs[j]?=some u->ys[j]?=some v->Ci K H (k + 1) u v b)/\(∀u v,ds[j]?=some u->es[j]?=some v->(b=true↔u=v)):=by
   intro j
   by_cases hj:j < xs.length/\j < ys.length
   ·obtain⟨h1,h2⟩:=hj
    have h3:j < ds.length:=by omega
    have h4:j < es.length:=by omega
    obtain⟨b,e1,e2⟩:=ih (i j xs[j] ds[j] (by simp) (by simp)) (i' j ys[j] es[j] (by simp) (by simp)) (nb _ (List.getElem_mem h3)) (su _ (List.getElem_mem h4))
    refine⟨b,λu v p q=>?_,λu v p q=>?_⟩
    ·rw[cA h1] at p;rw[cA h2] at q;cases p;cases q;exact e1
    ·rw[cA h3] at p;rw[cA h4] at q;cases p;cases q;exact e2
   ·refine⟨true,λu v p q=>?_,λu v p q=>?_⟩
    ·exact absurd ⟨(List.getElem?_eq_some_iff.mp p).1,(List.getElem?_eq_some_iff.mp q).1⟩ hj
    ·exact absurd ⟨by rw[l];exact(List.getElem?_eq_some_iff.mp p).1,by rw[l'];exact(List.getElem?_eq_some_iff.mp q).1⟩ hj
  obtain⟨e,he⟩:=Classical.axiomOfChoice pick
  refine⟨e,λi u v p q=>(he i).1 u v p q,λh=>?_,λh=>?_⟩
  ·rw[l,l'] at h
   exact all_eq (λi u v p q=>((he i).2 u v p q).mp) h
  ·subst h
   rw[l,l']
   refine Bz λi hi=>?_
   exact((he i).2 ds[i] ds[i] (by simp) (by simp)).mpr rfl
 intro n
 induction n with
 | zero=>
  intro x y d d' m h h' nb su
  cases h with
  | bR=>exact lB .bR h' nb su rfl
  | int j=>exact lB (.int j) h' nb su rfl
  | str j=>exact lB (.str j) h' nb su rfl
  | bl _=>cases nb
  | dict _=>cases nb
 | succ n ih=>
  intro x y d d' m h h' nb su
  by_cases Xa:∃a,x=.ref a/\y=.ref a
  ·obtain⟨a,rfl,rfl⟩:=Xa
   exact⟨true,.inl ⟨a,rfl,rfl,rfl⟩,by simp[ID h h']⟩
  cases h with
  | @tup _ a xs ds e l i=>
   cases nb with
   | tup nb=>
   cases h' with
   | @tup m c ys es e' l' i'=>
    cases su with
    | tup su=>
    obtain⟨f,f1,f2⟩:=items ih l l' i i' nb su
    exact⟨_,.inr (.inr (.inr (.inr (.inr ⟨a,c,xs,ys,f,rfl,rfl,λz=>Xa ⟨a,rfl,by rw[z]⟩,.inl ⟨bJ.of e,bJ.of e'⟩,f1,rfl⟩)))),f2.trans (by simp)⟩
   | @lst m c ys es e' l' i'=>exact⟨false,.inr (.inr (.inr (.inr (.inl ⟨a,c,xs,ys,rfl,rfl,.inl ⟨bJ.of e,aP.of e'⟩,rfl⟩)))),by simp⟩
   | dict _=>cases su
   | bl _=>cases su
   | bR=>exact⟨false,.inr (.inr (.inr (.inl ⟨a,xs,rfl,rfl,.inl (bJ.of e),rfl⟩))),by simp⟩
   | int j=>exact⟨false,.inr (.inr (.inr (.inl ⟨a,xs,rfl,rfl,.inl (bJ.of e),rfl⟩))),by simp⟩
   | str j=>exact⟨false,.inr (.inr (.inr (.inl ⟨a,xs,rfl,rfl,.inl (bJ.of e),rfl⟩))),by simp⟩
  | @lst _ a xs ds e l i=>
   cases nb with
   | lst nb=>
   cases h' with
   | @lst m c ys es e' l' i'=>
    cases su with
    | lst su=>
    obtain⟨f,f1,f2⟩:=items ih l l' i i' nb su
    exact⟨_,.inr (.inr (.inr (.inr (.inr ⟨a,c,xs,ys,f,rfl,rfl,λz=>Xa ⟨a,rfl,by rw[z]⟩,.inr ⟨aP.of e,aP.of e'⟩,f1,rfl⟩)))),f2.trans (by simp)⟩
   | @tup m c ys es e' l' i'=>exact⟨false,.inr (.inr (.inr (.inr (.inl ⟨a,c,xs,ys,rfl,rfl,.inr ⟨aP.of e,bJ.of e'⟩,rfl⟩)))),by simp⟩
   | dict _=>cases su
   | bl _=>cases su
   | bR=>exact⟨false,.inr (.inr (.inr (.inl ⟨a,xs,rfl,rfl,.inr (aP.of e),rfl⟩))),by simp⟩
   | int j=>exact⟨false,.inr (.inr (.inr (.inl ⟨a,xs,rfl,rfl,.inr (aP.of e),rfl⟩))),by simp⟩
   | str j=>exact⟨false,.inr (.inr (.inr (.inl ⟨a,xs,rfl,rfl,.inr (aP.of e),rfl⟩))),by simp⟩
  | dict _=>cases nb
  | bl _=>cases nb
  | bR=>exact(lB (n:=n + 1) .bR h' nb su rfl)
  | int j=>exact(lB (n:=n + 1) (.int j) h' nb su rfl)
  | str j=>exact(lB (n:=n + 1) (.str j) h' nb su rfl)
end L2
namespace L2
open PySem
variable {H:Hp}{σ:St}
theorem IE {t u:TS}{D:Ends}(h:∀N:St->Hp->Prop,N=u D->t {D with nx:=N} σ H):A7 t u D σ H:=h _ rfl
theorem IF {c:TT}{t u:TS}{D:Ends}(h:∀T U:St->Hp->Prop,T=t D->U=u D->c σ H λb H1=>if b=true then T σ H1 else U σ H1):A8 c t u D σ H:=h _ _ rfl rfl
theorem M4 {i:Nat}{v:V}{Q:St->Hp->Prop}(h:Q (σ.set i (some v)) H):gR i v σ H Q:=h
theorem M5 {N M:St->Hp->Prop}(e:N=M)(h:M σ H):N σ H:=e ▸ h
end L2
namespace DD
open PySem L2
variable {x:Addr}{Z:Addr->Prop}{o:HO}{H H' H1:Hp}{vs:List V}
structure MD where
 M:Int
 ns:List Int
 row:List Int
 ds:List bH
structure Good (M:Int)(ns row:List Int)(ds:List bH):Prop where
 m2:2<=M
 Xb:M<=1000000000000
 l1:1<=ns.length
 l4:ns.length<=4
 U6:row.length<=12
 bn:∀z ∈ ns,0<=z/\z < M
 br:∀z ∈ row,0<=z/\z < M
 U7:ds.length<=24
 ok:∀d ∈ ds,d.ok ns.length
abbrev MD.good(d:MD):Prop:=Good d.M d.ns d.row d.ds
instance:Inhabited MD:=⟨⟨0,[],[],[]⟩⟩
noncomputable def iL (Z:Addr->Prop) (H:Hp):Hp:=λx=> @ite _ (Z x) (Classical.propDecidable _) (some (.own 0)) (H x)
theorem fZ (h:¬Z x):iL Z H x=H x:=by unfold iL;rw[if_neg h]
theorem yu (h:Z x):iL Z H x=some (.own 0):=by unfold iL;rw[if_pos h]
theorem cS (h:iL Z H x=some o)(ho:∀k,o≠.own k):¬Z x/\H x=some o:=by
 by_cases hz:Z x
 ·rw[yu hz] at h;cases h;exact absurd rfl (ho 0)
 ·rw[fZ hz] at h;exact⟨hz,h⟩
theorem Aa (h:Z x):iL Z (upd H x o)=iL Z H:=by
 funext b
 by_cases hz:Z b
 ·rw[yu hz,yu hz]
 ·rw[fZ hz,fZ hz,ay (λe:b=x=>hz (e ▸ h))]
def Cv (H H':Hp):Prop:=∀b o,H b=some o->(∀k,o≠.own k)->H' b=some o
theorem Cv.refl(H:Hp):Cv H H:=λ_ _ e _=>e
theorem Cv.trans{H2:Hp}(a:Cv H H1)(b:Cv H1 H2):Cv H H2:=λc o e n=>b c o (a c o e n) n
theorem _root_.L2.av.cv(s:av H H'):Cv H H':=λb o e _=>s b o e
def soft:HO->Prop
 | .lst _=>True
 | .dK _=>True
 | _=>False
def Fr (Z:Addr->Prop)(H H':Hp):Prop:=∀b o,H b=some o->(Z b->¬soft o)->H' b=some o
theorem Fr.refl:Fr Z H H:=λ_ _ e _=>e
theorem Fr.trans{H2:Hp}(a:Fr Z H H1)(b:Fr Z H1 H2):Fr Z H H2:=λc o e n=>b c o (a c o e n) n
theorem _root_.L2.av.fr(s:av H H'):Fr Z H H':=λb o e _=>s b o e
theorem Fr.at (a:Fr Z H H'){b:Addr}{o:HO}(e:H b=some o)(h:¬Z b):H' b=some o:=a b o e λz=>absurd z h
theorem Fr.lE(a:Fr Z H H'){b:Addr}{o:HO}(e:H b=some o)(h:¬soft o):H' b=some o:=a b o e λ_=>h
theorem Fr.upd(a:Fr Z H H1){x:Addr}{o u:HO}(h:Z x)(hx:H1 x=some u)(hu:soft u):Fr Z H (upd H1 x o):=λc v e n=>by
 by_cases z:c=x
 ·subst z
  have e1:=a c v e n
  rw[hx] at e1
  cases e1
  exact absurd hu (n h)
 ·rw[ay z];exact a c v e n
theorem Fr.new(a:Fr Z H H1){x:Addr}{o:HO}(h:H1 x=none):Fr Z H (L2.upd H1 x o):=a.trans (av.new o h).fr
theorem Fr.mono{Z':Addr->Prop}(a:Fr Z H H1)(h:∀b,Z b->Z' b):Fr Z' H H1:=λc o e n=>a c o e λz=>n (h c z)
theorem Fr.aQ(h:Fr Z H H'):bQ H H':=λb xs e=>h b _ e λ_=>id
theorem Fr.iL(h:Fr Z H H'):Cv (iL Z H) (iL Z H'):=λb o e n=>by
 obtain⟨h1,h2⟩:=cS e n
 rw[fZ h1]
 exact h.at h2 h1
theorem Fr.free{Z:Addr->Prop}{H H':Hp}(h:Fr Z H H')(hz:∀b,Z b->H' b≠none){b:Addr}(e:H' b=none):H b=none:=by
 cases e1:H b with
 | none=>rfl
 | some o=>
  by_cases z:Z b
  ·exact absurd e (hz b z)
  ·rw[h.at e1 z] at e;cases e
theorem dW:Cv (iL Z H) H:=λb o e n=>(cS e n).2
theorem Cv.aQ(h:Cv H H'):bQ H H':=λb xs e=>h b _ e (λk z=>by cases z)
theorem _root_.L2.HD.cv{H H':Hp}(s:Cv H H'){n:Nat}{x:V}{d:DV}(h:HD H n x d):HD H' n x d:=by
 induction h with
 | bR=>exact .bR
 | bl b=>exact .bl b
 | int i=>exact .int i
 | str x=>exact .str x
 | tup e l i ih=>exact .tup (s _ _ e (λk z=>by cases z)) l ih
 | lst e l i ih=>exact .lst (s _ _ e (λk z=>by cases z)) l ih
 | dict e=>exact .dict (s _ _ e (λk z=>by cases z))
def c9 (H:Hp)(n:Nat)(vs:List V)(ds:List DV):Prop:=vs.length=ds.length/\∀(i:Nat) v d,vs[i]?=some v->ds[i]?=some d->HD H n v d
theorem c9.cv(s:Cv H H'){n:Nat}{vs:List V}{ds:List DV}(h:c9 H n vs ds):c9 H' n vs ds:=⟨h.1,λi v d a b=>(h.2 i v d a b).cv s⟩
theorem c9.nil{n:Nat}:c9 H n [] []:=⟨rfl,λi v d a=>by simp at a⟩
theorem c9.mono{n m:Nat}{ds:List DV}(h:c9 H n vs ds)(hm:n<=m):c9 H m vs ds:=⟨h.1,λi v d a b=>(h.2 i v d a b).mono hm⟩
theorem c9.app{n:Nat}{us:List V}{ds es:List DV}(h:c9 H n vs ds)(g:c9 H n us es):c9 H n (vs++us) (ds++es):=by
 refine⟨by simp[h.1,g.1],λi v d a b=>?_⟩
 by_cases hi:i < vs.length
 ·rw[List.getElem?_append_left hi] at a
  rw[List.getElem?_append_left (by rw[<-h.1];exact hi)] at b
  exact h.2 i _ _ a b
 ·rw[List.getElem?_append_right (by omega)] at a
  rw[List.getElem?_append_right (by rw[<-h.1];omega),<-h.1] at b
  exact g.2 _ _ _ a b
theorem c9.one{H:Hp}{n:Nat}{v:V}{d:DV}(h:HD H n v d):c9 H n [v] [d]:=by
 refine⟨rfl,λi u e a b=>?_⟩
 cases i with
 | zero=>simp at a b;subst a b;exact h
 | succ i=>simp at a
theorem c9.snoc{n:Nat}{ds:List DV}{v:V}{d:DV}(h:c9 H n vs ds)(g:HD H n v d):c9 H n (vs++[v]) (ds++[d]):=h.app (.one g)
theorem c9.set{n:Nat}{ds:List DV}{v:V}{d:DV}(h:c9 H n vs ds)(g:HD H n v d)(k:Nat):c9 H n (vs.set k v) (ds.set k d):=by
 refine⟨by simp[h.1],λi u e a b=>?_⟩
 rw[List.getElem?_set] at a b
 by_cases hk:k=i
 ·rw[if_pos hk] at a b
  split at a
  ·rw[if_pos (by rw[<-h.1];assumption)] at b;cases a;cases b;exact g
  ·cases a
 ·rw[if_neg hk] at a b;exact h.2 i u e a b
theorem c9.ints{H:Hp}{n:Nat}(ns:List Int):c9 H n (ns.map V.int) (ns.map DV.int):=by
 refine⟨by simp,λi v d a b=>?_⟩
 rw[List.getElem?_map] at a b
 cases hj:ns[i]? with
 | none=>rw[hj] at a;cases a
 | some z=>rw[hj] at a b;cases a;cases b;exact .int z
theorem c9.jM{n:Nat}{ns:List Int}(h:c9 H n vs (ns.map DV.int)):vs=ns.map V.int:=by
 apply List.ext_getElem (by simpa using h.1)
 intro j h1 h2
 have h3:j < ns.length:=by simpa using h2
 have:=h.2 j vs[j] (.int ns[j]) (by simp) (by simp[h3])
 simp only[List.getElem_map]
 generalize vs[j]=y at this
 cases this
 rfl
theorem c9.get{n:Nat}{ds:List DV}(h:c9 H n vs ds){i:Nat}{d:DV}(e:ds[i]?=some d):∃v,vs[i]?=some v/\HD H n v d:=by
 have h1:i < ds.length:=(List.getElem?_eq_some_iff.mp e).1
 have h2:i < vs.length:=by rw[h.1];exact h1
 exact⟨vs[i],by simp,h.2 i _ _ (by simp) e⟩
inductive CO where
 | l (ds:List DV) | d (g:Int->Option DV) (n:Nat)
def OR (H:Hp):CO->HO->Prop
 | .l ds,.lst vs=>c9 H 4 vs ds
 | .d g n,.dK bc=>bc.length<=n/\∀k:Int,match g k with
  | none=>gI bc (Sum.inl k)=none
  | some d=>∃v,gI bc (Sum.inl k)=some v/\HD H 4 v d
 | _,_=>False
theorem OR.cv{H H':Hp}(s:Cv H H'){c:CO}{o:HO}(h:OR H c o):OR H' c o:=by
 cases c with
 | l ds=>
  cases o with
  | lst vs=>exact c9.cv s h
  | _=>exact False.elim h
 | d g n=>
  cases o with
  | dK bc=>
   refine⟨h.1,λk=>?_⟩
   have:=h.2 k
   revert this
   cases g k with
   | none=>exact id
   | some d=>exact λ⟨v,e,hv⟩=>⟨v,e,hv.cv s⟩
  | _=>exact False.elim h
def FP (n:Nat->Nat)(ad:Nat->Nat->Addr)(b:Addr):Prop:=∃t i,i < n t/\b=ad t i
structure dO (F:Addr->Prop)(H:Hp)(n:Nat->Nat)(ad:Nat->Nat->Addr)(ct:Nat->Nat->CO):Prop where
 inj:∀t i t' i',i < n t->i' < n t'->ad t i=ad t' i'->t=t'/\i=i'
 out:∀t i,i < n t->¬F (ad t i)
 Ck:∀t i,i < n t->∃o,H (ad t i)=some o/\OR (iL (λb=>F b\/FP n ad b) H) (ct t i) o
def setC (ct:Nat->Nat->CO)(t i:Nat)(c:CO):Nat->Nat->CO:=λt' i'=>if t'=t/\i'=i then c else ct t' i'
section
variable {F:Addr->Prop}{H H':Hp}{n:Nat->Nat}{ad:Nat->Nat->Addr}{ct ct':Nat->Nat->CO}
theorem dO.keep(h:dO F H n ad ct)(fr:Fr F H H'):dO F H' n ad ct:=
 ⟨h.inj,h.out,λt i hi=>by
  obtain⟨o,e,r⟩:=h.Ck t i hi
  exact⟨o,fr.at e (h.out t i hi),r.cv (fr.mono λb z=>.inl z).iL⟩⟩
theorem dO.same(h:dO F H n ad ct)(s:av H H'):dO F H' n ad ct:=h.keep s.fr
theorem dO.congr(h:dO F H n ad ct)(e:∀t i,i < n t->ct t i=ct' t i):dO F H n ad ct':=
 ⟨h.inj,h.out,λt i hi=>by rw[<-e t i hi];exact h.Ck t i hi⟩
theorem dO.upd(h:dO F H n ad ct){t i:Nat}(hi:i < n t){c:CO}{o:HO}(r:OR (iL (λb=>F b\/FP n ad b) H) c o):dO F (upd H (ad t i) o) n ad (setC ct t i c):=by
 have hz:(λb=>F b\/FP n ad b) (ad t i):=.inr ⟨t,i,hi,rfl⟩
 refine⟨h.inj,h.out,λt' i' iH=>?_⟩
 rw[Aa hz]
 by_cases e:t'=t/\i'=i
 ·obtain⟨rfl,rfl⟩:=e
  exact⟨o,af,by unfold setC;rw[if_pos ⟨rfl,rfl⟩];exact r⟩
 ·obtain⟨o',e',r'⟩:=h.Ck t' i' iH
  refine⟨o',?_,by unfold setC;rw[if_neg e];exact r'⟩
  rw[ay (λz=>e (h.inj _ _ _ _ iH hi z))]
  exact e'
theorem dO.lst(h:dO F H n ad ct){t i:Nat}(hi:i < n t){ds:List DV}(e:ct t i=.l ds):∃vs,H (ad t i)=some (.lst vs)/\c9 (iL (λb=>F b\/FP n ad b) H) 4 vs ds:=by
 obtain⟨o,e',r⟩:=h.Ck t i hi
 rw[e] at r
 cases o with
 | lst vs=>exact⟨vs,e',r⟩
 | _=>exact r.elim
theorem dO.dct(h:dO F H n ad ct){t i:Nat}(hi:i < n t){g:Int->Option DV}{N:Nat}(e:ct t i=.d g N):∃bc,H (ad t i)=some (.dK bc)/\OR (iL (λb=>F b\/FP n ad b) H) (.d g N) (.dK bc):=by
 obtain⟨o,e',r⟩:=h.Ck t i hi
 rw[e] at r
 cases o with
 | dK vs=>exact⟨vs,e',r⟩
 | _=>exact r.elim
theorem dO.app(h:dO F H n ad ct){t i:Nat}(hi:i < n t){ds:List DV}(e:ct t i=.l ds){vs:List V}(hv:H (ad t i)=some (.lst vs)){us:List V}{es:List DV}(g:c9 (iL (λb=>F b\/FP n ad b) H) 4 us es):
  dO F (L2.upd H (ad t i) (.lst (vs++us))) n ad (setC ct t i (.l (ds++es))):=by
 obtain⟨U8,e',r⟩:=h.lst hi e
 rw[hv] at e'
 cases e'
 exact h.upd hi (show c9 _ 4 _ _ from r.app g)
theorem dO.set(h:dO F H n ad ct){t i:Nat}(hi:i < n t){ds:List DV}(e:ct t i=.l ds){vs:List V}(hv:H (ad t i)=some (.lst vs)){k:Nat}{v:V}{d:DV}(g:HD (iL (λb=>F b\/FP n ad b) H) 4 v d):
  dO F (L2.upd H (ad t i) (.lst (vs.set k v))) n ad (setC ct t i (.l (ds.set k d))):=by
 obtain⟨U8,e',r⟩:=h.lst hi e
 rw[hv] at e'
 cases e'
 exact h.upd hi (show c9 _ 4 _ _ from r.set g k)
theorem OR.soft{c:CO}(h:OR H c o):soft o:=by
 cases c <;> cases o <;> first | trivial | exact False.elim h
theorem dO.soft(h:dO F H n ad ct){t i:Nat}(hi:i < n t):∃o,H (ad t i)=some o/\DD.soft o:=by
 obtain⟨o,e,r⟩:=h.Ck t i hi
 exact⟨o,e,r.soft⟩
theorem dO.fp(h:dO F H n ad ct){b:Addr}(hb:FP n ad b):∃o,H b=some o/\DD.soft o:=by
 obtain⟨t,i,hi,rfl⟩:=hb
 exact h.soft hi
theorem dO.ne(h:dO F H n ad ct){b:Addr}{o:HO}(e:H b=some o)(ho:¬DD.soft o):¬FP n ad b:=λz=>by
 obtain⟨u,e1,e2⟩:=h.fp z
 rw[e] at e1;cases e1;exact ho e2
theorem dO.ht(h:dO F H n ad ct)(hF:∀b,F b->∃o,H b=some o/\DD.soft o){m:Nat}{x:V}{d:DV}(g:HT H m x d):HD (DD.iL (λb=>F b\/FP n ad b) H) m x d:=by
 refine HT.hd (g.aI λb xs e=>?_)
 rw[fZ]
 ·exact e
 ·rintro(z | z)
  ·obtain⟨o,e1,e2⟩:=hF b z
   rw[e] at e1;cases e1;exact e2
  ·exact h.ne e id z
end
end DD
namespace DD
open PySem L2
variable {B i:Nat}
def _root_.List.bg{α:Type}(l:List α)(d:α):α:=l.getD (l.length - 1) d
theorem getD_at {α:Type}{l:List α}{x d:α}(h:l[i]?=some x):l.getD i d=x:=by rw[List.getD_eq_getElem?_getD,h];rfl
theorem bz {α:Type}{l:List α}{d:α}(h:i < l.length):l[i]?=some (l.getD i d):=by rw[List.getD_eq_getElem?_getD,cA h];rfl
theorem getD_mem {α:Type}{l:List α}{d:α}(h:i < l.length):l.getD i d ∈ l:=List.mem_of_getElem? (bz h)
theorem qV {α:Type}{l:List α}{x d:α}:(l++[x]).bg d=x:=by
 unfold List.bg
 exact getD_at (by simp)
theorem gb {α:Type}{l:List α}{d:α}(h:1<=l.length):l.bg d ∈ l:=getD_mem (by omega)
theorem jy {α:Type}{l:List α}{d:α}(h:1<=l.length):l[l.length - 1]?=some (l.bg d):=bz (by omega)
structure MS where
 gE:List (List Int×List Int)
 wp:List (List Int)
 hr:List (List Int)
structure WY where
 say:List Int
 snd:List (Option (Int×Int))
 jN:List (Option (Int×Int))
structure RS where
 picks:List (Int×Int)
 mm:Nat->MS
 ww:Nat->WY
structure NT where
 ms:List MD
 ws:List (Int×Int×Str)
def pairD (p:Int×Int):DV:=.tup [.int p.1,.int p.2]
def tN:Option (Int×Int)->DV
 | none=>.bR
 | some p=>pairD p
def pU (s:List Int×List Int):DV:=vo s.1 s.2
def NT.M(n:NT)(m:Nat):Int:=(n.ms.getD m default).M
def NT.nn(n:NT)(m:Nat):Nat:=(n.ms.getD m default).ns.length
def NT.ds(n:NT)(m:Nat):List bH:=(n.ms.getD m default).ds
def NT.w(n:NT)(w:Nat):Int×Int×Str:=n.ws.getD w (0,0,"")
def NT.outs(n:NT)(m:Int):List Nat:=(List.range n.ws.length).filter λi=>decide ((n.w i).1=m)
def NT.ins(n:NT)(m:Int):List Nat:=(List.range n.ws.length).filter λi=>decide ((n.w i).2.1=m)
def NT.goal(n:NT)(w:Nat):Nat:=(n.w w).2.1.toNat
def NT.place(n:NT)(w:Nat):Nat:=(n.ins (n.w w).2.1).idxOf w
def RS.put(r:RS)(w:Nat)(x:Int)(s:Option (Int×Int)):RS:=
 {r with ww:=λk=>if k=w then⟨(r.ww w).say++[x],(r.ww w).snd++[s],(r.ww w).jN++[none]⟩ else r.ww k}
def RS.send(r:RS)(outs:List Nat)(ev:Int×Int):List (Int×Int)->RS
 | []=>r
 | p::ps=>(if p.1.toNat < outs.length then r.put (outs.getD p.1.toNat 0) p.2 (some ev) else r).send outs ev ps
def NT.work(n:NT)(r:RS)(w k:Nat):WS:=
 nk (n.M (n.goal w)) (n.place w) ((r.ww w).say.getD k 0) (n.ds (n.goal w)) ((r.mm (n.goal w)).gE.bg ([],[])).1 ((r.mm (n.goal w)).gE.bg ([],[])).2
def NT.ev(n:NT)(r:RS)(w:Nat):Int×Int:=((n.goal w:Nat),((r.mm (n.goal w)).gE.length:Nat))
def NT.gU(n:NT)(r:RS)(w k:Nat):List Int:=
 let m:=n.goal w
 let BA:=(r.mm m).hr.bg (List.replicate n.ms.length 0)
 let Xc:=match (r.ww w).snd.getD k none with
  | none=>BA
  | some (s,c)=>List.zipWith max BA ((r.mm s.toNat).hr.getD (c - 1).toNat [])
 Xc.set m (n.ev r w).2
def RS.step(n:NT)(r:RS)(w k:Nat):RS:=
 let m:=n.goal w
 let res:=n.work r w k
 {picks:=r.picks++[((w:Int),(k:Int))]
  mm:=λi=>if i=m then⟨(r.mm m).gE++[(res.ns,res.row)],(r.mm m).wp++[(r.mm m).wp.bg []++res.words],(r.mm m).hr++[n.gU r w k]⟩ else r.mm i
  ww:=λi=>if i=w then {(r.ww w) with jN:=(r.ww w).jN.set k (some (n.ev r w))} else r.ww i}
def RS.pick(n:NT)(r:RS)(w k:Nat):RS:=(r.step n w k).send (n.outs (n.goal w)) (n.ev r w) (n.work r w k).cq
def RS.oj(r:RS):List (Int×Int)->RS
 | []=>r
 | p::ps=>(r.put p.1.toNat p.2 none).oj ps
def RS.new(n:NT):RS:=⟨[],λm=>⟨[((n.ms.getD m default).ns,(n.ms.getD m default).row)],[[]],[]⟩,λ_=>⟨[],[],[]⟩⟩
def RS.begin(n:NT)(ls:List (Int×Int)):RS:=(RS.new n).oj ls
def kn (l:List (Option (Int×Int)))(k:Int):Option DV:=if 0<=k then(l.getD k.toNat none).map pairD else none
def RS.ct(r:RS):Nat->Nat->CO
 | 0,_=>.l (r.picks.map pairD)
 | 1,m=>.l ((r.mm m).gE.map pU)
 | 2,m=>.l ((r.mm m).wp.map λw=>.int (w.length:Nat))
 | 3,m=>.l (((r.mm m).wp.bg []).map .int)
 | 4,w=>.l ((r.ww w).say.map .int)
 | 5,w=>.l ((r.ww w).snd.map tN)
 | _,w=>.l ((r.ww w).jN.map tN)
def NT.n(n:NT):Nat->Nat
 | 0=>1
 | 1=>n.ms.length
 | 2=>n.ms.length
 | 3=>n.ms.length
 | 4=>n.ws.length
 | 5=>n.ws.length
 | 6=>n.ws.length
 | _=>0
structure NT.Ok(n:NT):Prop where
 U9:n.ms.length<=5
 ms1:1<=n.ms.length
 BB:n.ws.length<=10
 good:∀d ∈ n.ms,d.good
 Xd:∀w ∈ n.ws,0<=w.1/\w.1 < n.ms.length/\0<=w.2.1/\w.2.1 < n.ms.length/\(w.2.2="row"\/w.2.2="heap")
structure IG (M:Int)(nn:Nat)(s:List Int×List Int):Prop where
 ln:s.1.length=nn
 bn:∀z ∈ s.1,0<=z/\z < M
 lr:s.2.length<=12
structure RS.Ok(n:NT)(r:RS):Prop where
 lw:∀m,m < n.ms.length->(r.mm m).gE.length=(r.mm m).wp.length
 lh:∀m,m < n.ms.length->(r.mm m).gE.length=(r.mm m).hr.length + 1
 so:∀m,m < n.ms.length->∀s ∈ (r.mm m).gE,IG (n.M m) (n.nn m) s
 hl:∀m,m < n.ms.length->∀h ∈ (r.mm m).hr,h.length=n.ms.length
 ls:∀w,w < n.ws.length->(r.ww w).say.length=(r.ww w).snd.length
 lk:∀w,w < n.ws.length->(r.ww w).say.length=(r.ww w).jN.length
 sd:∀w,w < n.ws.length->∀s c,some (s,c) ∈ (r.ww w).snd->0<=s/\s < n.ms.length/\1<=c/\c<=(r.mm s.toNat).hr.length
 bp:∀m,m < n.ms.length->(r.mm m).gE.length<=r.picks.length + 1
 bw:∀m,m < n.ms.length->∀w ∈ (r.mm m).wp,w.length<=24 * r.picks.length
 bs:∀w,w < n.ws.length->(r.ww w).say.length<=20 + 24 * r.picks.length
 Ri:∀m,m < n.ms.length->∀u ∈ (r.mm m).wp,u <+:(r.mm m).wp.bg []
theorem v8 {M way said:Int}{n:Int}:∀(f:Nat) (ds:List bH) (s:WS),(∀d ∈ ds,d.ok n)->(∀p ∈ s.cq,0<=p.1)->∀p ∈ (vY M way said f ds s).cq,0<=p.1
 | 0,_,s,_,h=>h
 | f + 1,[],s,_,h=>h
 | f + 1,d::r,s,hd,h=>by
  refine v8 f _ _ (λe he=>hd e (List.mem_cons_of_mem _ (List.mem_of_mem_drop he))) ?_
  intro p hp
  have hp:p ∈ s.cq++bD ((d.vals.map (fG M way said s.ns s.row)).getD 0 0) d:=hp
  rcases List.mem_append.mp hp with hp | hp
  ·exact h p hp
  ·have bf:=hd d (List.mem_cons_self ..)
   cases d with
   | send j v=>
    simp only[bD,List.mem_singleton] at hp
    subst hp
    exact bf.1
   | _=>simp only[bD,List.not_mem_nil] at hp
theorem Ab {M way said:Int}:∀(f:Nat) (ds:List bH) (s:WS),(vY M way said f ds s).cq.length<=s.cq.length + ds.length/\(vY M way said f ds s).words.length<=s.words.length + ds.length/\(vY M way said f ds s).ns.length=s.ns.length
 | 0,_,s=>⟨Nat.le_add_right ..,Nat.le_add_right ..,rfl⟩
 | f + 1,[],s=>⟨Nat.le_refl _,Nat.le_refl _,rfl⟩
 | f + 1,d::r,s=>by
  obtain⟨h1,h2,h3⟩:=Ab (M:=M) (way:=way) (said:=said) f (r.drop (lM M way said d s).toNat) (fJ M way said d s)
  have a1:(fJ M way said d s).cq.length<=s.cq.length + 1:=by
   show(s.cq++bD _ d).length<=_
   cases d <;> simp[bD]
  have a2:(fJ M way said d s).words.length<=s.words.length + 1:=by
   show(s.words++aX _ d).length<=_
   cases d <;> simp[aX]
  have a3:(fJ M way said d s).ns.length=s.ns.length:=bZ
  have a4:(r.drop (lM M way said d s).toNat).length<=r.length:=by simp
  refine⟨?_,?_,?_⟩
  ·show(vY M way said f _ _).cq.length<=_
   simp only[List.length_cons];omega
  ·show(vY M way said f _ _).words.length<=_
   simp only[List.length_cons];omega
  ·show(vY M way said f _ _).ns.length=_
   omega
theorem Ac {M way said:Int}(hM:0 < M):∀(f:Nat) (ds:List bH) (s:WS),(∀z ∈ s.ns,0<=z/\z < M)->s.row.length<=12->(∀z ∈ (vY M way said f ds s).ns,0<=z/\z < M)/\(vY M way said f ds s).row.length<=12
 | 0,_,s,h,g=>⟨h,g⟩
 | f + 1,[],s,h,g=>⟨h,g⟩
 | f + 1,d::r,s,h,g=>by
  refine Ac hM f _ _ ?_ ?_
  ·have md:∀y:Int,0<=y % M/\y % M < M:=λy=>⟨Int.emod_nonneg _ (by omega),Int.emod_lt_of_pos _ hM⟩
   have key:∀(j:Nat) (y:Int),(0<=y/\y < M)->∀z ∈ s.ns.set j y,0<=z/\z < M:=λj y hy z hz=>by
    rcases List.mem_or_eq_of_mem_set hz with h' | h'
    ·exact h z h'
    ·rw[h'];exact hy
   show ∀z ∈ de M s.ns ((d.vals.map (fG M way said s.ns s.row)).getD 0 0) d,0<=z/\z < M
   cases d with
   | set i v=>exact key _ _ (md _)
   | add i v=>exact key _ _ (md _)
   | times i v=>exact key _ _ (md _)
   | _=>exact h
  ·show(fH s.row ((d.vals.map (fG M way said s.ns s.row)).getD 0 0) d).length<=12
   cases d with
   | put v=>
    simp only[fH]
    split
    ·simp;omega
    ·exact g
   | drop=>simp only[fH,List.length_tail];omega
   | _=>exact g
section
variable {n:NT}{r:RS}
theorem NT.Ok.gd(h:n.Ok){m:Nat}(hm:m < n.ms.length):(n.ms.getD m default).good:=by
 exact h.good _ (getD_mem hm)
theorem NT.Ok.wy(h:n.Ok){w:Nat}(hw:w < n.ws.length):0<=(n.w w).1/\(n.w w).1 < n.ms.length/\0<=(n.w w).2.1/\(n.w w).2.1 < n.ms.length/\((n.w w).2.2="row"\/(n.w w).2.2="heap"):=by
 exact h.Xd _ (getD_mem hw)
theorem NT.Ok.jO(h:n.Ok){w:Nat}(hw:w < n.ws.length):n.goal w < n.ms.length:=by
 have:=h.wy hw
 unfold NT.goal
 omega
theorem RS.Ok.uU(h:r.Ok n){m:Nat}(hm:m < n.ms.length):1<=(r.mm m).gE.length:=by rw[h.lh m hm];omega
theorem RS.Ok.last(h:r.Ok n){m:Nat}(hm:m < n.ms.length):IG (n.M m) (n.nn m) ((r.mm m).gE.bg ([],[])):=h.so m hm _ (gb (h.uU hm))
theorem ql (hn:n.Ok)(h:r.Ok n){w:Nat}(hw:w < n.ws.length)(k:Nat):IG (n.M (n.goal w)) (n.nn (n.goal w)) ((n.work r w k).ns,(n.work r w k).row)/\(n.work r w k).cq.length<=24/\(n.work r w k).words.length<=24/\∀p ∈ (n.work r w k).cq,0<=p.1:=by
 have hm:=hn.jO hw
 have g:=hn.gd hm
 have l:=h.last hm
 have hl:(n.ds (n.goal w)).length<=24:=g.U7
 have hM:0 < n.M (n.goal w):=by have:=g.m2;show 0 < (n.ms.getD (n.goal w) default).M;omega
 obtain⟨a1,a2,a3⟩:=Ab (M:=n.M (n.goal w)) (way:=n.place w) (said:=(r.ww w).say.getD k 0) (n.ds (n.goal w)).length (n.ds (n.goal w)) ⟨((r.mm (n.goal w)).gE.bg ([],[])).1,((r.mm (n.goal w)).gE.bg ([],[])).2,[],[]⟩
 obtain⟨b1,b2⟩:=Ac hM (way:=n.place w) (said:=(r.ww w).say.getD k 0) (n.ds (n.goal w)).length (n.ds (n.goal w)) ⟨((r.mm (n.goal w)).gE.bg ([],[])).1,((r.mm (n.goal w)).gE.bg ([],[])).2,[],[]⟩ l.bn l.lr
 have c:=v8 (M:=n.M (n.goal w)) (way:=n.place w) (said:=(r.ww w).say.getD k 0) (n:=n.nn (n.goal w)) (n.ds (n.goal w)).length (n.ds (n.goal w)) ⟨((r.mm (n.goal w)).gE.bg ([],[])).1,((r.mm (n.goal w)).gE.bg ([],[])).2,[],[]⟩ g.ok (λp hp=>by simp at hp)
 refine⟨⟨?_,b1,b2⟩,?_,?_,c⟩
 ·exact a3.trans l.ln
 ·exact Nat.le_trans a1 (by simpa using hl)
 ·exact Nat.le_trans a2 (by simpa using hl)
structure RS.rW(n:NT)(r:RS)(B:Nat):Prop where
 lw:∀m,m < n.ms.length->(r.mm m).gE.length=(r.mm m).wp.length
 lh:∀m,m < n.ms.length->(r.mm m).gE.length=(r.mm m).hr.length + 1
 so:∀m,m < n.ms.length->∀s ∈ (r.mm m).gE,IG (n.M m) (n.nn m) s
 hl:∀m,m < n.ms.length->∀h ∈ (r.mm m).hr,h.length=n.ms.length
 ls:∀w,w < n.ws.length->(r.ww w).say.length=(r.ww w).snd.length
 lk:∀w,w < n.ws.length->(r.ww w).say.length=(r.ww w).jN.length
 sd:∀w,w < n.ws.length->∀s c,some (s,c) ∈ (r.ww w).snd->0<=s/\s < n.ms.length/\1<=c/\c<=(r.mm s.toNat).hr.length
 bp:∀m,m < n.ms.length->(r.mm m).gE.length<=r.picks.length + 1
 bw:∀m,m < n.ms.length->∀w ∈ (r.mm m).wp,w.length<=24 * r.picks.length
 bs:∀w,w < n.ws.length->(r.ww w).say.length<=B
 Ri:∀m,m < n.ms.length->∀u ∈ (r.mm m).wp,u <+:(r.mm m).wp.bg []
theorem RS.rW.ok(h:r.rW n B)(hb:B<=20 + 24 * r.picks.length):r.Ok n:=⟨h.lw,h.lh,h.so,h.hl,h.ls,h.lk,h.sd,h.bp,h.bw,λw hw=>Nat.le_trans (h.bs w hw) hb,h.Ri⟩
theorem RS.rW.put(h:r.rW n B){w:Nat}{x:Int}{s:Option (Int×Int)}(hs:∀a c,s=some (a,c)->0<=a/\a < n.ms.length/\1<=c/\c<=(r.mm a.toNat).hr.length):(r.put w x s).rW n (B + 1):=by
 have e:∀k,(r.put w x s).ww k=if k=w then⟨(r.ww w).say++[x],(r.ww w).snd++[s],(r.ww w).jN++[none]⟩ else r.ww k:=λk=>rfl
 refine⟨h.lw,h.lh,h.so,h.hl,λv hv=>?_,λv hv=>?_,λv hv a c hm=>?_,h.bp,h.bw,λv hv=>?_,h.Ri⟩
 ·rw[e];split
  ·next z=>subst z;simp[h.ls v hv]
  ·exact h.ls v hv
 ·rw[e];split
  ·next z=>subst z;simp[h.lk v hv]
  ·exact h.lk v hv
 ·rw[e] at hm;split at hm
  ·next z=>
   subst z
   rcases List.mem_append.mp hm with hm | hm
   ·exact h.sd v hv a c hm
   ·simp at hm;exact hs a c hm.symm
  ·exact h.sd v hv a c hm
 ·rw[e];split
  ·next z=>subst z;have:=h.bs v hv;simp;omega
  ·have:=h.bs v hv;omega
theorem RS.rW.mono{B':Nat}(h:r.rW n B)(hb:B<=B'):r.rW n B':={h with bs:=λw hw=>Nat.le_trans (h.bs w hw) hb}
theorem RS.rW.send{outs:List Nat}{ev:Int×Int}:∀(ps:List (Int×Int)) {r:RS} {B:Nat},r.rW n B->(∀a c,some ev=some (a,c)->0<=a/\a < n.ms.length/\1<=c/\c<=(r.mm a.toNat).hr.length)->(r.send outs ev ps).rW n (B + ps.length)
 | [],r,B,h,_=>h
 | p::ps,r,B,h,hs=>by
  show((if p.1.toNat < outs.length then r.put (outs.getD p.1.toNat 0) p.2 (some ev) else r).send outs ev ps).rW n _
  have e:B + (p::ps).length=B + 1 + ps.length:=by simp;omega
  rw[e]
  split
  ·exact RS.rW.send ps (h.put hs) hs
  ·exact RS.rW.send ps (h.mono (by omega)) hs
theorem RS.uV{outs:List Nat}{ev:Int×Int}:∀(ps:List (Int×Int)) {r:RS},(r.send outs ev ps).mm=r.mm/\(r.send outs ev ps).picks=r.picks
 | [],r=>⟨rfl,rfl⟩
 | p::ps,r=>by
  show((if p.1.toNat < outs.length then r.put (outs.getD p.1.toNat 0) p.2 (some ev) else r).send outs ev ps).mm=_/\((if p.1.toNat < outs.length then r.put (outs.getD p.1.toNat 0) p.2 (some ev) else r).send outs ev ps).picks=_
  split
  ·exact RS.uV ps
  ·exact RS.uV ps
theorem yw {u v w:List Int}(h:u <+:v):u <+:v++w:=by
 obtain⟨t,rfl⟩:=h
 exact⟨t++w,by simp⟩
theorem v9 (hn:n.Ok)(h:r.Ok n){w:Nat}(hw:w < n.ws.length){k:Nat}:(n.gU r w k).length=n.ms.length:=by
 have hm:=hn.jO hw
 have r0:((r.mm (n.goal w)).hr.bg (List.replicate n.ms.length 0)).length=n.ms.length:=by
  by_cases h1:1<=(r.mm (n.goal w)).hr.length
  ·exact h.hl _ hm _ (gb h1)
  ·have e:(r.mm (n.goal w)).hr=[]:=by
    cases hh:(r.mm (n.goal w)).hr with
    | nil=>rfl
    | cons a b=>rw[hh] at h1;simp at h1
   rw[e];simp[List.bg]
 unfold NT.gU
 simp only[List.length_set]
 split
 ·exact r0
 ·next s c e=>
  have hk:k < (r.ww w).snd.length:=by
   by_cases hk:k < (r.ww w).snd.length
   ·exact hk
   ·rw[List.getD_eq_getElem?_getD,List.getElem?_eq_none (by omega)] at e;cases e
  have vO:some (s,c) ∈ (r.ww w).snd:=by rw[<-e];exact getD_mem hk
  obtain⟨s0,s1,c1,c2⟩:=h.sd w hw s c vO
  have:=h.hl s.toNat (by omega) _ (getD_mem (l:=(r.mm s.toNat).hr) (i:=(c - 1).toNat) (d:=[]) (by omega))
  rw[List.length_zipWith,r0,this]
  omega
theorem RS.Ok.step(hn:n.Ok)(h:r.Ok n){w k:Nat}(hw:w < n.ws.length):(r.step n w k).rW n (20 + 24 * r.picks.length):=by
 have hm:=hn.jO hw
 obtain⟨o1,o2,o3,o4⟩:=ql hn h hw k
 have em:∀i,(r.step n w k).mm i=if i=n.goal w then⟨(r.mm (n.goal w)).gE++[((n.work r w k).ns,(n.work r w k).row)],(r.mm (n.goal w)).wp++[(r.mm (n.goal w)).wp.bg []++(n.work r w k).words],(r.mm (n.goal w)).hr++[n.gU r w k]⟩ else r.mm i:=λi=>rfl
 have ew:∀i,(r.step n w k).ww i=if i=w then {(r.ww w) with jN:=(r.ww w).jN.set k (some (n.ev r w))} else r.ww i:=λi=>rfl
 have ep:(r.step n w k).picks.length=r.picks.length + 1:=by show(r.picks++[_]).length=_;simp
 refine⟨λm xG=>?_,λm xG=>?_,λm xG s hs=>?_,λm xG s hs=>?_,λv hv=>?_,λv hv=>?_,λv hv a c hs=>?_,λm xG=>?_,λm xG u hu=>?_,λv hv=>?_,λm xG u hu=>?_⟩
 ·rw[em];split
  ·simp[h.lw _ hm]
  ·exact h.lw m xG
 ·rw[em];split
  ·simp[h.lh _ hm]
  ·exact h.lh m xG
 ·rw[em] at hs;split at hs
  ·next z=>
   subst z
   rcases List.mem_append.mp hs with hs | hs
   ·exact h.so _ hm s hs
   ·simp at hs;subst hs;exact o1
  ·exact h.so m xG s hs
 ·rw[em] at hs;split at hs
  ·rcases List.mem_append.mp hs with hs | hs
   ·exact h.hl _ hm s hs
   ·simp at hs;subst hs;exact v9 hn h hw
  ·exact h.hl m xG s hs
 ·rw[ew];split
  ·exact h.ls w hw
  ·exact h.ls v hv
 ·rw[ew];split
  ·simp[h.lk w hw]
  ·exact h.lk v hv
 ·have QP:some (a,c) ∈ (r.ww v).snd:=by
   rw[ew] at hs;split at hs
   ·next z=>subst z;exact hs
   ·exact hs
  obtain⟨x1,x2,x3,x4⟩:=h.sd v hv a c QP
  refine⟨x1,x2,x3,?_⟩
  rw[em];split
  ·next z=>rw[z] at x4;simp;omega
  ·exact x4
 ·rw[em,ep];split
  ·have:=h.bp _ hm;simp;omega
  ·have:=h.bp _ xG;omega
 ·rw[ep]
  rw[em] at hu;split at hu
  ·rcases List.mem_append.mp hu with hu | hu
   ·have:=h.bw _ hm u hu;omega
   ·simp at hu;subst hu
    have:=h.bw _ hm _ (gb (l:=(r.mm (n.goal w)).wp) (d:=[]) (by rw[<-h.lw _ hm];exact h.uU hm))
    simp;omega
  ·have:=h.bw _ xG u hu;omega
 ·rw[ew];split
  ·exact h.bs w hw
  ·exact h.bs v hv
 ·rw[em] at hu ⊢;split at hu
  ·next z=>
   rw[if_pos z]
   show u <+:((r.mm (n.goal w)).wp++[_]).bg []
   rw[qV]
   rcases List.mem_append.mp hu with hu | hu
   ·exact yw (h.Ri _ hm u hu)
   ·simp at hu;subst hu;exact List.prefix_refl _
  ·next z=>rw[if_neg z];exact h.Ri m xG u hu
theorem RS.Ok.pick(hn:n.Ok)(h:r.Ok n){w k:Nat}(hw:w < n.ws.length):(r.pick n w k).Ok n/\(r.pick n w k).picks=r.picks++[((w:Int),(k:Int))]:=by
 have hm:=hn.jO hw
 obtain⟨o1,o2,o3,o4⟩:=ql hn h hw k
 have s:=RS.rW.send (outs:=n.outs (n.goal w)) (ev:=n.ev r w) (n.work r w k).cq (h.step hn hw (k:=k)) (λa c e=>by
  cases e
  refine⟨by omega,by omega,?_,?_⟩
  ·have:=h.uU hm;omega
  ·have em:(r.step n w k).mm (n.goal w)=⟨(r.mm (n.goal w)).gE++[((n.work r w k).ns,(n.work r w k).row)],(r.mm (n.goal w)).wp++[(r.mm (n.goal w)).wp.bg []++(n.work r w k).words],(r.mm (n.goal w)).hr++[n.gU r w k]⟩:=if_pos rfl
   rw[show((n.goal w:Nat):Int).toNat=n.goal w from Int.toNat_natCast _,em,h.lh _ hm]
   simp)
 have e2:=(RS.uV (outs:=n.outs (n.goal w)) (ev:=n.ev r w) (n.work r w k).cq (r:=r.step n w k)).2
 refine⟨s.ok ?_,e2⟩
 rw[e2]
 show _<=20 + 24 * (r.picks++[_]).length
 simp
 omega
end
end DD
namespace L2
open PySem PyProof.Rows
section
variable {X:Cx}
def isTrue:Value->Bool
 | .bool b=>b
 | _=>false
end
end L2
namespace L2
open PySem PySem.Spec PyProof.Rows Builtin Builtin.Str
section
variable {X:Cx}
theorem wa {i j l:Nat}{x y z:Str}{px py pz pos:Pos}{k:Nat}(hc:X.calm=true)(hN:X.N.Nodup)(hi:X.N[i]?=some x)(hj:X.N[j]?=some y)(hl:X.N[l]?=some z)(hx:Loc X.env.scope x)(hy:Loc X.env.scope y)(hz:Loc X.env.scope z)
  (Q7:X.fn x=true\/X.env.scope.names.lookup x=some .local:=by first | exact .inl rfl | exact .inr rfl | assumption) (Q8:X.fn y=true\/X.env.scope.names.lookup y=some .local:=by first | exact .inl rfl | exact .inr rfl | assumption) (hfz:X.fn z=true\/X.env.scope.names.lookup z=some .local:=by first | exact .inl rfl | exact .inr rfl | assumption):
  PG X (.Tuple [.Name x px,.Name y py,.Name z pz] k pos) (Hw X.K 3 (pI (gR i) (pI (gR j) (pI (gR l) Hv)))):=CL hc (kd (aU hN hi hx Q7) (kd (aU hN hj hy Q8) (kd (aU hN hl hz hfz) zo)))
end
end L2
namespace L2
open PySem PyProof.Rows
theorem Xe {a b:Nat}(h:a + 64 < b):a + 1 < b:=by omega
section
variable {X:Cx}
def yx (z:Int):Value->Bool
 | .int i _=>i == z
 | _=>false
theorem qW:∀{ns:List Int} {us:List Value},Vals (ns.map V.int) us->us.length=ns.length/\∀(i:Nat) u z,us[i]?=some u->ns[i]?=some z->∃t,u=.int z t
 | [],_,.nil=>⟨rfl,λi u z h=>by simp at h⟩
 | n::ns,_,.cons r t=>by
  obtain⟨l,h⟩:=qW t
  refine⟨by simp[l],λi u z a b=>?_⟩
  cases i with
  | zero=>simp at a b;subst a b;exact r
  | succ i=>exact h i u z (by simpa using a) (by simpa using b)
def IH:V->List V->Hp->VK->Prop:=λx vs H Q=>∃(a:Addr) (ns:List Int) (j:Nat) (z:Int),x=.ref a/\vs=[.int z]/\H a=some (.lst (ns.map V.int))/\ns[j]?=some z/\(∀i y,i < j->ns[i]?=some y->y≠z)/\Q (.int j) H
theorem tO:Qv X "list.index" IH:=by
 intro pins s σ H x vs v us Q I rx rv h
 obtain⟨a,ns,j,z,rfl,rfl,ha,hj,hb,q⟩:=h
 cases rx
 obtain⟨u,rfl,t0,rfl⟩:=rv.one
 obtain⟨aO,r,ht,hz⟩:=I.list (aP.of ha)
 obtain⟨hl,hi⟩:=qW r
 have Kl:j < ns.length:=(List.getElem?_eq_some_iff.mp hj).1
 have QK:(ns.map V.int).length<=sizeLine:=hz
 rw[List.length_map] at QK
 obtain⟨⟨cls,dd,data,sl⟩,n,ho,hc,hd,hd2⟩:=id ht
 simp only at hc hd hd2
 subst hc hd hd2
 have OL:j < aO.length:=by omega
 have at_:∀m (hm:m < aO.length),∃y t,ns[m]?=some y/\aO[m]=.int y t:=λm hm=>by
  have xG:m < ns.length:=by omega
  obtain⟨t,e⟩:=hi m aO[m] ns[m] (by simp) (by simp)
  exact⟨ns[m],t,by simp,e⟩
 refine call_meets PySem.F.slot_list_index ⟨_,ho,rfl⟩ PySem.F.entry_list_index (PySem.F.args_list_index_2 _ _) (SeqAt.list_indexAt a aO.toArray n none sl (.int z t0) (yx z) j (by simpa using OL) (by rw[sizeLine_eq] at QK;omega) ?_ ?_) ⟨ho,λy hy=>?_,?_⟩
 ·obtain⟨y,t,e1,e2⟩:=at_ j OL
  rw[hj] at e1
  cases e1
  simp[e2,yx]
 ·intro m hm hmj
  have xG:m < aO.length:=by simpa using hm
  obtain⟨y,t,e1,e2⟩:=at_ m xG
  have:=hb m y hmj e1
  simp[e2,yx,this]
 ·have QA:y ∈ aO:=by simpa using hy
  obtain⟨m,hm,rfl⟩:=List.getElem_of_mem QA
  obtain⟨y,t,e1,e2⟩:=at_ m hm
  rw[e2]
  exact SeqAt.EqAt.int_int y t z t0
 ·exact⟨.int _,H,I.tok _,⟨_,rfl⟩,q⟩
end
end L2
namespace L2
open PySem PySem.Spec PyProof.Rows
section
def nsOk (o:Obj):Bool:=match o.data with
 | .dict es _=>es.toList.all (λe=>(match e.key with
  | .str _ _=>true
  | _=>false) && !e.key.isStr "__eq__" && !e.key.isStr "__ne__")
 | _=>false
structure II (K:W.Frag)(C:Addr):Prop where
 ob:∃nm q N bs sn sub ab col dd k0 k1 k2 k3 k5 oN,K.lookup C=some (excClassObj nm q C N bs [.type "object"] true sn sub ab col dd k0 k1 k2 k3 k5 "object.__new__")/\K.lookup N=some oN/\nsOk oN=true
theorem II.inst{K:W.Frag}{C x dx:Addr}{h:Heap}(X:K.In h)(c:II K C)(hx:h.get? x=some (W.instObj C dx)):h.CmpInst x C [.type "object"]:=by
 obtain⟨nm,q,N,bs,sn,sub,ab,col,dd,k0,k1,k2,k3,k5,oN,e1,e2,e3⟩:=c.ob
 obtain⟨cl,od,data,sl⟩:=oN
 cases data with
 | dict es ep=>
  have Xf:∀e ∈ es.toList,(∃n t,e.key=.str n t)/\e.key.isStr "__eq__"=false/\e.key.isStr "__ne__"=false:=λe he=>by
   have:=List.all_eq_true.mp e3 e he
   rw[Bool.and_eq_true,Bool.and_eq_true] at this
   obtain⟨⟨a1,a2⟩,a3⟩:=this
   refine⟨?_,by simpa using a2,by simpa using a3⟩
   cases hk:e.key <;> rw[hk] at a1 <;> first | exact⟨_,_,rfl⟩ | exact absurd a1 Bool.false_ne_true
  have OE:∀name:Str,(∀e ∈ es.toList,e.key.isStr name=false)->nsFind es name=none:=λname hn=>by
   unfold nsFind findBy
   have:es.find? (λe=>e.key.isStr name)=none:=by
    rw[Array.find?_eq_none]
    intro e he
    rw[hn e (by simpa using he)]
    exact Bool.false_ne_true
   rw[this];rfl
  exact⟨_,nm,q,N,bs,true,sn,sub,ab,col,dd,k0,k1,k2,k3,k5,"object.__new__",nsFind es,hx,rfl,X _ _ e1,⟨_,es,ep,X _ _ e2,rfl,λe he=>(Xf e (by simpa using he)).1,λ_=>rfl⟩,OE _ λe he=>(Xf e he).2.1,OE _ λe he=>(Xf e he).2.2⟩
 | _=>exact absurd e3 Bool.false_ne_true
def Xg (K:W.Frag):R2:=λx y H Q=>∃a C dx fs,x=.ref a/\y=.ref a/\H a=some (.ins C dx fs)/\II K C/\Q (.bl false) H
theorem IJ {X:Cx}(hu:X.A.units + 64 < cLine):gA X (compareOp .NotEq) (Xg X.K):=by
 intro pins s σ H x y v u Q I rx ry h
 obtain⟨a,C,dx,fs,rfl,rfl,ha,c,q⟩:=h
 cases rx
 cases ry
 have ho:=(show cR X.prog X.w H s.heap a (.ins C dx fs) from I.bf a _ ha)
 obtain⟨_,_,_,hx,_⟩:=ho
 have ci:=c.inst I.jF hx
 obtain⟨h,g,d,t,os⟩:=s
 exact compareOp_ne_same PySem.F.cmp_object ci (by omega) ⟨.bl false,H,I,rfl,q⟩
def Rj (K:W.Frag):V->Option Int->Option Int->Hp->VK->Prop:=λx lo hi H Q=>match x with
 | .ref a=>∃xs,aP K H a xs/\∀p,H p=none->Q (.ref p) (upd H p (.lst (cI xs lo hi)))
 | _=>False
theorem Xh {X:Cx}:Qr X (Rj X.K):=by
 intro pins s σ H x v vl vu lo hi sl Q I rx hs pl pu h
 cases x <;> first
  | exact(show False from h).elim
  | skip
 obtain⟨xs,hx,q⟩:=h
 exact zE pins s σ H _ v vl vu lo hi sl Q I rx hs pl pu ⟨_,xs,rfl,hx,q⟩
theorem M6 {X:Cx}{e:Expr}{te:TE}{lo hi:Option Expr}{tl th:TO}{pos p2:Pos}(he:PE X e te)(hl:PO X lo tl)(hu:PO X hi th):PE X (.Subscript e (.Slice lo hi none p2) pos) (Qs (Rj X.K) te tl th):=vE Xh he hl hu
theorem IK {xs:List V}{i j:Nat}:(cI xs (some (i:Int)) (some (j:Int))).length<=j - i:=by
 unfold cI HT.d9
 rw[List.length_take,List.length_drop]
 simp only[Option.getD_some]
 rw[if_neg (by omega),if_neg (by omega)]
 simp
 omega
theorem Ad {xs:List V}{lo hi:Option Int}{v:V}(h:v ∈ cI xs lo hi):v ∈ xs:=List.mem_of_mem_drop (List.mem_of_mem_take h)
end
section
variable {a dx:Addr}{Q:Bool->Hp->Prop}{X:Cx}{H:Hp}{f:Str}{v:V}{K:W.Frag}
theorem fo {p:Prop}(h:∀g:Prop,(p->g)->g):p:=h p id
theorem fld {C:Addr}{fs:List (Str×V)}{Q:V->Prop}(h:H a=some (.ins C dx fs))(c:sZ K C)(n:cT K C f)(l:fs.lookup f=some v)(q:Q v):∃a' C' Cm xB v',V.ref a=.ref a'/\H a'=some (.ins C' Cm xB)/\sZ K C'/\cT K C' f/\xB.lookup f=some v'/\Q v':=⟨a,C,dx,fs,v,rfl,h,c,n,l,q⟩
theorem mth {C:Addr}{fs:List (Str×V)}{Q:Addr->Prop}(h:H a=some (.ins C dx fs))(l:fs.lookup f=none)(q:Q a):∃a' Cm xB,V.ref a=.ref a'/\H a'=some (.ins C Cm xB)/\xB.lookup f=none/\Q a':=⟨a,dx,fs,rfl,h,l,q⟩
theorem eQ {C:Addr}{fs:List (Str×V)}{Q:V->Prop}(h:H a=some (.ins C dx fs))(c:sZ K C)(n:cT K C f)(l:fs.lookup f=some v)(q:Q v):∃a' C' Cm xB v',a=a'/\H a'=some (.ins C' Cm xB)/\sZ K C'/\cT K C' f/\xB.lookup f=some v'/\Q v':=⟨a,C,dx,fs,v,rfl,h,c,n,l,q⟩
theorem dP {C:Addr}{fs:List (Str×V)}{Q:Addr->Prop}(h:H a=some (.ins C dx fs))(l:fs.lookup f=none)(q:Q a):∃a' Cm xB,a=a'/\H a'=some (.ins C Cm xB)/\xB.lookup f=none/\Q a':=⟨a,dx,fs,rfl,h,l,q⟩
theorem wb {x y:V}{P:V->V->Prop}(h:bJ K H a [x,y])(q:P x y):∃a' xs,V.ref a=.ref a'/\bJ K H a' xs/\xs.length=2/\∃v r,xs=v::r/\∃v' r',r=v'::r'/\r'=[]/\P v v':=⟨a,_,rfl,h,rfl,_,_,rfl,_,_,rfl,rfl,q⟩
theorem un3 {x y z:V}{P:V->V->V->Prop}(h:bJ K H a [x,y,z])(q:P x y z):∃a' xs,V.ref a=.ref a'/\bJ K H a' xs/\xs.length=3/\∃v r,xs=v::r/\∃v' r',r=v'::r'/\∃v'' r'',r'=v''::r''/\r''=[]/\P v v' v'':=⟨a,_,rfl,h,rfl,_,_,rfl,_,_,rfl,_,_,rfl,rfl,q⟩
theorem gK {A B R:Prop}(ah:A)(bh:B)(r:R):A/\B/\R:=⟨ah,bh,r⟩
theorem bx {α:Type}{A R:α->Prop}(x:α)(ah:A x)(r:R x):∃x,A x/\R x:=⟨x,ah,r⟩
theorem gc {α:Type}{A B R:α->Prop}(x:α)(ah:A x)(bh:B x)(r:R x):∃x,A x/\B x/\R x:=⟨x,ah,bh,r⟩
theorem Ep {α:Type}{A B C R:α->Prop}(x:α)(ah:A x)(bh:B x)(ch:C x)(r:R x):∃x,A x/\B x/\C x/\R x:=⟨x,ah,bh,ch,r⟩
theorem BC {α β:Type}{A R:α->β->Prop}(x:α)(y:β)(ah:A x y)(r:R x y):∃x y,A x y/\R x y:=⟨x,y,ah,r⟩
theorem ck {α β:Type}{A B R:α->β->Prop}(x:α)(y:β)(ah:A x y)(bh:B x y)(r:R x y):∃x y,A x y/\B x y/\R x y:=⟨x,y,ah,bh,r⟩
theorem sy {α β:Type}{A B C R:α->β->Prop}(x:α)(y:β)(ah:A x y)(bh:B x y)(ch:C x y)(r:R x y):∃x y,A x y/\B x y/\C x y/\R x y:=⟨x,y,ah,bh,ch,r⟩
theorem lZ {α β:Type}{A B C D R:α->β->Prop}(x:α)(y:β)(ah:A x y)(bh:B x y)(ch:C x y)(dh:D x y)(r:R x y):∃x y,A x y/\B x y/\C x y/\D x y/\R x y:=⟨x,y,ah,bh,ch,dh,r⟩
theorem Xi {α β γ:Type}{A B R:α->β->γ->Prop}(x:α)(y:β)(z:γ)(ah:A x y z)(bh:B x y z)(r:R x y z):∃x y z,A x y z/\B x y z/\R x y z:=⟨x,y,z,ah,bh,r⟩
theorem Xj {α β γ:Type}{A B C R:α->β->γ->Prop}(x:α)(y:β)(z:γ)(ah:A x y z)(bh:B x y z)(ch:C x y z)(r:R x y z):∃x y z,A x y z/\B x y z/\C x y z/\R x y z:=⟨x,y,z,ah,bh,ch,r⟩
theorem Xk {α β γ:Type}{A B C D R:α->β->γ->Prop}(x:α)(y:β)(z:γ)(ah:A x y z)(bh:B x y z)(ch:C x y z)(dh:D x y z)(r:R x y z):∃x y z,A x y z/\B x y z/\C x y z/\D x y z/\R x y z:=⟨x,y,z,ah,bh,ch,dh,r⟩
theorem fK {α β γ δ:Type}{A B R:α->β->γ->δ->Prop}(x:α)(y:β)(z:γ)(u:δ)(ah:A x y z u)(bh:B x y z u)(r:R x y z u):∃x y z u,A x y z u/\B x y z u/\R x y z u:=⟨x,y,z,u,ah,bh,r⟩
theorem Xl {α β γ δ:Type}{A B C R:α->β->γ->δ->Prop}(x:α)(y:β)(z:γ)(u:δ)(ah:A x y z u)(bh:B x y z u)(ch:C x y z u)(r:R x y z u):∃x y z u,A x y z u/\B x y z u/\C x y z u/\R x y z u:=⟨x,y,z,u,ah,bh,ch,r⟩
theorem M7 {α β γ δ:Type}{A B C D R:α->β->γ->δ->Prop}(x:α)(y:β)(z:γ)(u:δ)(ah:A x y z u)(bh:B x y z u)(ch:C x y z u)(dh:D x y z u)(r:R x y z u):∃x y z u,A x y z u/\B x y z u/\C x y z u/\D x y z u/\R x y z u:=⟨x,y,z,u,ah,bh,ch,dh,r⟩
theorem pV {α β γ δ:Type}{A B C D E R:α->β->γ->δ->Prop}(x:α)(y:β)(z:γ)(u:δ)(ah:A x y z u)(bh:B x y z u)(ch:C x y z u)(dh:D x y z u)(eh:E x y z u)(r:R x y z u):∃x y z u,A x y z u/\B x y z u/\C x y z u/\D x y z u/\E x y z u/\R x y z u:=⟨x,y,z,u,ah,bh,ch,dh,eh,r⟩
theorem Xm {α β γ δ:Type}{A B C D E F R:α->β->γ->δ->Prop}(x:α)(y:β)(z:γ)(u:δ)(ah:A x y z u)(bh:B x y z u)(ch:C x y z u)(dh:D x y z u)(eh:E x y z u)(fh:F x y z u)(r:R x y z u):∃x y z u,A x y z u/\B x y z u/\C x y z u/\D x y z u/\E x y z u/\F x y z u/\R x y z u:=⟨x,y,z,u,ah,bh,ch,dh,eh,fh,r⟩
theorem Rk {α β γ δ ε:Type}{A B C D R:α->β->γ->δ->ε->Prop}(x:α)(y:β)(z:γ)(u:δ)(v:ε)(ah:A x y z u v)(bh:B x y z u v)(ch:C x y z u v)(dh:D x y z u v)(r:R x y z u v):∃x y z u v,A x y z u v/\B x y z u v/\C x y z u v/\D x y z u v/\R x y z u v:=⟨x,y,z,u,v,ah,bh,ch,dh,r⟩
theorem Rl {α β γ δ ε:Type}{A B C D E R:α->β->γ->δ->ε->Prop}(x:α)(y:β)(z:γ)(u:δ)(v:ε)(ah:A x y z u v)(bh:B x y z u v)(ch:C x y z u v)(dh:D x y z u v)(eh:E x y z u v)(r:R x y z u v):∃x y z u v,A x y z u v/\B x y z u v/\C x y z u v/\D x y z u v/\E x y z u v/\R x y z u v:=⟨x,y,z,u,v,ah,bh,ch,dh,eh,r⟩
theorem Rm {α β γ δ ε:Type}{A B C D E F R:α->β->γ->δ->ε->Prop}(x:α)(y:β)(z:γ)(u:δ)(v:ε)(ah:A x y z u v)(bh:B x y z u v)(ch:C x y z u v)(dh:D x y z u v)(eh:E x y z u v)(fh:F x y z u v)(r:R x y z u v):∃x y z u v,A x y z u v/\B x y z u v/\C x y z u v/\D x y z u v/\E x y z u v/\F x y z u v/\R x y z u v:=⟨x,y,z,u,v,ah,bh,ch,dh,eh,fh,r⟩
theorem PE.imp{e:Expr}{t u:TE}(h:PE X e t)(i:∀σ H Q,u σ H Q->t σ H Q):PE X e u:=⟨λp s σ H Q I q=>h.out p s σ H Q I (i σ H Q q)⟩
def tV (i:Nat):TE:=λσ H Q=>match σ[i]? with
 | some (some v)=>Q v H
 | _=>False
theorem M8 {i:Nat}(σ:St)(H:Hp)(Q:VK)(h:tV i σ H Q):CC i σ H Q:=by
 unfold tV at h
 split at h
 ·exact⟨_,by assumption,h⟩
 ·exact h.elim
def bB (Q:Bool->Hp->Prop):V->Hp->Prop
 | .bl k,H=>Q k H
 | _,_=>False
theorem M9 {Q:Bool->Hp->Prop}{x:V}{H:Hp}(h:bB Q x H):∃k,x=.bl k/\Q k H:=by
 cases x with
 | bl k=>exact⟨k,rfl,h⟩
 | _=>exact h.elim
theorem Rn {k:Bool}:bB Q (.bl k) H=Q k H:=rfl
theorem sC {k:Bool}(h:Q k H):bB Q (.bl k) H:=h
def tT (t:TE):TT:=λσ H Q=>t σ H (bB Q)
theorem Ro:bB Q=λx H=>∃k,x=.bl k/\Q k H:=by
 funext x H
 refine propext ⟨M9,?_⟩
 rintro⟨k,rfl,h⟩
 exact h
theorem Km:tT=zu:=by
 funext t σ H Q
 show t σ H (bB Q)=_
 rw[Ro];rfl
theorem Na:tT=tB:=Km
section
variable {X:Cx}{a b:Expr}{ta tb:TE}{pos:Pos}
theorem aA {op:CmpOp}{r:R2}(ho:gA X (compareOp op) r)(ha:PE X a ta)(hb:PE X b tb)(hm:behindInMarks op b=false):PT X (.Compare a [op] [b] pos) (tT (HA r ta tb)):=by
 rw[Km];exact zw ho ha hb hm
theorem bb {e:Expr}{t:TE}(h:PE X e t)(he:∀whole,PySem.isTrue e X.env whole=(do let v <-whole;standAt e.pos;holding [v] (truthy v)):=by intro _;rfl):PT X e (tT t):=by
 rw[Na];exact LP h he
theorem au (i:Nat){x:Str}{pos:Pos}(hN:X.N[i]?=some x:=by rfl)(hv:PY X.env.scope x:=by first | exact Or.inl rfl | exact Or.inr (Or.inl rfl) | exact Or.inr (Or.inr rfl))(hd:(x == ("__debug__":Str))=false:=by decide)
  (A0:(x == ("__classdict__":Str))=false:=by decide):PE X (.Name x pos) (tV i):=(CF hN hv hd A0).imp M8
end
section
variable {K:W.Frag}{H:Hp}{Q:VK}{i j:Int}{s t:Str}{a b:Addr}
def OM (K:W.Frag):R2:=λx y H Q=>match x,y with
 | .int i,.int j=>Q (.bl (decide (i=j))) H
 | .str s,.str t=>Q (.bl (decide (s=t))) H
 | x,y=>MI K x y H Q
def Rp (K:W.Frag):R2:=λx y H Q=>match x,y with
 | .int i,.int j=>Q (.bl (!decide (i=j))) H
 | .str s,.str t=>Q (.bl (!decide (s=t))) H
 | x,y=>OH K x y H Q
theorem Er:OM K (.int i) (.int j) H Q=Q (.bl (decide (i=j))) H:=rfl
theorem Es:OM K (.str s) (.str t) H Q=Q (.bl (decide (s=t))) H:=rfl
theorem Et:OM K (.ref a) (.ref b) H Q=((km K H 20 (.ref a) (.ref b)/\Q (.bl true) H)\/(qI K H a b/\Q (.bl false) H)):=rfl
theorem Eu:Rp K (.int i) (.int j) H Q=Q (.bl (!decide (i=j))) H:=rfl
theorem Ew:Rp K (.str s) (.str t) H Q=Q (.bl (!decide (s=t))) H:=rfl
theorem Ex:Rp K (.ref a) (.ref b) H Q=((km K H 20 (.ref a) (.ref b)/\Q (.bl false) H)\/(qI K H a b/\Q (.bl true) H)):=rfl
theorem Ey:OM K=MI K:=by
 funext x y H Q
 cases x <;> cases y <;> first | rfl | exact uL.symm | exact uM.symm
theorem Nb:Rp K=OH K:=by
 funext x y H Q
 cases x <;> cases y <;> first | rfl | exact uN.symm | exact uO.symm
theorem aV (hu:X.A.units + 64 < cLine):gA X (compareOp .Eq) (OM X.K):=Ey ▸ DB hu
theorem dG (hu:X.A.units + 64 < cLine):gA X (compareOp .NotEq) (Rp X.K):=Nb ▸ MJ hu
theorem nr (hK:X.K=K)(hu:X.A.units + 64 < cLine):gA X (compareOp .Eq) (OM K):=Ey ▸ Iv hK hu
end
theorem HT.bS{n:Nat}{i:Int}(h:HT H n v (.int i)):v=.int i:=by
 cases h;rfl
theorem HT.bM{n:Nat}{s:Str}(h:HT H n v (.str s)):v=.str s:=by
 cases h;rfl
theorem HD.bS{n:Nat}{i:Int}(h:HD H n v (.int i)):v=.int i:=by
 cases h;rfl
theorem HD.bM{n:Nat}{s:Str}(h:HD H n v (.str s)):v=.str s:=by
 cases h;rfl
theorem fo1 {α:Type}{P:α->Prop}(x:α)(h:∀g:α->Prop,(∀x,P x->g x)->g x):P x:=h P λ_ h=>h
theorem fo2 {α β:Type}{P:α->β->Prop}(x:α)(y:β)(h:∀g:α->β->Prop,(∀x y,P x y->g x y)->g x y):P x y:=h P λ_ _ h=>h
theorem fo3 {α β γ:Type}{P:α->β->γ->Prop}(x:α)(y:β)(z:γ)(h:∀g:α->β->γ->Prop,(∀x y z,P x y z->g x y z)->g x y z):P x y z:=h P λ_ _ _ h=>h
theorem fo4 {α β γ δ:Type}{P:α->β->γ->δ->Prop}(x:α)(y:β)(z:γ)(w:δ)(h:∀g:α->β->γ->δ->Prop,(∀x y z w,P x y z w->g x y z w)->g x y z w):P x y z w:=h P λ_ _ _ _ h=>h
end
end L2
namespace Ez
open PySem L2 DD
def top (i:Nat):Stmt:=PySem.Challenge.pw_cutrestore_k22_whole_runs_told.main.body.getD i (.Pass ⟨0,0,0,0⟩)
structure Tx (K:W.Frag)(mg:Str->Option Value)(C CN CR F:Addr)(FD:List (Str×V)):Prop where
 aK:mg "isinstance"=none
 wc:mg "int"=none
 jP:mg "bool"=none
 Ae:mg "str"=none
 cu:mg "tuple"=none
 dI:mg "list"=none
 cm:mg "len"=none
 eF:mg "range"=none
 Rq:mg "min"=none
 Kn:mg "max"=none
 qX:mg "all"=none
 wd:mg "any"=none
 EA:mg "zip"=none
 dQ:mg "enumerate"=none
 dX:∃t,mg "MOST_DEEDS"=some (.int 24 t)
 dJ:∃t,mg "MOST_MODULUS"=some (.int 1000000000000 t)
 dM:∃t,mg "MOST_NUMBERS"=some (.int 4 t)
 fb:∃t,mg "MOST_ROW"=some (.int 12 t)
 dy:∃t,mg "MOST_MACHINES"=some (.int 5 t)
 fq:∃t,mg "MOST_WAYS"=some (.int 10 t)
 dN:∃t,mg "MOST_LETTERS"=some (.int 20 t)
 dY:∃t,mg "SAID_BOUND"=some (.int 1000000000000000000000000000000000000000000000000000000000000 t)
 cP:sZ K C
 tP:mg "Machine"=some (.ref C)
 Ko:cT K C "own_modulus"
 Nc:cT K C "own_state"
 Kp:cT K C "own_deeds"
 BD:W.findIn K (.ref C) "__class__"=some (some (.builtin "object.__class__"))
 BE:W.mroIn K C (.type "object")=some true
 df:sZ K CN
 Rr:mg "Net"=some (.ref CN)
 we:cT K CN "own_machines"
 wg:cT K CN "own_ways"
 yy:cT K CN "own_letters"
 EB:W.findIn K (.ref CN) "__class__"=some (some (.builtin "object.__class__"))
 EC:W.mroIn K CN (.type "object")=some true
 aR:sZ K CR
 Rt:mg "Run"=some (.ref CR)
 cQ:cT K CR "own_net"
 cX:cT K CR "picks_done"
 cp:cT K CR "states_had"
 dZ:cT K CR "words_had"
 cK:cT K CR "words_said"
 bG:cT K CR "letters_say"
 fc:cT K CR "senders"
 dg:cT K CR "workers"
 ED:W.findIn K (.ref CR) "__class__"=some (some (.builtin "object.__class__"))
 EE:W.mroIn K CR (.type "object")=some true
 BF:W.specialIn K (.builtin "object.__class__") "__get__"=some (some (.builtin "getset_descriptor.__get__"))
 tQ:W.takesIn K (.builtin "object.__class__")=some true
 i_k:W.kitOne K (.ref C) (.ref C)=some true
 Kq:II K CN
 Af:mg "FORMS"=some (.ref F)
 Ag:CD K F FD
 Kr:∀d:bH,∃p,PyProof.Rows.KTD.datumAt d.word FD=some (.ref p)/\∀H,bJ K H p (d.sr.map V.str)
end Ez
namespace Ez
open PySem L2 DD
variable {D a b c m bA p:Addr}{Z:Addr->Prop}{d:bH}{o:HO}{H H' H0 H1 H2:Hp}{e:Int×Int}{ws:List (Int×Int×Str)}{ls:List (Int×Int)}{as:List Addr}{es:List DV}{ns row:List Int}{eO:List MD}{mv ys:List V}{ad:Nat->Nat->Addr}{r:RS}{σ:St}{f:Str}{dd st z:V}{Q:VK}
theorem lC {X:Cx}{c:Scope}{N:List Str}:sj X c N λY=>OF Y [] iJ:=λ_ _ _ _=>Ie
section
variable {P:Program}{w:World}{K:W.Frag}{mg:Str->Option Value}{base:Heap}{C CN CR F:Addr}{FD:List (Str×V)}
set_option hygiene false
local macro_rules | `(tactic| walk_at "s") => `(tactic| exact ⟨rfl, rfl, rfl, by decide +kernel, rfl, by decide +kernel, by decide +kernel⟩)
local macro_rules | `(tactic| nofun) => `(tactic| refine L2.fo λgZ hZ => ?_)
local macro_rules | `(tactic| ac_rfl) => `(tactic| (refine hZ ?_; clear hZ gZ))
set_option hygiene true
local macro_rules | `(tactic| simp_arith only [$xs,*]) => `(tactic| simp only [tV, tT, Rn, Er, Es, Et, Eu, Ew, Ex, CC, tC, HA, Wj, rU, zu, tB, LR, CI, LQ, Wa, CH, LS, Wb, CK, LU, JX, A9, gR, LX, vC, OD, zx, Dc, Md, Me, zm, J7, QE, uG, Dt, yh, M3, Rh, xT, zN, zO, zP, D0, D7, D8, Kk, Ea, Eb, zU, Ec, Ed, Ee, Ef, Eg, Eh, zV, Qs, uy, Di, HJ, Mb, tj, zy, Wz, Mo, Ej, Ei, LY, Wd, xO, id_eq, MR, DY, MK, CV, JZ, J8, og, ↓zW, ↓vW, ↓qP, ↓tM, ↓qQ, Ke, DG, DJ, DK, DM, Kf, DN, DO, DP, DQ, DR, Kg, zQ, vQ, iJ, uJ, tL, QU, DE, Kb, Kc, L2.start, List.map_cons, List.map_nil, List.cons_append, List.nil_append, List.replicate, List.getElem?_cons_zero, List.getElem?_cons_succ, List.set_cons_zero, List.set_cons_succ, $xs,*])
local macro_rules | `(tactic| simp_arith! only [$xs:simpLemma,*]) => `(tactic| dsimp only [tV, tT, Rn, Er, Es, Et, Eu, Ew, Ex, CC, tC, HA, Wj, rU, zu, tB, LR, CI, LQ, Wa, CH, LS, Wb, CK, LU, JX, A9, gR, LX, vC, OD, zx, Dc, Md, Me, zm, J7, QE, uG, Dt, yh, M3, Rh, xT, zN, zO, zP, D0, D7, D8, Kk, Ea, Eb, zU, Ec, Ed, Ee, Ef, Eg, Eh, zV, Qs, uy, Di, HJ, Mb, tj, zy, Wz, Mo, Ej, Ei, LY, Wd, xO, id_eq, MR, DY, MK, CV, JZ, J8, og, ↓zW, ↓vW, ↓qP, ↓tM, ↓qQ, Ke, DG, DJ, DK, DM, Kf, DN, DO, DP, DQ, DR, Kg, zQ, vQ, iJ, uJ, tL, QU, DE, Kb, Kc, L2.start, List.map_cons, List.map_nil, List.cons_append, List.nil_append, List.replicate, List.getElem?_cons_zero, List.getElem?_cons_succ, List.set_cons_zero, List.set_cons_succ, $xs:simpLemma,*])
local macro_rules | `(tactic| walk_at "l0") => `(tactic| simp_arith! only [A8, A7, nc])
local macro_rules | `(tactic| walk_at "l1") => `(tactic| simp_arith only [A8, A7, yr, yt, uL, uM, uN, uO, nc, List.length_cons, List.length_nil, List.append_nil, Option.some.injEq, exists_eq_left', exists_eq_left, V.int.injEq, V.bl.injEq, V.str.injEq, V.ref.injEq, List.cons.injEq, and_true, true_and, Nat.reduceSub, Nat.reduceAdd])
local macro_rules | `(tactic| walk_at "l2") => `(tactic| simp_arith! only [A8, A7])
local macro_rules | `(tactic| walk_at "l3") => `(tactic| simp_arith only [A8, A7, yr, yt, uL, uM, uN, uO, List.length_cons, List.length_nil, List.append_nil, Option.some.injEq, exists_eq_left', exists_eq_left, V.int.injEq, V.bl.injEq, V.str.injEq, V.ref.injEq, List.cons.injEq, and_true, true_and, Nat.reduceSub, Nat.reduceAdd])
local macro_rules | `(tactic| walk_at "l4") => `(tactic| simp_arith! only [nc])
local macro_rules | `(tactic| walk_at "l5") => `(tactic| simp_arith only [yr, yt, uL, uM, uN, uO, nc, List.length_cons, List.length_nil, List.append_nil, Option.some.injEq, exists_eq_left', exists_eq_left, V.int.injEq, V.bl.injEq, V.str.injEq, V.ref.injEq, List.cons.injEq, and_true, true_and, Nat.reduceSub, Nat.reduceAdd])
local macro_rules | `(tactic| walk_at "rd") => `(tactic| first | (walk_at "l0"; try walk_at "l1") | walk_at "l1")
local macro_rules | `(tactic| right) => `(tactic| try walk_at "rd")
local macro_rules | `(tactic| walk_at "rt") => `(tactic| first | (walk_at "l2"; try walk_at "l3") | walk_at "l3")
local macro_rules | `(tactic| walk_at "go") => `(tactic| repeat (first
  | walk_at "rd"
  | refine cJ (by assumption) (by first | rfl | exact ax (j := 0) rfl | exact ax (j := 1) rfl | exact ax (j := 2) rfl | exact ax (j := 3) rfl) ?_
  | refine bu (by assumption) (by first | rfl | exact ax (j := 0) rfl | exact ax (j := 1) rfl | assumption) ?_
  | rw [if_pos (by decide +kernel)]
  | rw [if_neg (by decide +kernel)]))
local macro_rules | `(tactic| walk_at "r0") => `(tactic| first | (walk_at "l4"; try walk_at "l5") | walk_at "l5")
local macro_rules | `(tactic| walk_at "rh") => `(tactic| first | with_reducible refine L2.M4 ?_ | (with_reducible refine L2.IE ?_; intro N hN) | (with_reducible refine L2.IF ?_; intro T U hT hU))
local macro_rules | `(tactic| walk_at "rn") => `(tactic| (refine L2.M5 (by assumption) ?_; (repeat walk_at "rh"); try walk_at "r0"))
local macro_rules | `(tactic| walk_at "jd") => `(tactic| first
  | (walk_at "rh"; (repeat walk_at "rh"); (try walk_at "r0"); repeat walk_at "rn")
  | (walk_at "rn"; repeat walk_at "rn")
  | (walk_at "r0"; repeat walk_at "rn"))
local macro_rules | `(tactic| left) => `(tactic| try walk_at "jd")
local macro_rules | `(tactic| walk_at "jt") => `(tactic| first | (walk_at "l2"; try walk_at "l3") | walk_at "l3")
local macro_rules | `(tactic| walk_at "jg") => `(tactic| repeat (first
  | walk_at "jd"
  | refine cJ (by assumption) (by first | rfl | exact ax (j := 0) rfl | exact ax (j := 1) rfl | exact ax (j := 2) rfl | exact ax (j := 3) rfl) ?_
  | refine bu (by assumption) (by first | rfl | exact ax (j := 0) rfl | exact ax (j := 1) rfl | assumption) ?_
  | rw [if_pos (by decide +kernel)]
  | rw [if_neg (by decide +kernel)]))
theorem wj:pK (ys++[z]).length (-1)=some ys.length:=by
 unfold pK
 rw[if_neg (by decide),if_pos (by simp;omega)]
 congr 1
 simp
 omega
theorem jv:gB (ys++[z]) (-1)=some z:=by
 unfold gB
 rw[wj]
 simp
theorem EF {α:Type}{ys:List α}{z y:α}:(ys++[z]).set ys.length y=ys++[y]:=by simp
theorem qf {o':HO}:upd (upd H a o) a o'=upd H a o':=by
 funext b
 by_cases h:b=a
 ·subst h;rw[af,af]
 ·rw[ay h,ay h,ay h]
def eE (H:Hp)(p:Addr):Prop:=∃xs:List Int,H p=some (.lst (xs.map V.int))/\1<=xs.length
structure Step (p:Addr)(H H':Hp):Prop where
 fR:eE H' p
 rest:∀b o,H b=some o->b≠p->H' b=some o
theorem Step.refl(h:eE H p):Step p H H:=⟨h,λ_ _ e _=>e⟩
theorem Step.trans(a:Step p H H1)(b:Step p H1 H2):Step p H H2:=⟨b.fR,λc o e n=>b.rest c o (a.rest c o e n) n⟩
theorem eE.same(s:av H H')(h:eE H p):eE H' p:=by
 obtain⟨xs,e,h⟩:=h
 exact⟨xs,s _ _ e,h⟩
theorem Step.same(a:Step p H H1)(b:av H1 H2):Step p H H2:=⟨a.fR.same b,λc o e n=>b _ _ (a.rest c o e n)⟩
theorem Step.set(a:Step p H H1)(xs:List Int)(h:1<=xs.length):Step p H (upd H1 p (.lst (xs.map V.int))):=
 ⟨⟨xs,af,h⟩,λc o e n=>by rw[ay n];exact a.rest c o e n⟩
theorem Step.new{q:Addr}(a:Step p H H1){o:HO}(hn:H1 q=none):Step p H (upd H1 q o):=a.same (av.new o hn)
theorem Step.aQ(a:Step p H H1)(hp:eE H p):bQ H H1:=λb xs e=>a.rest b _ e λz=>by
 subst z
 obtain⟨a,h,_⟩:=hp
 rw[h] at e;cases e
theorem Step.ne{q:Addr}(hp:eE H p)(hn:H q=none):q≠p:=λz=>by
 subst z
 obtain⟨a,h,_⟩:=hp
 rw[h] at hn;cases hn
theorem Step.over(s:av H0 H1)(hn:H0 p=none)(st:Step p H1 H2):av H0 H2:=λb o e=>st.rest b o (s b o e) (aq e hn)
theorem eE.upd{q:Addr}(h:eE H p)(ne:p≠q):eE (upd H q o) p:=by
 obtain⟨a,e,h⟩:=h
 exact⟨a,by rw[ay ne];exact e,h⟩
abbrev l8:Stmt:=top 10
def iM:Sp:=λvs H Q _=>∃x t,vs=[x]/\Kd H x t/\Q (.bl (W7 x)) H
theorem yz (D:dH K mg "is_whole" "is_whole" l8 ["thing"])(T:Tx K mg C CN CR F FD):Def P w K mg base "is_whole" 1 ["thing"] iM:=by
 have sc:aD ["thing"] ["thing"] (az l8):=by walk_at "s"
 symm
 ·obtain⟨x,t,rfl,hx,q⟩:=h
  rfl
 ·nofun
  obtain⟨x,t,rfl,hx,q⟩:=h
  ac_rfl
  have hu:=hr.units
  refine⟨_,(ao (aE (iS (aT cw rfl T.aK nN (ai (au 0) (ai (bO (v:=.ty "int") rfl T.wc Uy rfl) aa))) (iR (xM (aT cw rfl T.aK nN (ai (au 0) (ai (bO (v:=.ty "bool") rfl T.jP JR rfl) aa)))))))),?_⟩
  walk_at "rd"
  nofun
  obtain⟨b,c,e1,e2,e3⟩:=MW (K:=K) hx
  ac_rfl
  refine ck t b hx.ty e1 ?_
  rw[e3] at q
  cases b
  ·rw[if_neg Bool.false_ne_true]
   exact q
  ·rw[if_pos rfl]
   exact⟨t,c,hx.ty,e2,q⟩
abbrev ko:Stmt:=top 11
def cD:Sp:=λvs H Q _=>∃x t lo hi,vs=[x,.int lo,.int hi]/\Kd H x t/\Q (.bl (inR lo hi x)) H
theorem wk (D:dH K mg "is_within" "is_within" ko ["thing","low","beyond"])(T:Tx K mg C CN CR F FD)(d7:Def P w K mg base "is_whole" 1 ["thing"] iM):Def P w K mg base "is_within" 2 ["thing","low","beyond"] cD:=by
  have sc:aD ["thing","low","beyond"] ["thing","low","beyond"] (az ko):=by walk_at "s"
  symm
  · obtain⟨x,t,lo,hi,rfl,hx,q⟩:=h
    rfl
  · nofun
    obtain⟨x,t,lo,hi,rfl,hx,q⟩:=h
    ac_rfl
    have hu:=hr.units
    refine⟨_,(ao (aE (iS (aN d7 hr (ai (au 0) aa)) (iR (vB yk gJ (au 1) (au 0) (au 2)))))),?_⟩
    walk_at "rd"
    refine ck x t rfl hx ?_
    cases hx <;> first
      | (rename_i i
         show ∃c,V.bl true=.bl c/\_
         refine⟨true,rfl,?_⟩
         rw[if_pos rfl]
         walk_at "rd"
         by_cases h1:lo<=i
         · rw[if_pos (by simpa using h1)]
           have e:inR lo hi (.int i)=decide (i < hi):=by simp[inR,h1]
           rw[e] at q
           exact q
         · rw[if_neg (by simpa using h1)]
           have e:inR lo hi (.int i)=false:=by simp[inR,h1]
           rw[e] at q
           exact q)
      | (show ∃c,V.bl false=.bl c/\_
         refine⟨false,rfl,?_⟩
         rw[if_neg Bool.false_ne_true]
         exact q)
abbrev qY:Stmt:=top 47
def EG (K:W.Frag):Sp:=λvs H Q _=>∃(a:Addr) (ns:List Int) (k:Int),vs=[.ref a,.int k]/\aP K H a (ns.map V.int)/\0<=k/\∀c,Q (.int c) H
theorem EH (D:dH K mg "_law_at" "_law_at" qY ["_law_script","_law_k"])(T:Tx K mg C CN CR F FD):Def P w K mg base "_law_at" 1 ["_law_script","_law_k"] (EG K):=by
 have sc:aD ["_law_script","_law_k"] ["_law_script","_law_k"] (az qY):=by walk_at "s"
 symm
 ·obtain⟨a,ns,k,rfl,hS,h0,q⟩:=h
  rfl
 ·nofun
  obtain⟨a,ns,k,rfl,hS,h0,q⟩:=h
  ac_rfl
  have hu:=hr.units
  refine⟨_,(aj (aS (aA gJ (au 1) (aT aM rfl T.cm PySem.boot_len (ai (au 0) aa)) (aC _)) (ao (aE (ak hu (au 0) (au 1)))) aG)
   (ao (aE ag))),?_⟩
  walk_at "rd"
  refine bx _ (.inl ⟨_,hS,rfl⟩) ?_
  rw[List.length_map]
  by_cases h1:k < (ns.length:Int)
  ·rw[if_pos (by simpa using h1)]
   obtain⟨n,rfl⟩:=Int.eq_ofNat_of_zero_le h0
   have hn:n < ns.length:=by omega
   exact⟨_,.int ns[n],.inl hS,ax (by rw[List.getElem?_map,cA hn];rfl),q _⟩
  ·rw[if_neg (by simpa using h1)]
   exact q _
abbrev om:Stmt:=top 48
def EI:Sp:=λvs H Q _=>∃n:Int,vs=[.int n]/\∀(p:Addr) (xs:List Int),H p=none->1<=xs.length->Q (.ref p) (upd H p (.lst (xs.map V.int)))
theorem BG (D:dH K mg "_law_pot" "_law_pot" om ["_law_cell"])(T:Tx K mg C CN CR F FD):Def P w K mg base "_law_pot" 1 ["_law_cell"] EI:=by
 have sc:aD ["_law_cell","_law_number","_law_pot_here","_law_k"] ["_law_cell"] (az om):=by walk_at "s"
 symm
 ·obtain⟨n,rfl,q⟩:=h
  rfl
 ·nofun
  obtain⟨n,rfl,q⟩:=h
  ac_rfl
  have hu:=hr.units
  refine⟨_,(aj (ba (i:=1) sc.nd rfl (by grind) (aY da (aY dj (aY gC (au 0) ag) ag) ag))
   (aj (ba (i:=2) sc.nd rfl (by grind) (bN (ai ag aa)))
   (aj (eZ PassesOwn.never rfl (cY rfl T.eF (ai ag aa)) (aU (i:=3) sc.nd rfl (by grind))
   (aj (ba (i:=1) sc.nd rfl (by grind) (aY dj (aY da (aY da (aY ly (au 1) (au 1)) (aY ly ag (au 1))) (au 3)) ag))
   (ao (fA (aY da (aY ly (ak hu (au 2) ag) ag) (au 1)) (iT (au 2) ag eg)))))
   (aj (aS (PW.pt (pw_and (aA (aV hu) (aY dj (au 0) ag) ag (aC _)) (pw_and1 (aA (dG hu) (aY gC (au 0) ag) ag (aC _))))) (ao (bY (du lO nQ nR bV (au 2) (ai (aY gC (au 0) ag) aa)))) aG)
   (ao (aE (au 2))))))),?_⟩
  right
  have h2:Dw n 2:=⟨by decide,by decide⟩
  refine gK h2 (by decide) ?_
  right
  refine⟨by show 1<=sizeLine;decide,λp hp=>?_⟩
  have g0:=Int.emod_nonneg (n / 2) (b:=2147483629) (by decide)
  have g1:=Int.emod_lt_of_pos (n / 2) (b:=2147483629) (by decide)
  refine⟨40,rfl,by decide,by decide,jr (n:=40) (λi σ H'=>∃(u a:Int) (z:Option V),0<=u/\u < 2147483648/\σ=[some (.int n),some (.int u),some (.ref p),z]/\H'=upd H p (.lst [.int a])) ?_ ?_ ?_⟩
  ·exact⟨_,0,none,by omega,by omega,rfl,rfl⟩
  ·intro i σ H' hi iV
   nofun
   obtain⟨u,a,z,hu0,EJ,rfl,rfl⟩:=iV
   ac_rfl
   right
   refine⟨.inl ⟨by omega,by omega⟩,?_⟩
   right
   refine gK (.inl ⟨by omega,by omega⟩) (by decide) ?_
   right
   refine bu af (ax (j:=0) rfl) ?_
   right
   refine⟨.inr ⟨by decide,by decide⟩,?_⟩
   right
   refine ck _ 0 af rfl ?_
   right
   have k0:=Int.emod_nonneg (u * u + 48271 * u + (0 + (i:Int))) (b:=2147483647) (by decide)
   have k1:=Int.emod_lt_of_pos (u * u + 48271 * u + (0 + (i:Int))) (b:=2147483647) (by decide)
   exact⟨_,_,_,k0,by omega,⟨rfl,rfl⟩,qf⟩
  ·intro σ H' iW
   nofun
   obtain⟨u,a,z,hu0,EJ,rfl,rfl⟩:=iW
   ac_rfl
   right
   refine⟨by decide,?_⟩
   right
   split
   ·refine⟨h2,?_⟩
    right
    split
    ·refine gK (.inl ⟨rfl,_,aP.of af⟩) h2 ?_
     right
     refine gc _ af (aH (by simp)) ?_
     right
     rw[qf]
     exact q p [a,n / 2] hp (by simp)
    ·right
     exact q p [a] hp (by simp)
   ·right
    exact q p [a] hp (by simp)
abbrev kq:Stmt:=top 49
def jz:Sp:=λvs H Q _=>∃(p:Addr) (m:Int),vs=[.ref p,.int m]/\eE H p/\0 < m/\m.natAbs.log2 < 9000/\∀d H',0<=d->d < m->Step p H H'->Q (.int d) H'
theorem wm (D:dH K mg "_law_digit" "_law_digit" kq ["_law_pot_here","_law_many"])(T:Tx K mg C CN CR F FD):Def P w K mg base "_law_digit" 1 ["_law_pot_here","_law_many"] jz:=by
 have sc:aD ["_law_pot_here","_law_many","_law_digit_here"] ["_law_pot_here","_law_many"] (az kq):=by walk_at "s"
 symm
 ·obtain⟨p,m,rfl,hp,h0,hl,q⟩:=h
  rfl
 ·nofun
  obtain⟨p,m,rfl,hp,h0,hl,q⟩:=h
  ac_rfl
  have hu:=hr.units
  refine⟨_,(aj (ba (i:=2) sc.nd rfl (by grind) (aY dj (ak hu (au 0) (js fU ag)) (au 1)))
   (aj (fA (aY gC (ak hu (au 0) (js fU ag)) (au 1)) (iT (au 0) (js fU ag) eg))
   (aj (aS (PW.pt (pw_and (aA (aV hu) (ak hu (au 0) (js fU ag)) ag (aC _)) (pw_and1 (aA lV (aT aM rfl T.cm PySem.boot_len (ai (au 0) aa)) ag (aC _))))) (ao (bY (Mp lO PySem.F.slot_list_pop PySem.F.type_list_pop Mr (au 0)))) aG)
   (ao (aE (au 2)))))),?_⟩
  nofun
  obtain⟨xs,ON,qi⟩:=id hp
  obtain⟨ys,z,rfl⟩:∃ys z,xs=ys++[z]:=⟨xs.dropLast,xs.getLast (by intro e;rw[e] at qi;simp at qi),(List.dropLast_concat_getLast _).symm⟩
  rw[List.map_append] at ON
  replace ON:H p=some (.lst (ys.map V.int++[.int z])):=ON
  ac_rfl
  have st0:Step p H H:=Step.refl hp
  right
  refine ck _ _ (.inl (aP.of ON)) jv ?_
  right
  refine⟨h0,?_⟩
  right
  refine ck _ _ (.inl (aP.of ON)) jv ?_
  right
  refine⟨⟨h0,hl⟩,?_⟩
  right
  refine ck _ _ ON wj ?_
  rw[EF]
  refine ck _ _ (.inl (aP.of af)) jv ?_
  have d0:=Int.emod_nonneg z (b:=m) (by omega)
  have d1:=Int.emod_lt_of_pos z h0
  have Ru:Step p H (upd H p (.lst (ys.map V.int++[.int (z / m)]))):=by
   have:=st0.set (ys++[z / m]) (by simp)
   rw[List.map_append] at this
   exact this
  right
  split
  ·refine bx _ (.inl ⟨_,aP.of af,rfl⟩) ?_
   right
   split
   ·rename_i hlen
    have hlen:1<=ys.length:=by
     simp at hlen
     omega
    refine⟨.inl ⟨rfl,_,aP.of af⟩,?_⟩
    refine⟨p,_,.int (z / m),rfl,rfl,af,by simp,?_⟩
    right
    rw[List.dropLast_concat,qf]
    exact q _ _ d0 d1 (st0.set ys hlen)
   ·right
    exact q _ _ d0 d1 Ru
  ·right
   exact q _ _ d0 d1 Ru
theorem yA:HE 10 60:=⟨by decide,by decide,by decide +kernel⟩
theorem Nd:HE 10 12:=⟨by decide,by decide,by decide +kernel⟩
theorem Nf:CW 2 (10 ^ Int.toNat 60):=.inl ⟨by decide +kernel,by decide +kernel⟩
theorem Rv:(0:Int) < 2 * 10 ^ Int.toNat 60 - 1:=by decide +kernel
theorem Rw:(2 * 10 ^ Int.toNat 60 - 1:Int).natAbs.log2 < 9000:=by decide +kernel
theorem Ng:(0:Int) < 10 ^ Int.toNat 60:=by decide +kernel
theorem Nh:(10 ^ Int.toNat 60:Int).natAbs.log2 < 9000:=by decide +kernel
theorem Rx:(0:Int) < 10 ^ Int.toNat 12 - 1:=by decide +kernel
theorem Ni:(10 ^ Int.toNat 12 - 1:Int).natAbs.log2 < 9000:=by decide +kernel
theorem dig {m:Int}{E:XK}(hp:eE H p)(h0:0 < m)(hl:m.natAbs.log2 < 9000)(q:∀d H',0<=d->d < m->Step p H H'->Q (.int d) H'):jz [.ref p,.int m] H Q E:=⟨p,m,rfl,hp,h0,hl,q⟩
abbrev l9:Stmt:=top 16
def EK:Sp:=λvs H Q _=>∃x m n d,vs=[x,.int m]/\HD H n x d/\∀H',av H H'->Q (.bl (Bx m d)) H'
theorem IL {K:W.Frag}{H:Hp}{n:Nat}{x:V}{d:DV}(h:HD H n x d)(hd:∀ds,d≠.tup ds):∃t,fV K H x t/\W.kitOne K t (.type "tuple")=some false:=by
 cases h with
 | bR=>exact⟨_,.bR,rfl⟩
 | bl b=>exact⟨_,.bl b,rfl⟩
 | int i=>exact⟨_,.int i,rfl⟩
 | str x=>exact⟨_,.str x,rfl⟩
 | tup e=>exact absurd rfl (hd _)
 | lst e=>exact⟨_,.lst e,rfl⟩
 | dict e=>exact⟨_,.dK e,rfl⟩
theorem IM {K:W.Frag}{H:Hp}{n:Nat}{x:V}{d:DV}(h:HD H n x d)(hd:∀s,d≠.str s):∃t,fV K H x t/\W.kitOne K t (.type "str")=some false:=by
 cases h with
 | bR=>exact⟨_,.bR,rfl⟩
 | bl b=>exact⟨_,.bl b,rfl⟩
 | int i=>exact⟨_,.int i,rfl⟩
 | str x=>exact absurd rfl (hd _)
 | tup e=>exact⟨_,.tup e,rfl⟩
 | lst e=>exact⟨_,.lst e,rfl⟩
 | dict e=>exact⟨_,.dK e,rfl⟩
theorem IP {m:Int}{d:DV}(hd:∀ds,d≠.tup ds):Bx m d=false:=by
 cases d with
 | tup ds=>exact absurd rfl (hd ds)
 | _=>rfl
theorem EL {m:Int}{d:DV}{r:List DV}(hd:∀s,d≠.str s):Bx m (.tup (d::r))=false:=by
 cases d with
 | str s=>exact absurd rfl (hd s)
 | _=>rfl
theorem yB (D:dH K mg "is_value" "is_value" l9 ["thing","many"])(T:Tx K mg C CN CR F FD)(d7:Def P w K mg base "is_whole" 1 ["thing"] iM)(aJ:Def P w K mg base "is_within" 2 ["thing","low","beyond"] cD):Def P w K mg base "is_value" 3 ["thing","many"] EK:=by
 have sc:aD ["thing","many","word"] ["thing","many"] (az l9):=by walk_at "s"
 symm
 ·obtain⟨x,m,n,d,rfl,hx,q⟩:=h
  rfl
 ·nofun
  obtain⟨x,m,n,d,rfl,hx,q⟩:=h
  ac_rfl
  have hu:=hr.units
  refine⟨_,(aj (aS (PW.pt (pw_or (bT (bb (aT cw rfl T.aK nN (ai (au 0) (ai (bO (v:=.ty "tuple") rfl T.cu qe rfl) aa))))) (pw_or (aA (aV hu) (aT aM rfl T.cm PySem.boot_len (ai (au 0) aa)) ag (aC _)) (pw_or1 (bT (bb (aT cw rfl T.aK nN (ai (ak hu (au 0) ag) (ai (bO (v:=.ty "str") rfl T.Ae PyProof.Rows.boot_str rfl) aa))))))))) (ao (aE eV)) aG)
   (aj (ba (i:=2) sc.nd rfl (by grind) (ak hu (au 0) ag))
   (aj (aS (aA DC (au 2) (bC (ai aB (ai aB (ai aB aa)))) (by with_unfolding_all rfl)) (ao (aE (gT (aV hu) (aT aM rfl T.cm PySem.boot_len (ai (au 0) aa)) ag (aC _)))) aG)
   (aj (aS (aA (dG hu) (aT aM rfl T.cm PySem.boot_len (ai (au 0) aa)) ag (aC _)) (ao (aE eV)) aG)
   (aj (aS (aA (aV hu) (au 2) aB (aC _)) (ao (aE (aN d7 hr (ai (ak hu (au 0) ag) aa)))) aG)
   (ao (aE (iS (gT (aV hu) (au 2) aB (aC _)) (iR (aN aJ hr (ai (ak hu (au 0) ag) (ai ag (ai (au 1) aa))))))))))))),?_⟩
  walk_at "rd"
  by_cases hd:∀ds,d≠.tup ds
  ·obtain⟨t,h1,h2⟩:=IL (K:=K) hx hd
   refine ck t false h1 h2 ?_
   rw[IP hd] at q
   exact q H (av.refl H)
  ·have:∃ds,d=.tup ds:=Classical.byContradiction λz=>hd λds e=>z ⟨ds,e⟩
   obtain⟨ds,rfl⟩:=this
   cases hx with
   | @tup n a xs _ ha hl hi=>
    refine⟨.type "tuple",true,.tup ha,rfl,?_⟩
    simp only[Bool.not_true,Bool.false_eq_true,if_false]
    refine bx _ (.inr ⟨_,bJ.of ha,rfl⟩) ?_
    right
    rcases ds with _ | ⟨d0,dr⟩ <;> rcases xs with _ | ⟨x0,xr⟩
    ·exact q H (av.refl H)
    ·cases hl
    ·cases hl
    ·skip
     rw[if_neg (by simp;omega)]
     refine ck _ _ (.inr (bJ.of ha)) (ax (j:=0) rfl) ?_
     have h0:=hi 0 x0 d0 rfl rfl
     by_cases hs:∀s,d0≠.str s
     ·obtain⟨t,h1,h2⟩:=IM (K:=K) h0 hs
      refine ck t false h1 h2 ?_
      rw[EL hs] at q
      exact q H (av.refl H)
     ·have:∃s,d0=.str s:=Classical.byContradiction λz=>hs λds e=>z ⟨ds,e⟩
      nofun
      obtain⟨sw,rfl⟩:=this
      obtain rfl:=h0.bM
      ac_rfl
      refine⟨.type "str",true,.str _,rfl,?_⟩
      simp only[Bool.not_true,Bool.false_eq_true,if_false]
      refine ck _ _ (.inr (bJ.of ha)) (ax (j:=0) rfl) ?_
      right
      refine⟨by decide,λp hp=>?_⟩
      have s1:av H (upd H p (.tup [.str "letter",.str "way",.str "first"])):=av.new _ hp
      have Va:=s1 _ _ ha
      refine Ep _ (.inr (bJ.of af)) rfl rfl ?_
      right
      have gV:xr.length=dr.length:=by simpa using hl
      by_cases hw:zF (.str sw) qR=true
      ·have hv:Bx m (.tup (.str sw::dr))=decide (dr.length=0):=by
        show(if zF (.str sw) qR=true then decide (dr.length=0) else _)=_
        rw[if_pos hw]
       rw[if_pos (show zF (.str sw) [.str "letter",.str "way",.str "first"]=true from hw)]
       refine bx _ (.inr ⟨_,bJ.of Va,rfl⟩) ?_
       right
       have e:decide (((xr.length + 1:Nat):Int)=1)=decide (dr.length=0):=by
        rw[gV]
        by_cases z:dr.length=0
        ·rw[decide_eq_true z,decide_eq_true (by omega)]
        ·rw[decide_eq_false z,decide_eq_false (by omega)]
       rw[hv] at q
       have qq:=q _ s1
       rw[<-e] at qq
       exact qq
      ·have hv:Bx m (.tup (.str sw::dr))=IB sw m dr:=by
        show(if zF (.str sw) qR=true then decide (dr.length=0) else _)=_
        rw[if_neg hw]
       rw[if_neg (show ¬zF (.str sw) [.str "letter",.str "way",.str "first"]=true from hw)]
       refine bx _ (.inr ⟨_,bJ.of Va,rfl⟩) ?_
       right
       rw[hv] at q
       rcases dr with _ | ⟨z,_ | ⟨z',dr⟩⟩ <;> rcases xr with _ | ⟨y,_ | ⟨y',xr⟩⟩
       ·rw[if_pos (by simp)]
        exact q _ s1
       ·cases gV
       ·cases gV
       ·cases gV
       ·skip
        rw[if_neg (by simp)]
        have h1:=(hi 1 y z rfl rfl).same s1
        obtain⟨t,kt⟩:=Rc h1
        by_cases e1:sw="is"
        ·rw[if_pos (by simpa using e1)]
         refine⟨_,_,.inr (bJ.of Va),rfl,y,t,rfl,kt,?_⟩
         have qq:=q _ s1
         simp only[IB,if_pos e1] at qq
         rw[MY h1]
         exact qq
        ·rw[if_neg (by simpa using e1)]
         have qq:=q _ s1
         simp only[IB,if_neg e1] at qq
         by_cases e2:sw="number"
         ·rw[if_pos (by simpa using e2)]
          refine⟨_,_,.inr (bJ.of Va),rfl,y,t,0,m,rfl,kt,?_⟩
          rw[decide_eq_true e2,Bool.true_and] at qq
          rw[MZ h1]
          exact qq
         ·rw[if_neg (by simpa using e2)]
          rw[decide_eq_false e2,Bool.false_and] at qq
          exact qq
       ·simp at gV
       ·cases gV
       ·simp at gV
       ·rw[if_pos (by simp;omega)]
        exact q _ s1
abbrev oo:Stmt:=top 12
def ma:Sp:=λvs H Q _=>∃(a:Addr) (xs:List V) (lo hi:Int),vs=[.ref a,.int lo,.int hi]/\(H a=some (.lst xs)\/H a=some (.tup xs))/\∀H',av H H'->Q (.bl (decide (lo<=(xs.length:Int)) && decide ((xs.length:Int)<=hi))) H'
theorem BH (D:dH K mg "is_list" "is_list" oo ["things","least","most"])(T:Tx K mg C CN CR F FD):Def P w K mg base "is_list" 1 ["things","least","most"] ma:=by
 have sc:aD ["things","least","most"] ["things","least","most"] (az oo):=by walk_at "s"
 symm
 ·obtain⟨a,xs,lo,hi,rfl,hx,q⟩:=h
  rfl
 ·nofun
  obtain⟨a,xs,lo,hi,rfl,hx,q⟩:=h
  ac_rfl
  have hu:=hr.units
  refine⟨_,(ao (aE (iS (aT cw rfl T.aK nN (ai (au 0) (ai (bC (ai (bO (v:=.ty "list") rfl T.dI um rfl) (ai (bO (v:=.ty "tuple") rfl T.cu qe rfl) aa))) aa))) (iR (vB yk yk (au 1) (aT aM rfl T.cm PySem.boot_len (ai (au 0) aa)) (au 2)))))),?_⟩
  right
  refine⟨cM,λp hp=>?_⟩
  have s1:av H (upd H p (.tup [.ty "list",.ty "tuple"])):=av.new _ hp
  have key:∃t,fV K (upd H p (.tup [.ty "list",.ty "tuple"])) (.ref a) t/\W.kitAny K t [.type "list",.type "tuple"]=some true/\CZ K (.ref a) (upd H p (.tup [.ty "list",.ty "tuple"])) xs.length:=by
   rcases hx with hx | hx
   ·exact⟨_,.lst (s1 _ _ hx),rfl,.inl ⟨_,aP.of (s1 _ _ hx),rfl⟩⟩
   ·exact⟨_,.tup (s1 _ _ hx),rfl,.inr ⟨_,bJ.of (s1 _ _ hx),rfl⟩⟩
  obtain⟨t,h1,h2,h3⟩:=key
  refine M7 t true _ _ h1 af rfl h2 ?_
  rw[if_pos rfl]
  refine bx _ h3 ?_
  have qq:=q _ s1
  by_cases h:lo<=(xs.length:Int)
  ·rw[if_pos (by simpa using h)]
   rw[decide_eq_true h,Bool.true_and] at qq
   exact qq
  ·rw[if_neg (by simpa using h)]
   rw[decide_eq_false h,Bool.false_and] at qq
   exact qq
abbrev oq:Stmt:=top 22
def Ah (K:W.Frag):Sp:=λvs H Q _=>∃d:bH,vs=[.str d.word]/\∀p,bJ K H p (d.sr.map V.str)->Q (.ref p) H
theorem BI (D:dH K mg "form_of" "form_of" oq ["word"])(T:Tx K mg C CN CR F FD):Def P w K mg base "form_of" 1 ["word"] (Ah K):=by
 have sc:aD ["word"] ["word"] (az oq):=by walk_at "s"
 symm
 ·obtain⟨d,rfl,q⟩:=h
  rfl
 ·nofun
  obtain⟨d,rfl,q⟩:=h
  ac_rfl
  have hu:=hr.units
  refine⟨_,(ao (aE (Iu T.Ag rfl T.Af (ai (au 0) aa)))),?_⟩
  obtain⟨p,h1,h2⟩:=T.Kr d
  show Q ((PyProof.Rows.KTD.datumAt d.word FD).getD .bR) H
  rw[h1]
  exact q p (h2 H)
abbrev ou:Stmt:=top 23
inductive jQ (H:Hp)(m:Int):V->Str->Prop
 | value {n x v}:HT H n x (Val.dv v)->v.ok m->jQ H m x "value"
 | number {i}:0<=i->i < m->jQ H m (.int i) "number"
 | many {i}:1<=i->i < 25->jQ H m (.int i) "many"
 | way {i}:0<=i->jQ H m (.int i) "way"
theorem jQ.same{H H':Hp}{m:Int}{x:V}{w:Str}(s:av H H')(h:jQ H m x w):jQ H' m x w:=by
 cases h with
 | value h1 h2=>exact .value (h1.aI s.aQ) h2
 | number h1 h2=>exact .number h1 h2
 | many h1 h2=>exact .many h1 h2
 | way h1=>exact .way h1
def Ai:Sp:=λvs H Q _=>∃x w m,vs=[x,.str w,.int m]/\jQ H m x w/\∀H',av H H'->Q (.bl true) H'
theorem BJ (D:dH K mg "is_part" "is_part" ou ["thing","sort","many"])(T:Tx K mg C CN CR F FD)(me:Def P w K mg base "is_value" 3 ["thing","many"] EK)(d7:Def P w K mg base "is_whole" 1 ["thing"] iM)(aJ:Def P w K mg base "is_within" 2 ["thing","low","beyond"] cD):Def P w K mg base "is_part" 4 ["thing","sort","many"] Ai:=by
 have sc:aD ["thing","sort","many"] ["thing","sort","many"] (az ou):=by walk_at "s"
 symm
 ·obtain⟨x,w,m,rfl,hx,q⟩:=h
  rfl
 ·nofun
  obtain⟨x,w,m,rfl,hx,q⟩:=h
  ac_rfl
  have hu:=hr.units
  refine⟨_,(aj (aS (aA (aV hu) (au 1) aB (aC _)) (ao (aE (aN me hr (ai (au 0) (ai (au 2) aa))))) aG)
   (aj (aS (aA (aV hu) (au 1) aB (aC _)) (ao (aE (aN aJ hr (ai (au 0) (ai ag (ai (au 2) aa)))))) aG)
   (aj (aS (aA (aV hu) (au 1) aB (aC _)) (ao (aE (aN aJ hr (ai (au 0) (ai ag (ai (aY da (fE T.dX rfl) ag) aa)))))) aG)
   (ao (aE (iS (aN d7 hr (ai (au 0) aa)) (iR (gT MG (au 0) ag (aC _))))))))),?_⟩
  right
  cases hx with
  | @value n x v h1 h2=>
   rw[if_pos (by decide +kernel)]
   refine fK x m n _ rfl h1.hd (λH' s=>?_)
   rw[M0 h2]
   exact q H' s
  | @number i h1 h2=>
   rw[if_neg (by decide +kernel),if_pos (by decide +kernel)]
   refine fK (.int i) _ 0 m rfl (.int i) ?_
   have e:inR 0 m (.int i)=true:=by simp[inR,h1,h2]
   rw[e]
   exact q H (av.refl H)
  | @many i h1 h2=>
   rw[if_neg (by decide +kernel),if_neg (by decide +kernel),if_pos (by decide +kernel)]
   refine fK (.int i) _ 1 _ rfl (.int i) ?_
   have e:inR 1 (24 + 1) (.int i)=true:=by simp[inR,h1];omega
   rw[e]
   exact q H (av.refl H)
  | @way i h1=>
   rw[if_neg (by decide +kernel),if_neg (by decide +kernel),if_neg (by decide +kernel)]
   refine⟨.int i,_,rfl,.int i,true,rfl,?_⟩
   rw[if_pos rfl]
   have e:decide ((0:Int)<=i)=true:=decide_eq_true h1
   right
   rw[e]
   exact q H (av.refl H)
abbrev oy:Stmt:=top 24
theorem Xn {x:V}{ps:List V}:cI (x::ps) (some 1) none=ps:=by
 unfold cI
 have e:HT.d9 (x::ps).length 0 (some 1)=1:=by
  show(if (1:Int) < 0 then((1:Int) + ((x::ps).length:Int)).toNat else min (1:Int).toNat (x::ps).length)=1
  rw[if_neg (by decide)]
  show min 1 (ps.length + 1)=1
  omega
 rw[e]
 show List.take ((x::ps).length - 1) ps=ps
 simp
theorem yC {H:Hp}{n:Nat}{x:V}{d:bH}{m:Int}(h:HT H n x d.dv)(bf:d.ok m):∃a ps,x=.ref a/\H a=some (.tup (.str d.word::ps))/\ps.length=d.sr.length/\∀(i:Nat) p s,ps[i]?=some p->d.sr[i]?=some s->jQ H m p s:=by
 cases d with
 | set i v=>
  nofun
  obtain⟨a,u,y,z,k,rfl,e,h1,h2,h3⟩:=b4 h
  obtain rfl:=h1.bM
  obtain rfl:=h2.bS
  ac_rfl
  refine sy a _ rfl e rfl (λj p s hp hs=>?_)
  match j,hp,hs with
  | 0,hp,hs=>cases hp;cases hs;exact .number bf.1 bf.2.1
  | 1,hp,hs=>cases hp;cases hs;exact .value h3 bf.2.2
 | add i v=>
  nofun
  obtain⟨a,u,y,z,k,rfl,e,h1,h2,h3⟩:=b4 h
  obtain rfl:=h1.bM
  obtain rfl:=h2.bS
  ac_rfl
  refine sy a _ rfl e rfl (λj p s hp hs=>?_)
  match j,hp,hs with
  | 0,hp,hs=>cases hp;cases hs;exact .number bf.1 bf.2.1
  | 1,hp,hs=>cases hp;cases hs;exact .value h3 bf.2.2
 | times i v=>
  nofun
  obtain⟨a,u,y,z,k,rfl,e,h1,h2,h3⟩:=b4 h
  obtain rfl:=h1.bM
  obtain rfl:=h2.bS
  ac_rfl
  refine sy a _ rfl e rfl (λj p s hp hs=>?_)
  match j,hp,hs with
  | 0,hp,hs=>cases hp;cases hs;exact .number bf.1 bf.2.1
  | 1,hp,hs=>cases hp;cases hs;exact .value h3 bf.2.2
 | put v=>
  nofun
  obtain⟨a,u,y,k,rfl,e,h1,h2⟩:=cy h
  obtain rfl:=h1.bM
  ac_rfl
  refine sy a _ rfl e rfl (λj p s hp hs=>?_)
  match j,hp,hs with
  | 0,hp,hs=>cases hp;cases hs;exact .value h2 bf
 | drop=>
  nofun
  obtain⟨a,u,k,rfl,e,h1⟩:=fY h
  obtain rfl:=h1.bM
  ac_rfl
  exact⟨a,_,rfl,e,rfl,λj p s hp hs=>by simp at hp⟩
 | send j v=>
  nofun
  obtain⟨a,u,y,z,k,rfl,e,h1,h2,h3⟩:=b4 h
  obtain rfl:=h1.bM
  obtain rfl:=h2.bS
  ac_rfl
  refine sy a _ rfl e rfl (λj p s hp hs=>?_)
  match j,hp,hs with
  | 0,hp,hs=>cases hp;cases hs;exact .way bf.1
  | 1,hp,hs=>cases hp;cases hs;exact .value h3 bf.2
 | say v=>
  nofun
  obtain⟨a,u,y,k,rfl,e,h1,h2⟩:=cy h
  obtain rfl:=h1.bM
  ac_rfl
  refine sy a _ rfl e rfl (λj p s hp hs=>?_)
  match j,hp,hs with
  | 0,hp,hs=>cases hp;cases hs;exact .value h2 bf
 | skip v w kk=>
  nofun
  obtain⟨a,u,y,z,t,k,rfl,e,h1,h2,h3,h4⟩:=jL h
  obtain rfl:=h1.bM
  obtain rfl:=h4.bS
  ac_rfl
  refine sy a _ rfl e rfl (λj p s hp hs=>?_)
  match j,hp,hs with
  | 0,hp,hs=>cases hp;cases hs;exact .value h2 bf.1
  | 1,hp,hs=>cases hp;cases hs;exact .value h3 bf.2.1
  | 2,hp,hs=>cases hp;cases hs;exact .many bf.2.2.1 bf.2.2.2
theorem yD:d.sr.length<=3:=by cases d <;> simp[bH.sr]
def tR:Sp:=λvs H Q _=>∃x m n d,vs=[x,.int m]/\HT H n x (bH.dv d)/\d.ok m/\∀H',av H H'->Q (.bl true) H'
theorem BK (D:dH K mg "is_deed" "is_deed" oy ["thing","many"])(T:Tx K mg C CN CR F FD)(oz:Def P w K mg base "form_of" 1 ["word"] (Ah K))(oA:Def P w K mg base "is_part" 4 ["thing","sort","many"] Ai):Def P w K mg base "is_deed" 5 ["thing","many"] tR:=by
 have sc:aD ["thing","many","form"] ["thing","many"] (az oy):=by walk_at "s"
 symm
 ·obtain⟨x,m,n,d,rfl,hx,bf,q⟩:=h
  rfl
 ·nofun
  obtain⟨x,m,n,d,rfl,hx,bf,q⟩:=h
  ac_rfl
  have hu:=hr.units
  refine⟨_,(aj (aS (PW.pt (pw_or (bT (bb (aT cw rfl T.aK nN (ai (au 0) (ai (bO (v:=.ty "tuple") rfl T.cu qe rfl) aa))))) (pw_or (aA (aV hu) (aT aM rfl T.cm PySem.boot_len (ai (au 0) aa)) ag (aC _)) (pw_or1 (bT (bb (aT cw rfl T.aK nN (ai (ak hu (au 0) ag) (ai (bO (v:=.ty "str") rfl T.Ae PyProof.Rows.boot_str rfl) aa))))))))) (ao (aE eV)) aG)
   (aj (ba (i:=2) sc.nd rfl (by grind) (aN oz hr (ai (ak hu (au 0) ag) aa)))
   (aj (aS (PW.pt (pw_or (aA yl (au 2) j9 (aC _)) (pw_or1 (aA (dG hu) (aT aM rfl T.cm PySem.boot_len (ai (au 0) aa)) (aY da (aT aM rfl T.cm PySem.boot_len (ai (au 2) aa)) ag) (aC _))))) (ao (aE eV)) aG)
   (ao (aE (aT (gY rfl) rfl T.qX Oy (ai (cW (N':=["part","sort","many"]) (ix:=[none,none,some 1]) (DZ rfl T.EA (ai (jJ (au 0) (eW ag) iI) (ai (au 2) aa))) (λ_ _ _ _=>(jK (K:=K) rfl (i:=0) (j:=1) rfl (show(["part","sort","many"]:List Str).Nodup by decide +kernel) rfl rfl (by grind) (by grind))) lC (λ_ _ _ _=>(aN oA hr (ai (au 0) (ai (au 1) (ai (au 2) aa)))))) aa))))))),?_⟩
  nofun
  obtain⟨a,ps,rfl,ha,hlen,Nj⟩:=yC hx bf
  ac_rfl
  have h3:=yD (d:=d)
  right
  refine ck _ true (.tup ha) rfl ?_
  simp only[Bool.not_true,Bool.false_eq_true,if_false]
  refine bx _ (.inr ⟨_,bJ.of ha,rfl⟩) ?_
  rw[if_neg (by simp;omega)]
  refine⟨_,.str d.word,.inr (bJ.of ha),ax (j:=0) rfl,_,true,.str _,rfl,?_⟩
  simp only[Bool.not_true,Bool.false_eq_true,if_false]
  refine⟨_,.str d.word,.inr (bJ.of ha),ax (j:=0) rfl,d,rfl,λp hp=>?_⟩
  right
  rw[if_neg Bool.false_ne_true]
  refine⟨_,.inr ⟨_,bJ.of ha,rfl⟩,_,.inr ⟨_,hp,rfl⟩,?_⟩
  rw[if_neg (by simp[hlen])]
  refine bF ?_
  right
  refine .inr ⟨_,ha,λp2 H2 s2 GU=>?_⟩
  rw[Xn] at GU
  have Vb:=s2.OK hp
  refine fK false false _ _ (Sq.t GU) Vb (λD hD=>?_)
  refine aZ (J:=UZ false false K p2 p) (n:=ps.length) (λi ys H'=>ys=List.replicate i (V.bl true)/\av H2 H') (Nat.le_of_lt (aH (by omega))) ⟨rfl,av.new _ hD⟩ ?_ ?_ ?_ ?_
  ·rintro i ys H' hi ⟨_,s3⟩
   exact⟨ps,d.sr.map V.str,ps[i],.str (d.sr[i]'(by omega)),Sq.t (s3 _ _ GU),s3.OK Vb,cA hi,by rw[List.getElem?_map,cA (by omega)];rfl⟩
  ·rintro ys H' ⟨_,s3⟩
   exact⟨ps,d.sr.map V.str,Sq.t (s3 _ _ GU),s3.OK Vb,.inl rfl⟩
  ·intro i ys H' hi bE hl iV x H4 iW
   nofun
   obtain⟨rfl,s3⟩:=iV
   obtain⟨T,hT,rfl,hy⟩:=iW
   obtain⟨u,v,e1,e2,rfl⟩:=hy ps (d.sr.map V.str) (Sq.t (s3 _ _ GU)) (s3.OK Vb)
   rw[List.getElem?_map] at e2
   obtain⟨z,ez,rfl⟩:=Option.map_eq_some_iff.mp e2
   ac_rfl
   have s4:av H' (upd H' T (.tup [u,.str z])):=av.new _ hT
   refine wb (bJ.of af) ⟨Ext.set (Ext.set (Ext.refl _) rfl) rfl,?_⟩
   right
   rw[if_pos trivial]
   refine Xi u z m rfl ((Nj i u z e1 ez).same (s2.trans (s3.trans s4))) (λH5 s5=>?_)
   have tS:H5 D=some (.lst (List.replicate i (V.bl true))):=s5 _ _ (s4 _ _ bE)
   refine bP tS hl hi (Nat.le_of_lt (aH (by omega))) ⟨eN _ _,λb o e=>?_⟩
   rw[ay (aq e hD)]
   exact s5 _ _ (s4 _ _ (s3 _ _ e))
  ·rintro ys H' bE hl ⟨rfl,s3⟩
   right
   rw[lW] at bE
   refine bx _ (aP.of bE) ?_
   have e:(List.replicate ps.length true).all id=true:=by simp
   rw[e]
   exact q _ (s2.trans s3)
abbrev iX:Stmt:=top 30
def LT (H:Hp)(a:Addr)(xs:List V):Prop:=H a=some (.lst xs)\/H a=some (.tup xs)
theorem LT.same{xs:List V}(s:av H H')(h:LT H a xs):LT H' a xs:=h.elim (λz=>.inl (s _ _ z)) (λz=>.inr (s _ _ z))
theorem jA {K:W.Frag}(h:LT H a ys)(q:∀p H',av H H'->H' p=some (.tup ys)->Q (.ref p) H'):uK K [.ref a] H Q:=by
 rcases h with h | h
 ·exact .inl ⟨_,aP.of h,λl hl=>q l _ (av.new _ hl) af⟩
 ·exact .inr ⟨_,bJ.of h,q a H (av.refl H) h⟩
def qZ:Sp:=λvs H Q _=>∃(a:Addr) (ns:List Int) (lo hi M:Int),vs=[.ref a,.int lo,.int hi,.int M]/\LT H a (ns.map V.int)/\lo<=(ns.length:Int)/\(ns.length:Int)<=hi/\hi<=100/\(∀z ∈ ns,0<=z/\z < M)/\∀H',av H H'->Q (.bl true) H'
theorem sD (D:dH K mg "are_counted" "are_counted" iX ["things","least","most","modulus"])(T:Tx K mg C CN CR F FD)(ft:Def P w K mg base "is_list" 1 ["things","least","most"] ma)(aJ:Def P w K mg base "is_within" 2 ["thing","low","beyond"] cD):Def P w K mg base "are_counted" 3 ["things","least","most","modulus"] qZ:=by
 have sc:aD ["things","least","most","modulus"] ["things","least","most","modulus"] (az iX):=by walk_at "s"
 symm
 ·obtain⟨a,ns,lo,hi,M,rfl,ha,tH,hhi,Xo,hb,q⟩:=h
  rfl
 ·nofun
  obtain⟨a,ns,lo,hi,M,rfl,ha,tH,hhi,Xo,hb,q⟩:=h
  ac_rfl
  have hu:=hr.units
  refine⟨_,(ao (aE (iS (aN ft hr (ai (au 0) (ai (au 1) (ai (au 2) aa)))) (iR (aT (gY rfl) rfl T.qX Oy (ai (cW (N':=["thing","modulus"]) (ix:=[none,some 3]) (bU (pv 0)) (λ_ _ _ _=>(aU (i:=0) (show(["thing","modulus"]:List Str).Nodup by decide +kernel) rfl (by grind))) lC (λ_ _ _ _=>(aN aJ hr (ai (au 0) (ai ag (ai (au 1) aa)))))) aa)))))),?_⟩
  right
  refine fK a _ lo hi rfl ha (λH1 s1=>?_)
  rw[List.length_map,decide_eq_true tH,decide_eq_true hhi]
  show ∃c,V.bl true=.bl c/\_
  refine bx true rfl ?_
  rw[if_pos rfl]
  refine bF ?_
  right
  rcases ha with ha | ha
  ·refine .inl ⟨⟨_,aP.of (s1 _ _ ha)⟩,λD hD=>?_⟩
   refine aZ (J:=qB K a) (n:=ns.length) (λi ys H'=>ys=List.replicate i (V.bl true)/\av H1 H') (Nat.le_of_lt (aH (by omega))) ⟨rfl,av.new _ hD⟩ ?_ ?_ ?_ ?_
   ·rintro i ys H' iH ⟨_,s3⟩
    exact⟨_,.int ns[i],aP.of (s3 _ _ (s1 _ _ ha)),by rw[List.getElem?_map,cA iH];rfl⟩
   ·rintro ys H' ⟨_,s3⟩
    exact⟨_,aP.of (s3 _ _ (s1 _ _ ha)),by simp⟩
   ·intro i ys H' iH bE hl iV x H4 iW
    nofun
    obtain⟨rfl,s3⟩:=iV
    obtain⟨rfl,hy⟩:=iW
    have ex:=hy _ (aP.of (s3 _ _ (s1 _ _ ha)))
    rw[List.getElem?_map,cA iH] at ex
    obtain rfl:=Option.some.inj ex
    ac_rfl
    walk_at "xf"
    right
    rw[if_pos trivial]
    refine fK (.int ns[i]) _ 0 M rfl (.int _) ?_
    have hz:=hb ns[i] (List.getElem_mem iH)
    have e:inR 0 M (.int ns[i])=true:=by simp[inR,hz.1,hz.2]
    rw[e]
    refine bP bE hl iH (Nat.le_of_lt (aH (by omega))) ⟨eN _ _,λb o e=>?_⟩
    rw[ay (aq e hD)]
    exact s3 _ _ e
   ·rintro ys H' bE hl ⟨rfl,s3⟩
    right
    rw[lW] at bE
    refine bx _ (aP.of bE) ?_
    have e:(List.replicate ns.length true).all id=true:=by simp
    rw[e]
    exact q _ (s1.trans s3)
  ·refine .inr ⟨⟨_,bJ.of (s1 _ _ ha)⟩,λD hD=>?_⟩
   refine aZ (J:=Hy K a) (n:=ns.length) (λi ys H'=>ys=List.replicate i (V.bl true)/\av H1 H') (Nat.le_of_lt (aH (by omega))) ⟨rfl,av.new _ hD⟩ ?_ ?_ ?_ ?_
   ·rintro i ys H' iH ⟨_,s3⟩
    exact⟨_,.int ns[i],bJ.of (s3 _ _ (s1 _ _ ha)),by rw[List.getElem?_map,cA iH];rfl⟩
   ·rintro ys H' ⟨_,s3⟩
    exact⟨_,bJ.of (s3 _ _ (s1 _ _ ha)),by simp⟩
   ·intro i ys H' iH bE hl mf x H4 oB
    nofun
    obtain⟨rfl,s3⟩:=mf
    obtain⟨rfl,hy⟩:=oB
    have ex:=hy _ (bJ.of (s3 _ _ (s1 _ _ ha)))
    rw[List.getElem?_map,cA iH] at ex
    obtain rfl:=Option.some.inj ex
    ac_rfl
    walk_at "xf"
    right
    rw[if_pos trivial]
    refine fK (.int ns[i]) _ 0 M rfl (.int _) ?_
    have hz:=hb ns[i] (List.getElem_mem iH)
    have e:inR 0 M (.int ns[i])=true:=by simp[inR,hz.1,hz.2]
    rw[e]
    refine bP bE hl iH (Nat.le_of_lt (aH (by omega))) ⟨eN _ _,λb o e=>?_⟩
    rw[ay (aq e hD)]
    exact s3 _ _ e
   ·rintro ys H' bE hl ⟨rfl,s3⟩
    right
    rw[lW] at bE
    refine bx _ (aP.of bE) ?_
    have e:(List.replicate ns.length true).all id=true:=by simp
    rw[e]
    exact q _ (s1.trans s3)
abbrev gf:Stmt:=top 31
def Aj:Sp:=λvs H Q _=>∃(M:Int) (an ar ad:Addr) (ns row:List Int) (xs:List V),vs=[.int M,.ref an,.ref ar,.ref ad]/\2<=M/\M<=1000000000000/\LT H an (ns.map V.int)/\LT H ar (row.map V.int)/\LT H ad xs/\1<=ns.length/\ns.length<=4/\row.length<=12/\(∀z ∈ ns,0<=z/\z < M)/\(∀z ∈ row,0<=z/\z < M)/\∀H',av H H'->Q .bR H'
theorem oC (D:dH K mg "refuse_machine" "refuse_machine" gf ["modulus","numbers","row","deeds"])(T:Tx K mg C CN CR F FD)(gz:Def P w K mg base "are_counted" 3 ["things","least","most","modulus"] qZ)(aJ:Def P w K mg base "is_within" 2 ["thing","low","beyond"] cD):Def P w K mg base "refuse_machine" 4 ["modulus","numbers","row","deeds"] Aj:=by
 have sc:aD ["modulus","numbers","row","deeds"] ["modulus","numbers","row","deeds"] (az gf):=by walk_at "s"
 symm
 ·obtain⟨M,an,ar,ad,ns,row,xs,rfl,BL,oF,hn,OO,hd,wq,Ks,nu,hb,Nk,q⟩:=h
  rfl
 ·nofun
  obtain⟨M,an,ar,ad,ns,row,xs,rfl,BL,oF,hn,OO,hd,wq,Ks,nu,hb,Nk,q⟩:=h
  ac_rfl
  have hu:=hr.units
  refine⟨_,(aj (aS (bT (bb (aN aJ hr (ai (au 0) (ai ag (ai (aY da (fE T.dJ rfl) ag) aa)))))) (ao dA) aG)
   (aj (aS (bT (bb (aN gz hr (ai (au 1) (ai ag (ai (fE T.dM rfl) (ai (au 0) aa))))))) (ao dA) aG)
   (aj (aS (bT (bb (aN gz hr (ai (au 2) (ai ag (ai (fE T.fb rfl) (ai (au 0) aa))))))) (ao dA) aG)
   (ao (aS (bT (bb (aT cw rfl T.aK nN (ai (au 3) (ai (bC (ai (bO (v:=.ty "list") rfl T.dI um rfl) (ai (bO (v:=.ty "tuple") rfl T.cu qe rfl) aa))) aa))))) (ao dA) aG))))),?_⟩
  right
  refine fK (.int M) _ 2 _ rfl (.int M) ?_
  have e:inR 2 (1000000000000 + 1) (.int M)=true:=by simp[inR,BL];omega
  rw[e]
  right
  rw[if_neg (by decide)]
  refine Rm an ns 1 4 M rfl hn (by omega) (by omega) (by decide) hb (λH1 s1=>?_)
  right
  rw[if_neg (by decide)]
  refine Rm ar row 0 12 M rfl (OO.same s1) (by omega) (by omega) (by decide) Nk (λH2 s2=>?_)
  right
  rw[if_neg (by decide)]
  refine⟨cM,λp hp=>?_⟩
  have s3:av H2 (upd H2 p (.tup [.ty "list",.ty "tuple"])):=av.new _ hp
  have Qy:∃t,fV K (upd H2 p (.tup [.ty "list",.ty "tuple"])) (.ref ad) t/\W.kitAny K t [.type "list",.type "tuple"]=some true:=by
   rcases hd.same (s1.trans (s2.trans s3)) with z | z
   ·exact⟨_,.lst z,rfl⟩
   ·exact⟨_,.tup z,rfl⟩
  obtain⟨t,sE,kr⟩:=Qy
  refine M7 t true _ _ sE af rfl kr ?_
  right
  rw[if_neg (by decide)]
  exact q _ (s1.trans (s2.trans s3))
abbrev hJ:Stmt:=top 32
def DL (H:Hp)(n:Nat)(xs:List V)(ds:List bH):Prop:=xs.length=ds.length/\∀(i:Nat) x d,xs[i]?=some x->ds[i]?=some d->HT H n x (bH.dv d)
theorem DL.aI{n:Nat}{xs:List V}{ds:List bH}(s:bQ H H')(h:DL H n xs ds):DL H' n xs ds:=⟨h.1,λi x d e1 e2=>(h.2 i x d e1 e2).aI s⟩
theorem DL.ht{n:Nat}{xs:List V}{ds:List bH}(h:DL H n xs ds)(e:H a=some (.tup xs)):HT H (n + 1) (.ref a) (.tup (ds.map bH.dv)):=by
 refine .tup e (by rw[List.length_map];exact h.1) λi u d hu hd=>?_
 rw[List.getElem?_map] at hd
 obtain⟨dd,e1,rfl⟩:=Option.map_eq_some_iff.mp hd
 exact h.2 i u dd hu e1
def Ak:Sp:=λvs H Q _=>∃(a:Addr) (xs:List V) (ds:List bH) (m:Int) (n:Nat),vs=[.ref a,.int m]/\LT H a xs/\DL H n xs ds/\ds.length<=24/\(∀d ∈ ds,d.ok m)/\∀H',av H H'->Q .bR H'
theorem q8 (D:dH K mg "refuse_deeds" "refuse_deeds" hJ ["deeds","many"])(T:Tx K mg C CN CR F FD)(oG:Def P w K mg base "is_deed" 5 ["thing","many"] tR):Def P w K mg base "refuse_deeds" 6 ["deeds","many"] Ak:=by
 have sc:aD ["deeds","many","at","deed"] ["deeds","many"] (az hJ):=by walk_at "s"
 symm
 ·obtain⟨a,xs,ds,m,n,rfl,ha,sF,Kt,bf,q⟩:=h
  rfl
 ·nofun
  obtain⟨a,xs,ds,m,n,rfl,ha,sF,Kt,bf,q⟩:=h
  ac_rfl
  have hu:=hr.units
  refine⟨_,(ao (eZ PassesOwn.never rfl (jI rfl T.dQ (ai (au 0) aa)) (iU (i:=2) (j:=3) rfl sc.nd rfl rfl (by grind) (by grind))
   (ao (aS (PW.pt (pw_or (aA (aV hu) (au 2) (fE T.dX rfl) (aC _)) (pw_or1 (bT (bb (aN oG hr (ai (au 3) (ai (au 1) aa)))))))) (ao dA) aG)))),?_⟩
  rcases ha with ha | ha
  ·refine BC true xs (Sq.l ha) ?_
   refine nh (xs:=xs) (λi σ H'=>av H H'/\∃z1 z2,σ=[some (.ref a),some (.int m),z1,z2]) ⟨av.refl H,none,none,rfl⟩ (λi σ H' ⟨s1,_⟩=>Sq.l (s1 _ _ ha)) ?_ ?_
   ·intro i x σ H1 T hx pW hT
    nofun
    obtain⟨s1,z1,z2,rfl⟩:=pW
    ac_rfl
    have hi:i < xs.length:=(List.getElem?_eq_some_iff.mp hx).1
    have iL:i < ds.length:=by rw[<-sF.1];exact hi
    have s2:av H1 (upd H1 T (.tup [.int i,x])):=av.new _ hT
    refine wb (bJ.of af) ?_
    right
    rw[if_neg (by simp;omega)]
    refine⟨x,m,n,ds[i],rfl,(sF.2 i x ds[i] hx (cA iL)).aI (s1.trans s2).aQ,bf _ (List.getElem_mem iL),λH3 s3=>?_⟩
    right
    first | rw[if_neg (by decide)] | skip
    exact⟨s1.trans (s2.trans s3),_,_,rfl,rfl⟩
   ·rintro σ H1 ⟨s1,_⟩
    exact q _ s1
  ·refine BC false xs (Sq.t ha) ?_
   refine nh (xs:=xs) (λi σ H'=>av H H'/\∃z1 z2,σ=[some (.ref a),some (.int m),z1,z2]) ⟨av.refl H,none,none,rfl⟩ (λi σ H' ⟨s1,_⟩=>Sq.t (s1 _ _ ha)) ?_ ?_
   ·intro i x σ H1 T hx uW hT
    nofun
    obtain⟨s1,z1,z2,rfl⟩:=uW
    ac_rfl
    have hi:i < xs.length:=(List.getElem?_eq_some_iff.mp hx).1
    have iL:i < ds.length:=by rw[<-sF.1];exact hi
    have s2:av H1 (upd H1 T (.tup [.int i,x])):=av.new _ hT
    refine wb (bJ.of af) ?_
    right
    rw[if_neg (by simp;omega)]
    refine⟨x,m,n,ds[i],rfl,(sF.2 i x ds[i] hx (cA iL)).aI (s1.trans s2).aQ,bf _ (List.getElem_mem iL),λH3 s3=>?_⟩
    right
    first | rw[if_neg (by decide)] | skip
    exact⟨s1.trans (s2.trans s3),_,_,rfl,rfl⟩
   ·rintro σ H1 ⟨s1,_⟩
    exact q _ s1
abbrev oH:Stmt:=(bW (top 36)).getD 0 (.Pass ⟨0,0,0,0⟩)
def GZ (M:Int)(st dd:V):List (Str×V):=bo "own_deeds" dd (bo "own_state" st (bo "own_modulus" (.int M) []))
theorem Ry {M:Int}:(GZ M st dd).lookup ("own_modulus":Str)=some (.int M):=by
 unfold GZ
 rw[bt,if_neg (by decide +kernel),bt,if_neg (by decide +kernel),bt,if_pos rfl]
theorem Xp {M:Int}:(GZ M st dd).lookup ("own_state":Str)=some st:=by
 unfold GZ
 rw[bt,if_neg (by decide +kernel),bt,if_pos rfl]
theorem Rz {M:Int}:(GZ M st dd).lookup ("own_deeds":Str)=some dd:=by
 unfold GZ
 rw[bt,if_pos rfl]
theorem Al {M:Int}(h1:f≠"own_modulus")(h2:f≠"own_state")(h3:f≠"own_deeds"):(GZ M st dd).lookup f=none:=by
 unfold GZ
 rw[bt,if_neg h3,bt,if_neg h2,bt,if_neg h1]
 rfl
theorem bX {v:V}{fs:List (Str×V)}{n:Nat}(h:fs.length < n):(bo f v fs).length < n + 1:=by
 have:=kg f v fs
 omega
def hV (C:Addr)(H:Hp)(m:Addr)(M:Int)(ns row:List Int)(ds:List bH):Prop:=∃dx st dd,H m=some (.ins C dx (GZ M st dd))/\HT H 2 st (vo ns row)/\HT H 4 dd (.tup (ds.map bH.dv))
theorem hV.same{C:Addr}{M:Int}{ds:List bH}(s:av H H')(h:hV C H m M ns row ds):hV C H' m M ns row ds:=by
 obtain⟨dx,st,dd,h1,h2,h3⟩:=h
 exact⟨dx,st,dd,s _ _ h1,h2.aI s.aQ,h3.aI s.aQ⟩
def Am (C:Addr):Sp:=λvs H Q _=>∃(x dx:Addr) (M:Int) (an ar ad:Addr) (ns row:List Int) (xs:List V) (ds:List bH) (n:Nat),vs=[.ref x,.int M,.ref an,.ref ar,.ref ad]/\H x=some (.ins C dx [])/\2<=M/\M<=1000000000000/\LT H an (ns.map V.int)/\LT H ar (row.map V.int)/\LT H ad xs/\1<=ns.length/\ns.length<=4/\row.length<=12/\
 (∀z ∈ ns,0<=z/\z < M)/\(∀z ∈ row,0<=z/\z < M)/\DL H n xs ds/\n<=3/\ds.length<=24/\(∀d ∈ ds,d.ok ns.length)/\∀H',hV C H' x M ns row ds->(∀b o,b≠x->H b=some o->H' b=some o)->Q .bR H'
theorem BM (D:Bw K mg "Machine" C "Machine.__init__" oH ["self","modulus","numbers","row","deeds"])(T:Tx K mg C CN CR F FD)(hX:Def P w K mg base "refuse_deeds" 6 ["deeds","many"] Ak)(gg:Def P w K mg base "refuse_machine" 4 ["modulus","numbers","row","deeds"] Aj):vV P w K mg base "Machine" C 7 ["self","modulus","numbers","row","deeds"] (Am C):=by
 have sc:aD ["self","modulus","numbers","row","deeds"] ["self","modulus","numbers","row","deeds"] (az oH):=by walk_at "s"
 symm
 ·obtain⟨x,dx,M,an,ar,ad,ns,row,xs,ds,n,rfl,hx,BL,oF,hn,OO,hd,wq,Ks,nu,hb,Nk,sF,hn3,Kt,bf,q⟩:=h
  rfl
 ·nofun
  obtain⟨x,dx,M,an,ar,ad,ns,row,xs,ds,n,rfl,hx,BL,oF,hn,OO,hd,wq,Ks,nu,hb,Nk,sF,hn3,Kt,bf,q⟩:=h
  ac_rfl
  have hu:=hr.units
  refine⟨_,(aj (bY (aN gg hr (ai (au 1) (ai (au 2) (ai (au 3) (ai (au 4) aa))))))
   (aj (bY (aN hX hr (ai (au 4) (ai (aT aM rfl T.cm PySem.boot_len (ai (au 2) aa)) aa))))
   (aj (fB (au 0) (au 1) (gy rfl))
   (aj (fB (au 0) (bC (ai (dB cL rfl T.cu qe (ai (au 2) aa)) (ai (dB cL rfl T.cu qe (ai (au 3) aa)) aa))) (gy rfl))
   (ao (fB (au 0) (dB cL rfl T.cu qe (ai (au 4) aa)) (gy rfl))))))),?_⟩
  try walk_at "rt"
  refine⟨M,an,ar,ad,ns,row,xs,rfl,BL,oF,hn,OO,hd,wq,Ks,nu,hb,Nk,λH1 s1=>?_⟩
  try walk_at "rt"
  have hlen:CZ K (.ref an) H1 (ns.map V.int).length:=(hn.same s1).elim (λz=>.inl ⟨_,aP.of z,rfl⟩) (λz=>.inr ⟨_,bJ.of z,rfl⟩)
  refine bx _ hlen ?_
  refine Rl ad xs ds _ n rfl (hd.same s1) (sF.aI s1.aQ) Kt (by rw[List.length_map];exact bf) (λH2 s2=>?_)
  have G8:=s1.trans s2
  try walk_at "rt"
  have BN:=G8 _ _ hx
  refine⟨x,C,dx,[],rfl,BN,T.cP,T.Ko,by decide,?_⟩
  have ltx:∀{b:Addr} {ys:List V},LT H b ys->b≠x:=λh z=>by
   subst z
   rcases h with h | h <;> (rw[hx] at h;cases h)
  have nx:∀b o,b≠x->H b=some o->upd H2 x (.ins C dx (bo "own_modulus" (.int M) [])) b=some o:=λb o ne e=>by rw[ay ne];exact G8 _ _ e
  have nxL:∀{b:Addr} {ys:List V},LT H b ys->LT (upd H2 x (.ins C dx (bo "own_modulus" (.int M) []))) b ys:=λh=>by
   have pS:=ltx h
   exact h.elim (λz=>.inl (nx _ _ pS z)) (λz=>.inr (nx _ _ pS z))
  have hGx:upd H2 x (.ins C dx (bo "own_modulus" (.int M) [])) x=some (.ins C dx (bo "own_modulus" (.int M) [])):=af
  generalize Ku:upd H2 x (.ins C dx (bo "own_modulus" (.int M) []))=G2 at *
  try walk_at "rt"
  refine jA (nxL hn) λt1 H3 s3 sE=>?_
  try walk_at "rt"
  refine jA ((nxL OO).same s3) λt2 H4 s4 kr=>?_
  try walk_at "rt"
  refine⟨cM,λt3 uX=>?_⟩
  have s5:=av.new (.tup [.ref t1,.ref t2]) uX
  have Xq:=s3.trans (s4.trans s5)
  try walk_at "rt"
  refine pV x C dx _ rfl (Xq _ _ hGx) T.cP T.Nc (bX (n:=999) (by decide)) ?_
  have hH5:HT (upd H4 t3 (.tup [.ref t1,.ref t2])) 2 (.ref t3) (vo ns row):=dw af (nj (s5 _ _ (s4 _ _ sE))) (nj (s5 _ _ kr))
  have Xr:=Xq _ _ hGx
  have nG:∀b o,b≠x->H b=some o->upd H4 t3 (.tup [.ref t1,.ref t2]) b=some o:=λb o ne e=>Xq _ _ (nx b o ne e)
  generalize hG:upd H4 t3 (.tup [.ref t1,.ref t2])=G at *
  have tG:bQ H G:=λb ys e=>nG b _ (λz=>by subst z;rw[hx] at e;cases e) e
  have t6:bQ G (upd G x (.ins C dx (bo "own_state" (.ref t3) (bo "own_modulus" (.int M) [])))):=(bQ.refl G).upd λys e=>by rw[Xr] at e;cases e
  have e6:LT (upd G x (.ins C dx (bo "own_state" (.ref t3) (bo "own_modulus" (.int M) [])))) ad xs:=by
   have pS:=ltx hd
   exact hd.elim (λz=>.inl (by rw[ay pS];exact nG _ _ pS z)) (λz=>.inr (by rw[ay pS];exact nG _ _ pS z))
  have n6:∀b o,b≠x->H b=some o->upd G x (.ins C dx (bo "own_state" (.ref t3) (bo "own_modulus" (.int M) []))) b=some o:=λb o ne e=>by rw[ay ne];exact nG b o ne e
  have Xs:upd G x (.ins C dx (bo "own_state" (.ref t3) (bo "own_modulus" (.int M) []))) x=some (.ins C dx (bo "own_state" (.ref t3) (bo "own_modulus" (.int M) []))):=af
  generalize IQ:upd G x (.ins C dx (bo "own_state" (.ref t3) (bo "own_modulus" (.int M) [])))=G6 at *
  try walk_at "rt"
  refine jA e6 λt4 H7 s7 yE=>?_
  try walk_at "rt"
  refine pV x C dx _ rfl (s7 _ _ Xs) T.cP T.Kp (bX (n:=999) (bX (n:=998) (by decide))) ?_
  have ne4:t4≠x:=λz=>by subst z;rw[s7 _ _ Xs] at yE;cases yE
  have t8:bQ H7 (upd H7 x (.ins C dx (GZ M (.ref t3) (.ref t4)))):=(bQ.refl _).upd λys e=>by rw[s7 _ _ Xs] at e;cases e
  refine q _ ⟨dx,.ref t3,.ref t4,af,(hH5.aI t6).aI (s7.aQ.trans t8),?_⟩ λb o ne e=>?_
  ·refine HT.mono (n:=n + 1) ?_ (by omega)
   refine DL.ht (sF.aI (tG.trans (t6.trans (s7.aQ.trans t8)))) ?_
   rw[ay ne4]
   exact yE
  ·rw[ay ne]
   exact s7 _ _ (n6 b o ne e)
abbrev nv:Stmt:=(bW (top 36)).getD 1 (.Pass ⟨0,0,0,0⟩)
theorem yF:aD ["self"] ["self"] (az nv):=by walk_at "s"
abbrev eu:Stmt:=(bW (top 36)).getD 2 (.Pass ⟨0,0,0,0⟩)
def EM (C:Addr):Sp:=λvs H Q _=>∃(m:Addr) (M:Int) (ns row:List Int) (ds:List bH),vs=[.ref m]/\hV C H m M ns row ds/\∀st,HT H 2 st (vo ns row)->Q st H
theorem j7 (D:gD K C "first_state" "Machine.first_state" eu ["self"])(T:Tx K mg C CN CR F FD):cB P w K mg base C "first_state" 1 ["self"] (EM C):=by
 have sc:aD ["self"] ["self"] (az eu):=by walk_at "s"
 symm
 ·obtain⟨m,M,ns,row,ds,rfl,⟨dx,st,dd,h1,h2,h3⟩,q⟩:=h
  rfl
 ·nofun
  obtain⟨m,M,ns,row,ds,rfl,⟨dx,st,dd,h1,h2,h3⟩,q⟩:=h
  ac_rfl
  have hu:=hr.units
  refine⟨_,(ao (aE (bI (au 0) rfl))),?_⟩
  exact⟨m,C,dx,_,_,rfl,h1,T.cP,T.Nc,Xp,q _ h2⟩
theorem RA {H:Hp}{n:Nat}{x:V}{ds:List bH}(h:HT H (n + 1) x (.tup (ds.map bH.dv))):∃a xs,x=.ref a/\H a=some (.tup xs)/\DL H n xs ds:=by
 cases h with
 | @tup _ a xs _ e l i=>
  refine⟨a,xs,rfl,e,by simpa using l,λj x d hx hd=>i j x _ hx ?_⟩
  rw[List.getElem?_map,hd];rfl
def gh (H:Hp)(n:Nat)(ys:List V)(es:List DV):Prop:=ys.length=es.length/\∀(i:Nat) y e,ys[i]?=some y->es[i]?=some e->HT H n y e
theorem gh.nil{n:Nat}:gh H n [] []:=⟨rfl,λi y e h=>by simp at h⟩
theorem gh.aI{n:Nat}(h:gh H n ys es)(t:bQ H H'):gh H' n ys es:=⟨h.1,λi y e a b=>(h.2 i y e a b).aI t⟩
theorem gh.snoc{n:Nat}{y:V}{e:DV}(h:gh H n ys es)(g:HT H n y e):gh H n (ys++[y]) (es++[e]):=by
 refine⟨by simp[h.1],λi y' e' a b=>?_⟩
 by_cases hi:i < ys.length
 ·rw[List.getElem?_append_left hi] at a
  rw[List.getElem?_append_left (by rw[<-h.1];exact hi)] at b
  exact h.2 i _ _ a b
 ·rw[List.getElem?_append_right (by omega)] at a
  rw[List.getElem?_append_right (by rw[<-h.1];omega),<-h.1] at b
  cases hj:i - ys.length with
  | zero=>rw[hj] at a b;cases a;cases b;exact g
  | succ k=>rw[hj] at a;simp at a
theorem gh.dl{n:Nat}{xs:List V}{ds:List bH}(h:gh H n xs (ds.map bH.dv)):DL H n xs ds:=⟨by simpa using h.1,λi x d hx hd=>h.2 i x _ hx (by rw[List.getElem?_map,hd];rfl)⟩
abbrev q9:Stmt:=top 42
abbrev OP (C:Addr)(H:Hp)(m:Addr)(d:MD):Prop:=hV C H m d.M d.ns d.row d.ds
def ku (w:Int×Int×Str):DV:=.tup [.int w.1,.int w.2.1,.str w.2.2]
def mh (l:Int×Int):DV:=.tup [.int l.1,.int l.2]
def tU (m:Int)(w:Int×Int×Str):Prop:=0<=w.1/\w.1 < m/\0<=w.2.1/\w.2.1 < m/\(w.2.2="row"\/w.2.2="heap")
def tW (m:Int)(l:Int×Int):Prop:=0<=l.1/\l.1 < m/\1 - 1000000000000000000000000000000000000000000000000000000000000<=l.2/\l.2 < 1000000000000000000000000000000000000000000000000000000000000
def wt:Sp:=λvs H Q _=>∃(x:V) (n:Nat) (x1 x2:Int) (x3:Str) (m:Int),vs=[x,.int m]/\HT H n x (ku (x1,x2,x3))/\tU m (x1,x2,x3)/\∀H',av H H'->Q (.bl true) H'
theorem EN (D:dH K mg "is_way" "is_way" q9 ["thing","many"])(T:Tx K mg C CN CR F FD)(aJ:Def P w K mg base "is_within" 2 ["thing","low","beyond"] cD):Def P w K mg base "is_way" 3 ["thing","many"] wt:=by
 have sc:aD ["thing","many"] ["thing","many"] (az q9):=by walk_at "s"
 symm
 ·obtain⟨x,n,x1,x2,x3,m,rfl,hx,bf,q⟩:=h
  rfl
 ·nofun
  obtain⟨x,n,x1,x2,x3,m,rfl,hx,bf,q⟩:=h
  ac_rfl
  have hu:=hr.units
  refine⟨_,(aj (aS (PW.pt (pw_or (bT (bb (aT cw rfl T.aK nN (ai (au 0) (ai (bO (v:=.ty "tuple") rfl T.cu qe rfl) aa))))) (pw_or (aA (dG hu) (aT aM rfl T.cm PySem.boot_len (ai (au 0) aa)) ag (aC _)) (pw_or1 (bT (bb (aT cw rfl T.aK nN (ai (ak hu (au 0) ag) (ai (bO (v:=.ty "str") rfl T.Ae PyProof.Rows.boot_str rfl) aa))))))))) (ao (aE eV)) aG)
   (ao (aE (iS (aN aJ hr (ai (ak hu (au 0) ag) (ai ag (ai (au 1) aa)))) (iS (aN aJ hr (ai (ak hu (au 0) ag) (ai ag (ai (au 1) aa)))) (iR (gT DC (ak hu (au 0) ag) (bC (ai aB (ai aB aa))) (by with_unfolding_all rfl)))))))),?_⟩
  nofun
  obtain⟨a,u1,u2,u3,k,rfl,ha,h1,h2,h3⟩:=b4 hx
  obtain rfl:=h1.bS
  obtain rfl:=h2.bS
  obtain rfl:=h3.bM
  replace ha:H a=some (.tup [.int x1,.int x2,.str x3]):=ha
  obtain⟨o1,o2,o3,o4,o5⟩:0<=x1/\x1 < m/\0<=x2/\x2 < m/\(x3="row"\/x3="heap"):=bf
  ac_rfl
  right
  refine ck _ true (.tup ha) rfl ?_
  simp only[Bool.not_true,Bool.false_eq_true,if_false]
  refine bx _ (.inr ⟨_,bJ.of ha,rfl⟩) ?_
  rw[if_neg (by simp)]
  refine⟨_,_,.inr (bJ.of ha),ax (j:=2) rfl,_,true,.str _,rfl,?_⟩
  simp only[Bool.not_true,Bool.false_eq_true,if_false]
  right
  refine ck _ _ (.inr (bJ.of ha)) (ax (j:=0) rfl) ?_
  refine fK (.int x1) _ 0 m rfl (.int x1) ?_
  rw[show inR 0 m (.int x1)=true by simp[inR,o1,o2]]
  right
  rw[if_pos trivial]
  refine ck _ _ (.inr (bJ.of ha)) (ax (j:=1) rfl) ?_
  refine fK (.int x2) _ 0 m rfl (.int x2) ?_
  rw[show inR 0 m (.int x2)=true by simp[inR,o3,o4]]
  right
  rw[if_pos trivial]
  refine sy _ _ (.inr (bJ.of ha)) (ax (j:=2) rfl) cM (λp hp=>?_)
  refine Ep _ (.inr (bJ.of af)) rfl rfl ?_
  have e:zF (.str x3) [.str "row",.str "heap"]=true:=by
   rcases o5 with rfl | rfl <;> decide +kernel
  rw[e]
  exact q _ (av.new _ hp)
abbrev kx:Stmt:=top 43
def wu:Sp:=λvs H Q _=>∃(x:V) (n:Nat) (x1 x2:Int) (m:Int),vs=[x,.int m]/\HT H n x (mh (x1,x2))/\tW m (x1,x2)/\Q (.bl true) H
theorem wx (D:dH K mg "is_letter" "is_letter" kx ["thing","many"])(T:Tx K mg C CN CR F FD)(aJ:Def P w K mg base "is_within" 2 ["thing","low","beyond"] cD):Def P w K mg base "is_letter" 3 ["thing","many"] wu:=by
 have sc:aD ["thing","many"] ["thing","many"] (az kx):=by walk_at "s"
 symm
 ·obtain⟨x,n,x1,x2,m,rfl,hx,bf,q⟩:=h
  rfl
 ·nofun
  obtain⟨x,n,x1,x2,m,rfl,hx,bf,q⟩:=h
  ac_rfl
  have hu:=hr.units
  refine⟨_,(aj (aS (PW.pt (pw_or (bT (bb (aT cw rfl T.aK nN (ai (au 0) (ai (bO (v:=.ty "tuple") rfl T.cu qe rfl) aa))))) (pw_or1 (aA (dG hu) (aT aM rfl T.cm PySem.boot_len (ai (au 0) aa)) ag (aC _))))) (ao (aE eV)) aG)
   (ao (aE (iS (aN aJ hr (ai (ak hu (au 0) ag) (ai ag (ai (au 1) aa)))) (iR (aN aJ hr (ai (ak hu (au 0) ag) (ai (aY eX ag (fE T.dY rfl)) (ai (fE T.dY rfl) aa))))))))),?_⟩
  nofun
  obtain⟨a,u1,u2,k,rfl,ha,h1,h2⟩:=cy hx
  obtain rfl:=h1.bS
  obtain rfl:=h2.bS
  replace ha:H a=some (.tup [.int x1,.int x2]):=ha
  obtain⟨o1,o2,o3,o4⟩:0<=x1/\x1 < m/\1 - 1000000000000000000000000000000000000000000000000000000000000<=x2/\x2 < 1000000000000000000000000000000000000000000000000000000000000:=bf
  ac_rfl
  right
  refine ck _ true (.tup ha) rfl ?_
  simp only[Bool.not_true,Bool.false_eq_true,if_false]
  refine bx _ (.inr ⟨_,bJ.of ha,rfl⟩) ?_
  rw[if_neg (by simp)]
  right
  refine ck _ _ (.inr (bJ.of ha)) (ax (j:=0) rfl) ?_
  refine fK (.int x1) _ 0 m rfl (.int x1) ?_
  rw[show inR 0 m (.int x1)=true by simp[inR,o1,o2]]
  right
  rw[if_pos trivial]
  refine ck _ _ (.inr (bJ.of ha)) (ax (j:=1) rfl) ?_
  refine fK (.int x2) _ _ _ rfl (.int x2) ?_
  rw[show inR (1 - 1000000000000000000000000000000000000000000000000000000000000) 1000000000000000000000000000000000000000000000000000000000000 (.int x2)=true by simp only[inR,decide_eq_true o3,decide_eq_true o4,Bool.and_self]]
  exact q
abbrev jR:Stmt:=top 44
def An (C:Addr):Sp:=λvs H Q _=>∃(am aw al:Addr) (ms:List Addr) (wv lv:List V) (ws:List (Int×Int×Str)) (ls:List (Int×Int)),vs=[.ref am,.ref aw,.ref al]/\H am=some (.lst (ms.map V.ref))/\H aw=some (.lst wv)/\H al=some (.lst lv)/\1<=ms.length/\ms.length<=5/\wv.length<=10/\lv.length<=20/\(∀m ∈ ms,∃dx fs,H m=some (.ins C dx fs))/\gh H 1 wv (ws.map ku)/\gh H 1 lv (ls.map mh)/\(∀w ∈ ws,tU ms.length w)/\(∀l ∈ ls,tW wv.length l)/\∀H',av H H'->Q .bR H'
theorem uY (D:dH K mg "refuse_net" "refuse_net" jR ["machines","ways","letters"])(T:Tx K mg C CN CR F FD)(ky:Def P w K mg base "is_letter" 3 ["thing","many"] wu)(ft:Def P w K mg base "is_list" 1 ["things","least","most"] ma)(rg:Def P w K mg base "is_way" 3 ["thing","many"] wt):Def P w K mg base "refuse_net" 4 ["machines","ways","letters"] (An C):=by
 have sc:aD ["machines","ways","letters"] ["machines","ways","letters"] (az jR):=by walk_at "s"
 symm
 ·obtain⟨am,aw,al,ms,wv,lv,ws,ls,rfl,Ha,mi,Cn,IS,EO,sG,uZ,RB,oI,Nl,IT,tH,q⟩:=h
  rfl
 ·nofun
  obtain⟨am,aw,al,ms,wv,lv,ws,ls,rfl,Ha,mi,Cn,IS,EO,sG,uZ,RB,oI,Nl,IT,tH,q⟩:=h
  ac_rfl
  have hu:=hr.units
  refine⟨_,(aj (aS (PW.pt (pw_or (bT (bb (aN ft hr (ai (au 0) (ai ag (ai (fE T.dy rfl) aa)))))) (pw_or1 (bT (bb (aT (gY rfl) rfl T.qX Oy (ai (cW (N':=["one"]) (ix:=[none]) (bU (pv 0)) (λ_ _ _ _=>(aU (i:=0) (show(["one"]:List Str).Nodup by decide +kernel) rfl (by grind))) lC (λ_ _ _ _=>(aT (Em (K:=K) rfl) rfl T.aK nN (ai (au 0) (ai (zk (v:=.ref C) rfl T.tP rfl) aa))))) aa))))))) (ao dA) aG)
   (aj (aS (PW.pt (pw_or (bT (bb (aN ft hr (ai (au 1) (ai ag (ai (fE T.fq rfl) aa)))))) (pw_or1 (bT (bb (aT (gY rfl) rfl T.qX Oy (ai (cW (N':=["way","machines"]) (ix:=[none,some 0]) (bU (pv 1)) (λ_ _ _ _=>(aU (i:=0) (show(["way","machines"]:List Str).Nodup by decide +kernel) rfl (by grind))) lC (λ_ _ _ _=>(aN rg hr (ai (au 0) (ai (aT (qO (K:=K) rfl) rfl T.cm PySem.boot_len (ai (au 1) aa)) aa))))) aa))))))) (ao dA) aG)
   (ao (aS (PW.pt (pw_or (bT (bb (aN ft hr (ai (au 2) (ai ag (ai (fE T.dN rfl) aa)))))) (pw_or1 (bT (bb (aT (gY rfl) rfl T.qX Oy (ai (cW (N':=["letter","ways"]) (ix:=[none,some 1]) (bU (pv 2)) (λ_ _ _ _=>(aU (i:=0) (show(["letter","ways"]:List Str).Nodup by decide +kernel) rfl (by grind))) lC (λ_ _ _ _=>(aN ky hr (ai (au 0) (ai (aT (qO (K:=K) rfl) rfl T.cm PySem.boot_len (ai (au 1) aa)) aa))))) aa))))))) (ao dA) aG)))),?_⟩
  have lN:(ms.map V.ref).length<=5:=by simpa using EO
  right
  refine fK am _ 1 _ rfl (.inl Ha) (λH1 s1=>?_)
  rw[show(decide ((1:Int)<=((ms.map V.ref).length:Int)) && decide (((ms.map V.ref).length:Int)<=5))=true by simp;omega]
  right
  try simp only[Bool.not_true,Bool.false_eq_true,if_false]
  have IU:=s1 _ _ Ha
  refine bF ?_
  right
  refine .inl ⟨⟨_,aP.of IU⟩,λD hD=>?_⟩
  refine aZ (J:=qB K am) (n:=(ms.map V.ref).length) (λi zs H'=>zs=List.replicate i (V.bl true)/\av H1 H') (Nat.le_of_lt (aH (by omega))) ⟨rfl,av.new _ hD⟩ ?_ ?_ ?_ ?_
  ·rintro i zs H' iH ⟨_,s2⟩
   exact⟨_,(ms.map V.ref)[i],aP.of (s2 _ _ IU),cA iH⟩
  ·rintro zs H' ⟨_,s2⟩
   exact⟨_,aP.of (s2 _ _ IU),Nat.le_refl _⟩
  ·intro i zs H' iH gj gV iV x Vc iW
   nofun
   obtain⟨rfl,s2⟩:=iV
   obtain⟨rfl,hy⟩:=iW
   ac_rfl
   have ex:=hy _ (aP.of (s2 _ _ IU))
   walk_at "xf"
   right
   rw[if_pos trivial]
   have hxm:∃m,x=.ref m/\m ∈ ms:=by
    have:=List.mem_of_getElem? ex
    nofun
    obtain⟨m,hm,rfl⟩:=List.mem_map.mp this
    ac_rfl
    exact⟨m,rfl,hm⟩
   nofun
   obtain⟨m,rfl,hmm⟩:=hxm
   obtain⟨dx,fs,RC⟩:=RB m hmm
   ac_rfl
   refine Xl _ C _ true rfl (.ins (s2 _ _ (s1 _ _ RC)) T.cP T.BD T.BF T.tQ T.BE) T.i_k ?_
   have s9:=av.refl Vc
   refine bP (s9 _ _ gj) gV iH (Nat.le_of_lt (aH (by omega))) ⟨eN _ _,λb o e=>?_⟩
   rw[ay (aq e hD)]
   exact s9 _ _ (s2 _ _ e)
  rintro zs H2 gj gV ⟨rfl,s2⟩
  right
  rw[lW] at gj
  refine bx _ (aP.of gj) ?_
  have e:(List.replicate (ms.map V.ref).length true).all id=true:=by simp
  rw[e]
  clear e gj gV
  right
  try simp only[Bool.not_true,Bool.false_eq_true,if_false]
  have G8:=s1.trans s2
  have RD:=G8 _ _ mi
  right
  refine fK aw _ 0 _ rfl (.inl RD) (λH3 s3=>?_)
  rw[show(decide ((0:Int)<=(wv.length:Int)) && decide ((wv.length:Int)<=10))=true by simp;omega]
  right
  try simp only[Bool.not_true,Bool.false_eq_true,if_false]
  have BO:=s3 _ _ RD
  have Xt:=G8.trans s3
  refine bF ?_
  right
  refine .inl ⟨⟨_,aP.of BO⟩,λD hD=>?_⟩
  refine aZ (J:=qB K aw) (n:=wv.length) (λi zs H'=>zs=List.replicate i (V.bl true)/\av H3 H') (Nat.le_of_lt (aH (by omega))) ⟨rfl,av.new _ hD⟩ ?_ ?_ ?_ ?_
  ·rintro i zs H' iH ⟨_,s4⟩
   exact⟨_,wv[i],aP.of (s4 _ _ BO),cA iH⟩
  ·rintro zs H' ⟨_,s4⟩
   exact⟨_,aP.of (s4 _ _ BO),Nat.le_refl _⟩
  ·intro i zs H' iH gj gV mf x Vc oB
   nofun
   obtain⟨rfl,s4⟩:=mf
   obtain⟨rfl,hy⟩:=oB
   ac_rfl
   have ex:=hy _ (aP.of (s4 _ _ BO))
   walk_at "xf"
   right
   rw[if_pos trivial]
   have Co:i < ws.length:=by have:=oI.1;rw[List.length_map] at this;omega
   have hw:=(oI.2 i x (ku ws[i]) ex (by rw[List.getElem?_map,cA Co];rfl)).aI (Xt.trans s4).aQ
   refine bx _ (.inl ⟨_,aP.of (s4 _ _ (Xt _ _ Ha)),rfl⟩) ?_
   refine⟨x,1,ws[i].1,ws[i].2.1,ws[i].2.2,_,rfl,hw,?_,λH9 s9=>?_⟩
   ·have:=IT ws[i] (List.getElem_mem Co)
    simpa[tU] using this
   refine bP (s9 _ _ gj) gV iH (Nat.le_of_lt (aH (by omega))) ⟨eN _ _,λb o e=>?_⟩
   rw[ay (aq e hD)]
   exact s9 _ _ (s4 _ _ e)
  rintro zs H4 gj gV ⟨rfl,s4⟩
  right
  rw[lW] at gj
  refine bx _ (aP.of gj) ?_
  have e:(List.replicate wv.length true).all id=true:=by simp
  rw[e]
  clear e gj gV
  right
  try simp only[Bool.not_true,Bool.false_eq_true,if_false]
  have s04:=Xt.trans s4
  have RE:=s04 _ _ Cn
  right
  refine fK al _ 0 _ rfl (.inl RE) (λH5 s5=>?_)
  rw[show(decide ((0:Int)<=(lv.length:Int)) && decide ((lv.length:Int)<=20))=true by simp;omega]
  right
  try simp only[Bool.not_true,Bool.false_eq_true,if_false]
  have BP:=s5 _ _ RE
  have Xu:=s04.trans s5
  refine bF ?_
  right
  refine .inl ⟨⟨_,aP.of BP⟩,λD hD=>?_⟩
  refine aZ (J:=qB K al) (n:=lv.length) (λi zs H'=>zs=List.replicate i (V.bl true)/\av H5 H') (Nat.le_of_lt (aH (by omega))) ⟨rfl,av.new _ hD⟩ ?_ ?_ ?_ ?_
  ·rintro i zs H' iH ⟨_,s6⟩
   exact⟨_,lv[i],aP.of (s6 _ _ BP),cA iH⟩
  ·rintro zs H' ⟨_,s6⟩
   exact⟨_,aP.of (s6 _ _ BP),Nat.le_refl _⟩
  ·intro i zs H' iH gj gV pW x Vc uW
   nofun
   obtain⟨rfl,s6⟩:=pW
   obtain⟨rfl,hy⟩:=uW
   ac_rfl
   have ex:=hy _ (aP.of (s6 _ _ BP))
   walk_at "xf"
   right
   rw[if_pos trivial]
   have sI:i < ls.length:=by have:=Nl.1;rw[List.length_map] at this;omega
   have hw:=(Nl.2 i x (mh ls[i]) ex (by rw[List.getElem?_map,cA sI];rfl)).aI (Xu.trans s6).aQ
   refine bx _ (.inl ⟨_,aP.of (s6 _ _ (Xu _ _ mi)),rfl⟩) ?_
   refine⟨x,1,ls[i].1,ls[i].2,_,rfl,hw,?_,?_⟩
   ·have:=tH ls[i] (List.getElem_mem sI)
    simpa[tW] using this
   have s9:=av.refl Vc
   refine bP (s9 _ _ gj) gV iH (Nat.le_of_lt (aH (by omega))) ⟨eN _ _,λb o e=>?_⟩
   rw[ay (aq e hD)]
   exact s9 _ _ (s6 _ _ e)
  rintro zs H6 gj gV ⟨rfl,s6⟩
  right
  rw[lW] at gj
  refine bx _ (aP.of gj) ?_
  have e:(List.replicate lv.length true).all id=true:=by simp
  rw[e]
  clear e gj gV
  right
  try simp only[Bool.not_true,Bool.false_eq_true,if_false]
  exact q _ (Xu.trans s6)
abbrev kB:Stmt:=top 50
def wz:Sp:=λvs H Q _=>∃p m,vs=[.ref p,.int m]/\eE H p/\0 < m/\m<=4/\∀x v H',Step p H H'->HT H' 1 x (Val.dv v)->v.ok m->Q x H'
theorem wA (D:dH K mg "_law_value" "_law_value" kB ["_law_pot_here","_law_many"])(T:Tx K mg C CN CR F FD)(aL:Def P w K mg base "_law_digit" 1 ["_law_pot_here","_law_many"] jz):Def P w K mg base "_law_value" 2 ["_law_pot_here","_law_many"] wz:=by
 have sc:aD ["_law_pot_here","_law_many","_law_kind"] ["_law_pot_here","_law_many"] (az kB):=by walk_at "s"
 symm
 ·obtain⟨p,m,rfl,hp,h0,h4,q⟩:=h
  rfl
 ·nofun
  obtain⟨p,m,rfl,hp,h0,h4,q⟩:=h
  ac_rfl
  have hu:=hr.units
  refine⟨_,(aj (ba (i:=2) sc.nd rfl (by grind) (aN aL hr (ai (au 0) (ai ag aa))))
   (aj (aS (aA gJ (au 2) ag (aC _)) (ao (aE (bC (ai aB (ai (ak hu (bN (ai (aY eX (aN aL hr (ai (au 0) (ai ag aa))) ag) (ai (aY eX (aN aL hr (ai (au 0) (ai (aY eX (aY ly ag (aY qj ag ag)) ag) aa))) (aY eX (aY qj ag ag) ag)) aa))) (au 2)) aa))))) aG)
   (aj (aS (aA gJ (au 2) ag (aC _)) (ao (aE (bC (ai aB (ai (aN aL hr (ai (au 0) (ai (au 1) aa))) aa))))) aG)
   (ao (aE (ak hu (bN (ai (bC (ai aB aa)) (ai (bC (ai aB aa)) (ai (bC (ai aB aa)) (ai (bC (ai aB aa)) aa))))) (aY eX (au 2) ag))))))),?_⟩
  right
  refine lZ p 8 rfl hp (by decide +kernel) (by decide +kernel) (λd H1 h1 h2 st=>?_)
  right
  split
  ·rename_i hd
   have hd:d < 2:=by simpa using hd
   refine lZ p 9 rfl st.fR (by decide +kernel) (by decide +kernel) (λd1 H2 h3 h4 zp=>?_)
   right
   refine⟨yA,Nf,dig zp.fR Rv Rw λd2 H3 h5 h6 nO=>?_⟩
   right
   refine gK yA (by decide) (λl hl=>?_)
   have qg:d=0\/d=1:=by omega
   rcases qg with rfl | rfl
   ·exact⟨_,_,.inl (aP.of af),rfl,by decide,λt ht=>q _ (.is _) _ ((((st.trans zp).trans nO).new hl).new ht) (dw af (.str _) (.int _)) trivial⟩
   ·exact⟨_,_,.inl (aP.of af),rfl,by decide,λt ht=>q _ (.is _) _ ((((st.trans zp).trans nO).new hl).new ht) (dw af (.str _) (.int _)) trivial⟩
  ·rename_i hd
   have hd:¬d < 2:=by simpa using hd
   split
   ·refine⟨p,m,rfl,st.fR,h0,?_,λd1 H2 h3 Xv zp=>?_⟩
    ·have:m=1\/m=2\/m=3\/m=4:=by omega
     rcases this with rfl | rfl | rfl | rfl <;> decide +kernel
    right
    exact⟨by decide,λt ht=>q _ (.number _) _ ((st.trans zp).new ht) (dw af (.str _) (.int _)) ⟨h3,Xv⟩⟩
   ·rename_i hd2
    have hd2:¬d < 4:=by simpa using hd2
    refine⟨by decide,λt1 sE=>⟨by decide,λt2 kr=>⟨by decide,λt3 uX=>⟨by decide,λt4 yE=>⟨by decide,λl hl=>?_⟩⟩⟩⟩⟩
    have lI:=((((st.new sE (o:=.tup [.str "letter"])).new kr (o:=.tup [.str "letter"])).new uX (o:=.tup [.str "way"])).new yE (o:=.tup [.str "first"])).new hl (o:=.lst [.ref t1,.ref t2,.ref t3,.ref t4])
    have qg:d=4\/d=5\/d=6\/d=7:=by omega
    have g1:=(av.new (H:=upd H1 t1 (.tup [.str "letter"])) (.tup [.str "letter"]) kr) t1 _ af
    have g2:=(av.new (.tup [.str "way"]) uX) _ _ g1
    have g3:=(av.new (.tup [.str "first"]) yE) _ _ g2
    have g4:=(av.new (.lst [.ref t1,.ref t2,.ref t3,.ref t4]) hl) _ _ g3
    have k2:=(av.new (H:=upd (upd H1 t1 (.tup [.str "letter"])) t2 (.tup [.str "letter"])) (.tup [.str "way"]) uX) t2 _ af
    have k3:=(av.new (.tup [.str "first"]) yE) _ _ k2
    have k4:=(av.new (.lst [.ref t1,.ref t2,.ref t3,.ref t4]) hl) _ _ k3
    have l3:=(av.new (H:=upd (upd (upd H1 t1 (.tup [.str "letter"])) t2 (.tup [.str "letter"])) t3 (.tup [.str "way"])) (.tup [.str "first"]) yE) t3 _ af
    have l4:=(av.new (.lst [.ref t1,.ref t2,.ref t3,.ref t4]) hl) _ _ l3
    have m4:=(av.new (H:=upd (upd (upd (upd H1 t1 (.tup [.str "letter"])) t2 (.tup [.str "letter"])) t3 (.tup [.str "way"])) t4 (.tup [.str "first"])) (.lst [.ref t1,.ref t2,.ref t3,.ref t4]) hl) t4 _ af
    rcases qg with rfl | rfl | rfl | rfl
    ·exact⟨_,_,.inl (aP.of af),rfl,q _ .lX _ lI (qT g4 (.str _)) trivial⟩
    ·exact⟨_,_,.inl (aP.of af),rfl,q _ .lX _ lI (qT k4 (.str _)) trivial⟩
    ·exact⟨_,_,.inl (aP.of af),rfl,q _ .way _ lI (qT l4 (.str _)) trivial⟩
    ·exact⟨_,_,.inl (aP.of af),rfl,q _ .first _ lI (qT m4 (.str _)) trivial⟩
theorem Xw {d:Int}(h0:0<=d)(h:d < 10):d=0\/d=1\/d=2\/d=3\/d=4\/d=5\/d=6\/d=7\/d=8\/d=9:=by
 have:∀n:Fin 10,((n.1:Nat):Int)=0\/((n.1:Nat):Int)=1\/((n.1:Nat):Int)=2\/((n.1:Nat):Int)=3\/((n.1:Nat):Int)=4\/((n.1:Nat):Int)=5\/((n.1:Nat):Int)=6\/((n.1:Nat):Int)=7\/((n.1:Nat):Int)=8\/((n.1:Nat):Int)=9:=by decide
 rw[<-Int.toNat_of_nonneg h0]
 exact this ⟨d.toNat,by omega⟩
abbrev mj:Stmt:=top 51
theorem Nm {H:Hp}{n:Nat}{a:Addr}{u v w z:V}{d d' By d3:DV}(e:H a=some (.tup [u,v,w,z]))(h:HT H n u d)(h':HT H n v d')(W8:HT H n w By)(h3:HT H n z d3):HT H (n + 1) (.ref a) (.tup [d,d',By,d3]):=by
 refine .tup e rfl λi x y hx hy=>?_
 match i,hx,hy with
 | 0,hx,hy=>simp at hx hy;subst hx hy;exact h
 | 1,hx,hy=>simp at hx hy;subst hx hy;exact h'
 | 2,hx,hy=>simp at hx hy;subst hx hy;exact W8
 | 3,hx,hy=>simp at hx hy;subst hx hy;exact h3
def wB:Sp:=λvs H Q _=>∃p m,vs=[.ref p,.int m]/\eE H p/\0 < m/\m<=4/\∀x d H',Step p H H'->HT H' 2 x (bH.dv d)->d.ok m->Q x H'
theorem yG (D:dH K mg "_law_deed" "_law_deed" mj ["_law_pot_here","_law_many"])(T:Tx K mg C CN CR F FD)(aL:Def P w K mg base "_law_digit" 1 ["_law_pot_here","_law_many"] jz)(dR:Def P w K mg base "_law_value" 2 ["_law_pot_here","_law_many"] wz):Def P w K mg base "_law_deed" 3 ["_law_pot_here","_law_many"] wB:=by
 have sc:aD ["_law_pot_here","_law_many","_law_kind","_law_out"] ["_law_pot_here","_law_many"] (az mj):=by walk_at "s"
 symm
 ·obtain⟨p,m,rfl,hp,h0,h4,q⟩:=h
  rfl
 ·nofun
  obtain⟨p,m,rfl,hp,h0,h4,q⟩:=h
  ac_rfl
  have hu:=hr.units
  refine⟨_,(aj (ba (i:=2) sc.nd rfl (by grind) (aN aL hr (ai (au 0) (ai ag aa))))
   (aj (aS (aA gJ (au 2) ag (aC _)) (ao (aE (bC (ai (ak hu (bN (ai aB (ai aB (ai aB aa)))) (au 2)) (ai (aN aL hr (ai (au 0) (ai (au 1) aa))) (ai (aN dR hr (ai (au 0) (ai (au 1) aa))) aa)))))) aG)
   (aj (aS (aA gJ (au 2) ag (aC _)) (aj (ba (i:=3) sc.nd rfl (by grind) (aN aL hr (ai (au 0) (ai ag aa))))
   (ao (aE (bC (ai aB (ai (ak hu (bN (ai (aY dj (au 3) ag) (ai (aY eX (au 3) ag) aa))) (dB nZ rfl T.wc Uy (ai (gT lV (au 3) ag (aC _)) aa))) (ai (aN dR hr (ai (au 0) (ai (au 1) aa))) aa))))))) aG)
   (aj (aS (aA (aV hu) (au 2) ag (aC _)) (ao (aE (bC (ai aB (ai (aN dR hr (ai (au 0) (ai (au 1) aa))) aa))))) aG)
   (aj (aS (aA (aV hu) (au 2) ag (aC _)) (ao (aE (bC (ai aB (ai (aN dR hr (ai (au 0) (ai (au 1) aa))) aa))))) aG)
   (aj (aS (aA (aV hu) (au 2) ag (aC _)) (ao (aE (bC (ai aB aa)))) aG)
   (ao (aE (bC (ai aB (ai (aN dR hr (ai (au 0) (ai (au 1) aa))) (ai (aN dR hr (ai (au 0) (ai (au 1) aa))) (ai (aY da ag (aN aL hr (ai (au 0) (ai ag aa)))) aa))))))))))))),?_⟩
  right
  refine lZ p 10 rfl hp (by decide +kernel) (by decide +kernel) (λd H1 h1 h2 st=>?_)
  have lN:m.natAbs.log2 < 9000:=by
   have:m=1\/m=2\/m=3\/m=4:=by omega
   rcases this with rfl | rfl | rfl | rfl <;> decide +kernel
  have qg:d=0\/d=1\/d=2\/d=3\/d=4\/d=5\/d=6\/d=7\/d=8\/d=9:=Xw (by assumption) (by assumption)
  rcases qg with rfl | rfl | rfl | rfl | rfl | rfl | rfl | rfl | rfl | rfl
  ·walk_at "go"
   refine⟨by decide,λl hl=>?_⟩
   have nO:=st.new (o:=.lst [.str "set",.str "add",.str "times"]) hl
   refine bu af rfl ?_
   refine dig nO.fR h0 lN λe H4 IV IW qm=>?_
   have ny:=nO.trans qm
   walk_at "go"
   refine lZ p m rfl ny.fR h0 h4 (λvx v H5 lI hv iY=>?_)
   walk_at "go"
   exact⟨by decide,λt ht=>q _ (.set e v) _ ((ny.trans lI).new ht) (lY af (.str _) (.int _) (hv.aI (av.new _ ht).aQ)) ⟨IV,IW,iY⟩⟩
  ·walk_at "go"
   refine⟨by decide,λl hl=>?_⟩
   have nO:=st.new (o:=.lst [.str "set",.str "add",.str "times"]) hl
   refine bu af rfl ?_
   refine dig nO.fR h0 lN λe H4 IV IW qm=>?_
   have ny:=nO.trans qm
   walk_at "go"
   refine lZ p m rfl ny.fR h0 h4 (λvx v H5 lI hv iY=>?_)
   walk_at "go"
   exact⟨by decide,λt ht=>q _ (.add e v) _ ((ny.trans lI).new ht) (lY af (.str _) (.int _) (hv.aI (av.new _ ht).aQ)) ⟨IV,IW,iY⟩⟩
  ·walk_at "go"
   refine⟨by decide,λl hl=>?_⟩
   have nO:=st.new (o:=.lst [.str "set",.str "add",.str "times"]) hl
   refine bu af rfl ?_
   refine dig nO.fR h0 lN λe H4 IV IW qm=>?_
   have ny:=nO.trans qm
   walk_at "go"
   refine lZ p m rfl ny.fR h0 h4 (λvx v H5 lI hv iY=>?_)
   walk_at "go"
   exact⟨by decide,λt ht=>q _ (.times e v) _ ((ny.trans lI).new ht) (lY af (.str _) (.int _) (hv.aI (av.new _ ht).aQ)) ⟨IV,IW,iY⟩⟩
  ·walk_at "go"
   refine dig st.fR (by decide) (by decide +kernel) λe0 H4 IV IW qm=>?_
   have ny:=st.trans qm
   right
   refine⟨by decide,by decide,λl hl=>.inr ?_⟩
   have wC:=ny.new (o:=.lst [.int (e0 % 3),.int (e0 - 6)]) hl
   have hz:∃z:Int,gB [V.int (e0 % 3),V.int (e0 - 6)] (if decide (8 < e0)=true then 1 else 0)=some (.int z)/\0<=z:=by
    by_cases h:8 < e0
    ·rw[if_pos (by simpa using h)]
     exact⟨_,ax (j:=1) rfl,by omega⟩
    ·rw[if_neg (by simpa using h)]
     exact⟨_,ax (j:=0) rfl,by omega⟩
   obtain⟨z,ez,Np⟩:=hz
   refine bu af ez ?_
   refine lZ p m rfl wC.fR h0 h4 (λvx v H5 lI hv iY=>?_)
   right
   exact⟨by decide,λt ht=>q _ (.send z v) _ ((wC.trans lI).new ht) (lY af (.str _) (.int _) (hv.aI (av.new _ ht).aQ)) ⟨Np,iY⟩⟩
  ·walk_at "go"
   refine dig st.fR (by decide) (by decide +kernel) λe0 H4 IV IW qm=>?_
   have ny:=st.trans qm
   right
   refine⟨by decide,by decide,λl hl=>.inr ?_⟩
   have wC:=ny.new (o:=.lst [.int (e0 % 3),.int (e0 - 6)]) hl
   have hz:∃z:Int,gB [V.int (e0 % 3),V.int (e0 - 6)] (if decide (8 < e0)=true then 1 else 0)=some (.int z)/\0<=z:=by
    by_cases h:8 < e0
    ·rw[if_pos (by simpa using h)]
     exact⟨_,ax (j:=1) rfl,by omega⟩
    ·rw[if_neg (by simpa using h)]
     exact⟨_,ax (j:=0) rfl,by omega⟩
   obtain⟨z,ez,Np⟩:=hz
   refine bu af ez ?_
   refine lZ p m rfl wC.fR h0 h4 (λvx v H5 lI hv iY=>?_)
   right
   exact⟨by decide,λt ht=>q _ (.send z v) _ ((wC.trans lI).new ht) (lY af (.str _) (.int _) (hv.aI (av.new _ ht).aQ)) ⟨Np,iY⟩⟩
  ·walk_at "go"
   refine dig st.fR (by decide) (by decide +kernel) λe0 H4 IV IW qm=>?_
   have ny:=st.trans qm
   right
   refine⟨by decide,by decide,λl hl=>.inr ?_⟩
   have wC:=ny.new (o:=.lst [.int (e0 % 3),.int (e0 - 6)]) hl
   have hz:∃z:Int,gB [V.int (e0 % 3),V.int (e0 - 6)] (if decide (8 < e0)=true then 1 else 0)=some (.int z)/\0<=z:=by
    by_cases h:8 < e0
    ·rw[if_pos (by simpa using h)]
     exact⟨_,ax (j:=1) rfl,by omega⟩
    ·rw[if_neg (by simpa using h)]
     exact⟨_,ax (j:=0) rfl,by omega⟩
   obtain⟨z,ez,Np⟩:=hz
   refine bu af ez ?_
   refine lZ p m rfl wC.fR h0 h4 (λvx v H5 lI hv iY=>?_)
   right
   exact⟨by decide,λt ht=>q _ (.send z v) _ ((wC.trans lI).new ht) (lY af (.str _) (.int _) (hv.aI (av.new _ ht).aQ)) ⟨Np,iY⟩⟩
  ·walk_at "go"
   refine lZ p m rfl st.fR h0 h4 (λvx v H5 lI hv iY=>?_)
   walk_at "go"
   exact⟨by decide,λt ht=>q _ (.say v) _ ((st.trans lI).new ht) (dw af (.str _) (hv.aI (av.new _ ht).aQ)) iY⟩
  ·walk_at "go"
   refine lZ p m rfl st.fR h0 h4 (λvx v H5 lI hv iY=>?_)
   walk_at "go"
   exact⟨by decide,λt ht=>q _ (.put v) _ ((st.trans lI).new ht) (dw af (.str _) (hv.aI (av.new _ ht).aQ)) iY⟩
  ·walk_at "go"
   exact⟨by decide,λt ht=>q _ .drop _ (st.new ht) (qT (n:=1) af (.str _)) trivial⟩
  ·walk_at "go"
   refine lZ p m rfl st.fR h0 h4 (λvx v H5 lI hv iY=>?_)
   walk_at "go"
   have BQ:=st.trans lI
   refine lZ p m rfl BQ.fR h0 h4 (λvy v2 H6 Kv hv2 RF=>?_)
   have ER:=BQ.trans Kv
   walk_at "go"
   refine dig ER.fR (by decide) (by decide +kernel) λe H7 IV IW Nq=>?_
   walk_at "go"
   refine⟨by decide,λt ht=>q _ (.skip v v2 (1 + e)) _ ((ER.trans Nq).new ht) ?_ ⟨iY,RF,by omega,by omega⟩⟩
   have tt:=(Nq.aQ ER.fR).trans (av.new (.tup [.str "skip",vx,vy,.int (1 + e)]) ht).aQ
   exact Nm af (.str _) (hv.aI ((Kv.aQ BQ.fR).trans tt)) (hv2.aI tt) (.int _)
abbrev iZ:Stmt:=top 52
theorem Step.free{p b:Addr}{H H':Hp}(st:Step p H H')(h:H' b=none):H b=none:=by
 cases e:H b with
 | none=>rfl
 | some o=>
  by_cases hb:b=p
  ·subst hb
   obtain⟨x,e2,_⟩:=st.fR
   rw[h] at e2;cases e2
  ·rw[st.rest b o e hb] at h;cases h
theorem wD {m:Int}(h0:0 < m)(h:m<=1000000000000):m.natAbs.log2 < 9000:=(Nat.log2_lt (by omega)).mpr (Nat.lt_of_le_of_lt (show m.natAbs<=1000000000000 by omega) (by decide +kernel))
def mods (d:Int):List V:=[.int 2,.int 3,.int 7,.int 10,.int 97,.int (2 + d)]
theorem IX {d k:Int}(h0:0<=d)(h1:d < 10 ^ Int.toNat 12 - 1)(k0:0<=k)(k1:k < 6):∃z:Int,gB (mods d) k=some (.int z)/\2<=z/\z<=1000000000000:=by
 have e:(10:Int) ^ Int.toNat 12=1000000000000:=by decide +kernel
 rw[e] at h1
 have:k=0\/k=1\/k=2\/k=3\/k=4\/k=5:=by omega
 rcases this with rfl | rfl | rfl | rfl | rfl | rfl
 ·exact⟨_,ax (j:=0) rfl,by decide,by decide⟩
 ·exact⟨_,ax (j:=1) rfl,by decide,by decide⟩
 ·exact⟨_,ax (j:=2) rfl,by decide,by decide⟩
 ·exact⟨_,ax (j:=3) rfl,by decide,by decide⟩
 ·exact⟨_,ax (j:=4) rfl,by decide,by decide⟩
 ·exact⟨_,ax (j:=5) rfl,by omega,by omega⟩
def wF:Sp:=λvs H Q _=>∃(p:Addr) (gr:Int),vs=[.ref p,.int gr]/\eE H p/\0<=gr/\gr<=1/\∀t ln lr ld xs M ns row ds H',Step p H H'->H' t=some (.tup [.int M,.ref ln,.ref lr,.ref ld])->H' ln=some (.lst (ns.map V.int))->H' lr=some (.lst (row.map V.int))->H' ld=some (.lst xs)->gh H' 2 xs (ds.map bH.dv)->H ln=none->H lr=none->H ld=none->Good M ns row ds->Q (.ref t) H'
theorem sJ (D:dH K mg "_law_machine" "_law_machine" iZ ["_law_pot_here","_law_great"])(T:Tx K mg C CN CR F FD)(ml:Def P w K mg base "_law_deed" 3 ["_law_pot_here","_law_many"] wB)(aL:Def P w K mg base "_law_digit" 1 ["_law_pot_here","_law_many"] jz):Def P w K mg base "_law_machine" 4 ["_law_pot_here","_law_great"] wF:=by
 have sc:aD ["_law_pot_here","_law_great","_law_modulus","_law_many","_law_numbers","_law_row","_law_deeds"] ["_law_pot_here","_law_great"] (az iZ):=by walk_at "s"
 symm
 ·obtain⟨p,gr,rfl,hp,Xx,Xy,q⟩:=h
  rfl
 ·nofun
  obtain⟨p,gr,rfl,hp,Xx,Xy,q⟩:=h
  ac_rfl
  have hu:=hr.units
  refine⟨_,(aj (ba (i:=2) sc.nd rfl (by grind) (ak hu (bN (ai ag (ai ag (ai ag (ai ag (ai ag (ai (aY da ag (aN aL hr (ai (au 0) (ai (aY eX (aY qj ag ag) ag) aa)))) aa))))))) (aN aL hr (ai (au 0) (ai ag aa)))))
   (aj (ba (i:=3) sc.nd rfl (by grind) (aY da ag (aN aL hr (ai (au 0) (ai ag aa)))))
   (aj (fC (i:=4) sc.nd rfl (by grind) (N':=["_law_k","_law_pot_here","_law_modulus"]) (ix:=[none,some 0,some 2]) (cY rfl T.eF (ai (au 3) aa)) (λ_ _ _ _=>(aU (i:=0) (show(["_law_k","_law_pot_here","_law_modulus"]:List Str).Nodup by decide +kernel) rfl (by grind))) lC (λ_ _ _ _=>(aN aL hr (ai (au 1) (ai (au 2) aa)))))
   (aj (fC (i:=5) sc.nd rfl (by grind) (N':=["_law_k","_law_pot_here","_law_modulus"]) (ix:=[none,some 0,some 2]) (cY rfl T.eF (ai (aN aL hr (ai (au 0) (ai ag aa))) aa)) (λ_ _ _ _=>(aU (i:=0) (show(["_law_k","_law_pot_here","_law_modulus"]:List Str).Nodup by decide +kernel) rfl (by grind))) lC (λ_ _ _ _=>(aN aL hr (ai (au 1) (ai (au 2) aa)))))
   (aj (fC (i:=6) sc.nd rfl (by grind) (N':=["_law_k","_law_pot_here","_law_many"]) (ix:=[none,some 0,some 3]) (cY rfl T.eF (ai (aN aL hr (ai (au 0) (ai (ak hu (bN (ai ag (ai ag aa))) (au 1)) aa))) aa)) (λ_ _ _ _=>(aU (i:=0) (show(["_law_k","_law_pot_here","_law_many"]:List Str).Nodup by decide +kernel) rfl (by grind))) lC (λ_ _ _ _=>(aN ml hr (ai (au 1) (ai (au 2) aa)))))
   (ao (aE (bC (ai (au 2) (ai (au 4) (ai (au 5) (ai (au 6) aa)))))))))))),?_⟩
  right
  refine⟨Nd,?_⟩
  refine dig hp Rx Ni λd0 H1 IY Nr Ru=>?_
  right
  refine⟨by decide,λl hl=>?_⟩
  have zp:=Ru.new (o:=.lst (mods d0)) hl
  have OQ:l≠p:=Step.ne Ru.fR hl
  refine dig zp.fR (by decide) (by decide +kernel) λk H3 Xz Vd nO=>?_
  have RG:=zp.trans nO
  obtain⟨M,eM,BL,oF⟩:=IX IY Nr Xz Vd
  right
  refine bu (nO.rest _ _ af OQ) eM ?_
  right
  refine dig RG.fR (by decide) (by decide +kernel) λm H4 RC IS qm=>?_
  have IZ:=RG.trans qm
  right
  refine bF ?_
  right
  refine gK (by omega) (by omega) (λD hD=>?_)
  have OS:D≠p:=Step.ne IZ.fR hD
  refine aZ (J:=xP 0 (1 + m).toNat) (n:=(1 + m).toNat) (λi ys H'=>∃ns:List Int,ys=ns.map V.int/\ns.length=i/\Step p H4 H'/\(∀z ∈ ns,0<=z/\z < M)) (Nat.le_of_lt (aH (by omega))) ⟨[],rfl,rfl,(Step.refl IZ.fR).new hD,λz hz=>by simp at hz⟩ (λi ys H' hi _=>hi) (λys H' _=>Nat.le_refl _) ?_ ?_
  ·intro i ys H' hi bE hl iV x H2 iW
   nofun
   obtain⟨ns,rfl,hn,st,hb⟩:=iV
   obtain⟨rfl,rfl⟩:=iW
   ac_rfl
   walk_at "xf"
   right
   rw[if_pos trivial]
   refine dig st.fR (by omega) (wD (by omega) oF) λd H3 h3 h4 nO=>?_
   refine bP (nO.rest _ _ bE OS) hl hi (Nat.le_of_lt (aH (by omega))) ⟨ns++[d],by simp,by simp[hn],?_,λz hz=>?_⟩
   ·exact⟨nO.fR.upd (Ne.symm OS),λb o e ne=>by rw[ay (aq e hD)];exact nO.rest _ _ (st.rest _ _ e ne) ne⟩
   ·rcases List.mem_append.mp hz with z1 | z1
    ·exact hb z z1
    ·simp at z1;subst z1;exact⟨h3,h4⟩
  intro ys H5 en RH mf
  nofun
  obtain⟨ns,rfl,hn,lI,pX⟩:=mf
  ac_rfl
  have fD:H D=none:=IZ.free hD
  have RI:=IZ.trans lI
  refine bF ?_
  right
  refine dig RI.fR (by decide) (by decide +kernel) λm6 H6 h60 h61 Kv=>?_
  have Ja:=RI.trans Kv
  have en6:=Kv.rest _ _ en OS
  right
  refine gK (by omega) (by omega) (λD2 Ao=>?_)
  have Jb:D2≠p:=Step.ne Ja.fR Ao
  refine aZ (J:=xP 0 m6.toNat) (n:=m6.toNat) (λi ys H'=>∃ns:List Int,ys=ns.map V.int/\ns.length=i/\Step p H6 H'/\(∀z ∈ ns,0<=z/\z < M)) (Nat.le_of_lt (aH (by omega))) ⟨[],rfl,rfl,(Step.refl Ja.fR).new Ao,λz hz=>by simp at hz⟩ (λi ys H' hi _=>hi) (λys H' _=>Nat.le_refl _) ?_ ?_
  ·intro i ys H' hi bE hl oB x H2 pW
   nofun
   obtain⟨ns,rfl,hn,st,hb⟩:=oB
   obtain⟨rfl,rfl⟩:=pW
   ac_rfl
   walk_at "xf"
   right
   rw[if_pos trivial]
   refine dig st.fR (by omega) (wD (by omega) oF) λd H3 h3 h4 nO=>?_
   refine bP (nO.rest _ _ bE Jb) hl hi (Nat.le_of_lt (aH (by omega))) ⟨ns++[d],by simp,by simp[hn],?_,λz hz=>?_⟩
   ·exact⟨nO.fR.upd (Ne.symm Jb),λb o e ne=>by rw[ay (aq e Ao)];exact nO.rest _ _ (st.rest _ _ e ne) ne⟩
   ·rcases List.mem_append.mp hz with z1 | z1
    ·exact hb z z1
    ·simp at z1;subst z1;exact⟨h3,h4⟩
  intro ys H7 er hl7 uW
  nofun
  obtain⟨row,rfl,hrn,Nq,Nk⟩:=uW
  ac_rfl
  have OT:H D2=none:=Ja.free Ao
  have Jc:=Ja.trans Nq
  have Ve:=Nq.rest _ _ en6 OS
  refine bF ?_
  right
  refine⟨by decide,λlg Jd=>?_⟩
  have RJ:=Jc.new (o:=.lst [.int 13,.int 25]) Jd
  have Kh:∃z:Int,gB [V.int 13,V.int 25] gr=some (.int z)/\0 < z/\z<=25:=by
   have:gr=0\/gr=1:=by omega
   rcases this with rfl | rfl
   ·exact⟨_,ax (j:=0) rfl,by decide,by decide⟩
   ·exact⟨_,ax (j:=1) rfl,by decide,by decide⟩
  nofun
  obtain⟨z8,XA,ES,XB⟩:=Kh
  have adR:D≠lg:=λz=>by rw[<-z,Ve] at Jd;cases Jd
  have adS:D2≠lg:=λz=>by rw[<-z,er] at Jd;cases Jd
  replace Ve:=(av.new (.lst [.int 13,.int 25]) Jd) _ _ Ve
  replace er:=(av.new (.lst [.int 13,.int 25]) Jd) _ _ er
  ac_rfl
  refine bu af XA ?_
  replace Jc:=RJ
  refine dig Jc.fR ES (wD ES (by omega)) λm8 H8 h80 h81 Hb=>?_
  have Je:=Jc.trans Hb
  have en8:=Hb.rest _ _ Ve OS
  have er8:=Hb.rest _ _ er Jb
  right
  refine gK (by omega) (by omega) (λD3 BR=>?_)
  have RK:D3≠p:=Step.ne Je.fR BR
  have OU:H D3=none:=Je.free BR
  refine aZ (J:=xP 0 m8.toNat) (n:=m8.toNat) (λi ys H'=>∃ds:List bH,gh H' 2 ys (ds.map bH.dv)/\ds.length=i/\(∀d' ∈ ds,d'.ok (1 + m))/\Step p H8 H') (Nat.le_of_lt (aH (by omega))) ⟨[],gh.nil,rfl,λd' qg=>by simp at qg,(Step.refl Je.fR).new BR⟩ (λi ys H' hi _=>hi) (λys H' _=>Nat.le_refl _) ?_ ?_
  ·intro i ys H' hi bE wG ET x H9 Jf
   nofun
   obtain⟨ds,sF,hdn,Nt,Hc⟩:=ET
   obtain⟨rfl,rfl⟩:=Jf
   ac_rfl
   walk_at "xf"
   right
   rw[if_pos trivial]
   refine⟨p,1 + m,rfl,Hc.fR,by omega,by omega,λdx dd wH Jg Nu RL=>?_⟩
   have RM:=Jg.rest _ _ bE RK
   have t10:bQ wH (upd wH D3 (.lst (ys++[dx]))):=(bQ.refl _).upd λzs e=>by rw[RM] at e;cases e
   refine bP RM wG hi (Nat.le_of_lt (aH (by omega))) ⟨ds++[dd],?_,by simp[hdn],?_,?_⟩
   ·rw[List.map_append]
    exact((sF.aI (Jg.aQ Hc.fR)).snoc Nu).aI t10
   ·intro d' qg
    rcases List.mem_append.mp qg with z | z
    ·exact Nt d' z
    ·simp at z;subst z;exact RL
   ·exact⟨Jg.fR.upd (Ne.symm RK),λb o e ne=>by rw[ay (aq e BR)];exact Jg.rest _ _ (Hc.rest _ _ e ne) ne⟩
  intro ys H9 ed hl9 Jh
  nofun
  obtain⟨ds,sF,hdn,Nt,Hc⟩:=Jh
  ac_rfl
  have XC:=Je.trans Hc
  right
  refine⟨by show 4<=sizeLine;decide,λt ht=>?_⟩
  have vp:=av.new (.tup [.int M,.ref D,.ref D2,.ref D3]) ht
  refine q t D D2 D3 ys M ns row ds _ (XC.new ht) af (vp _ _ (Hc.rest _ _ en8 OS)) (vp _ _ (Hc.rest _ _ er8 Jb)) (vp _ _ ed) (sF.aI vp.aQ) fD OT OU ⟨BL,oF,by omega,by omega,by omega,pX,Nk,by omega,λd hd=>?_⟩
  rw[hn]
  have e:(((1 + m).toNat:Nat):Int)=1 + m:=by omega
  rw[e]
  exact Nt d hd
theorem pY {l:List Int}(h:l.length=1):∃a,l=[a]:=List.length_eq_one_iff.mp h
theorem RN {l:List Int}(h:l.length=2):∃a b,l=[a,b]:=by
 rcases l with _ | ⟨a,_ | ⟨b,l⟩⟩
 ·cases h
 ·cases h
 ·cases List.length_eq_zero_iff.mp (Nat.succ.inj (Nat.succ.inj h))
  exact⟨a,b,rfl⟩
abbrev i3:Stmt:=top 17
inductive tX (K:W.Frag)(vs:List V)(H:Hp)(Q:VK):Prop
 | mk (x:_) (st:_) (way:_) (said:_) (v:_) (ns:_) (row:_) (n:_) (h0:vs=[x,st,.int way,.int said]) (h1:HT H n x (Val.dv v)) (h2:vZ K H st ns row) (h3:v.ok ns.length) (h4:Q (.int (qS ns row way said v)) H):tX K vs H Q
def wI (K:W.Frag):Sp:=λvs H Q _=>tX K vs H Q
theorem sL (D:dH K mg "plain_worth" "plain_worth" i3 ["value","state","way","said"])(T:Tx K mg C CN CR F FD):Def P w K mg base "plain_worth" 1 ["value","state","way","said"] (wI K):=by
 have sc:aD ["value","state","way","said","word"] ["value","state","way","said"] (az i3):=by walk_at "s"
 symm
 ·obtain⟨x,st,way,said,v,ns,row,n,rfl,hx,qA,bf,q⟩:=h
  rfl
 ·nofun
  obtain⟨x,st,way,said,v,ns,row,n,rfl,hx,qA,bf,q⟩:=h
  ac_rfl
  have hu:=hr.units
  refine⟨_,(aj (ba (i:=4) sc.nd rfl (by grind) (ak hu (au 0) ag))
   (aj (aS (aA (aV hu) (au 4) aB (aC _)) (ao (aE (ak hu (au 0) ag))) aG)
   (aj (aS (aA (aV hu) (au 4) aB (aC _)) (ao (aE (ak hu (ak hu (au 1) ag) (ak hu (au 0) ag)))) aG)
   (aj (aS (aA (aV hu) (au 4) aB (aC _)) (ao (aE (au 3))) aG)
   (aj (aS (aA (aV hu) (au 4) aB (aC _)) (ao (aE (au 2))) aG)
   (ao (aE (CJ (aA lV (aT aM rfl T.cm PySem.boot_len (ai (ak hu (au 1) ag) aa)) ag (aC _)) (ak hu (ak hu (au 1) ag) ag) ag)))))))),?_⟩
  nofun
  obtain⟨a,b1,b2,rfl,ha,XD,OV⟩:=qA
  ac_rfl
  cases v with
  | is z=>
   nofun
   obtain⟨p,w1,w2,k',rfl,hp,i1,i2⟩:=cy hx
   obtain rfl:=i1.bM
   obtain rfl:=i2.bS
   ac_rfl
   walk_at "jd"
   refine ck _ _ (.inr (bJ.of hp)) rfl ?_
   walk_at "jd"
   try rw[if_pos (by decide +kernel)]
   exact⟨_,_,.inr (bJ.of hp),rfl,q⟩
  | number i=>
   nofun
   obtain⟨p,w1,w2,k',rfl,hp,i1,i2⟩:=cy hx
   obtain rfl:=i1.bM
   obtain rfl:=i2.bS
   obtain⟨j,rfl⟩:=Int.eq_ofNat_of_zero_le bf.1
   ac_rfl
   have hj:j < ns.length:=by have:=bf.2;omega
   walk_at "jd"
   refine ck _ _ (.inr (bJ.of hp)) rfl ?_
   walk_at "jd"
   try rw[if_neg (by decide +kernel)]
   left
   try rw[if_pos (by decide +kernel)]
   refine⟨_,_,.inr (bJ.of ha),rfl,_,_,.inr (bJ.of hp),rfl,?_⟩
   refine⟨_,.int ns[j],XD,ax (by rw[List.getElem?_map,cA hj];rfl),?_⟩
   have e:qS ns row way said (.number j)=ns[j]:=by
    show ns.getD (j:Int).toNat 0=ns[j]
    simp[List.getD_eq_getElem?_getD,cA hj]
   rw[e] at q
   exact q
  | lX=>
   nofun
   obtain⟨p,w1,k',rfl,hp,i1⟩:=fY hx
   obtain rfl:=i1.bM
   ac_rfl
   walk_at "jd"
   refine ck _ _ (.inr (bJ.of hp)) rfl ?_
   walk_at "jd"
   try rw[if_neg (by decide +kernel)]
   left
   try rw[if_neg (by decide +kernel)]
   left
   try rw[if_pos (by decide +kernel)]
   exact q
  | way=>
   nofun
   obtain⟨p,w1,k',rfl,hp,i1⟩:=fY hx
   obtain rfl:=i1.bM
   ac_rfl
   walk_at "jd"
   refine ck _ _ (.inr (bJ.of hp)) rfl ?_
   walk_at "jd"
   try rw[if_neg (by decide +kernel)]
   left
   try rw[if_neg (by decide +kernel)]
   left
   try rw[if_neg (by decide +kernel)]
   left
   try rw[if_pos (by decide +kernel)]
   exact q
  | first=>
   nofun
   obtain⟨p,w1,k',rfl,hp,i1⟩:=fY hx
   obtain rfl:=i1.bM
   ac_rfl
   walk_at "jd"
   refine ck _ _ (.inr (bJ.of hp)) rfl ?_
   walk_at "jd"
   try rw[if_neg (by decide +kernel)]
   left
   try rw[if_neg (by decide +kernel)]
   left
   try rw[if_neg (by decide +kernel)]
   left
   try rw[if_neg (by decide +kernel)]
   refine ck _ _ (.inr (bJ.of ha)) rfl ?_
   refine bx _ (OV.elim (λz=>.inl ⟨_,z,rfl⟩) (λz=>.inr ⟨_,z,rfl⟩)) ?_
   cases row with
   | nil=>
    left
    rw[if_neg (by simp)]
    exact q
   | cons r rs=>
    left
    rw[if_pos (by simp)]
    exact⟨_,_,.inr (bJ.of ha),rfl,_,_,OV,ax (j:=0) rfl,q⟩
abbrev mn:Stmt:=top 18
inductive tY (K:W.Frag)(vs:List V)(H:Hp)(Q:VK):Prop
 | mk (x:_) (st:_) (way:_) (said:_) (m:_) (v:_) (ns:_) (row:_) (n:_) (h0:vs=[x,st,.int way,.int said,.int m]) (h1:HT H n x (Val.dv v)) (h2:vZ K H st ns row) (h3:v.ok ns.length) (h4:0 < m) (h5:Q (.int (qS ns row way said v % m)) H):tY K vs H Q
def wJ (K:W.Frag):Sp:=λvs H Q _=>tY K vs H Q
theorem yH (D:dH K mg "worth_of" "worth_of" mn ["value","state","way","said","modulus"])(T:Tx K mg C CN CR F FD)(i4:Def P w K mg base "plain_worth" 1 ["value","state","way","said"] (wI K)):Def P w K mg base "worth_of" 2 ["value","state","way","said","modulus"] (wJ K):=by
 have sc:aD ["value","state","way","said","modulus"] ["value","state","way","said","modulus"] (az mn):=by walk_at "s"
 symm
 ·obtain⟨x,st,way,said,m,v,ns,row,n,rfl,hx,qA,bf,hm,q⟩:=h
  rfl
 ·nofun
  obtain⟨x,st,way,said,m,v,ns,row,n,rfl,hx,qA,bf,hm,q⟩:=h
  ac_rfl
  have hu:=hr.units
  refine⟨_,(ao (aE (aY dj (aN i4 hr (ai (au 0) (ai (au 1) (ai (au 2) (ai (au 3) aa))))) (au 4)))),?_⟩
  walk_at "jd"
  exact⟨x,st,way,said,v,ns,row,n,rfl,hx,qA,bf,hm,q⟩
abbrev kC:Stmt:=top 25
inductive VL (H:Hp)(n:Nat):List V->List Val->Prop
 | nil:VL H n [] []
 | cons {x v xs vs}:HT H n x (Val.dv v)->VL H n xs vs->VL H n (x::xs) (v::vs)
theorem VL.same{H H':Hp}{n:Nat}(s:bQ H H'){xs:List V}{vs:List Val}(h:VL H n xs vs):VL H' n xs vs:=by
 induction h with
 | nil=>exact .nil
 | cons h1 _ ih=>exact .cons (h1.aI s) ih
theorem VL.snoc{H:Hp}{n:Nat}{xs:List V}{vs:List Val}{x:V}{v:Val}(h:VL H n xs vs)(hx:HT H n x v.dv):VL H n (xs++[x]) (vs++[v]):=by
 induction h with
 | nil=>exact .cons hx .nil
 | cons h1 _ ih=>exact .cons h1 ih
theorem VL.len{H:Hp}{n:Nat}{xs:List V}{vs:List Val}(h:VL H n xs vs):xs.length=vs.length:=by
 induction h with
 | nil=>rfl
 | cons _ _ ih=>simp[ih]
inductive PL (H:Hp)(n:Nat):List V->List (Option Val)->Prop
 | nil:PL H n [] []
 | str {w xs os}:PL H n xs os->PL H n (.str w::xs) (none::os)
 | int {i xs os}:PL H n xs os->PL H n (.int i::xs) (none::os)
 | val {x v xs os}:HT H n x (Val.dv v)->PL H n xs os->PL H n (x::xs) (some v::os)
theorem PL.get{H:Hp}{n:Nat}{xs:List V}{os:List (Option Val)}(h:PL H n xs os):∀{i:Nat} {x:V},xs[i]?=some x->∃o,os[i]?=some o/\((o=none/\((∃w,x=.str w)\/∃j,x=.int j))\/∃v,o=some v/\HT H n x (Val.dv v)):=by
 induction h with
 | nil=>intro i x h;simp at h
 | str _ ih=>
  intro i x h
  cases i with
  | zero=>cases h;exact⟨none,rfl,.inl ⟨rfl,.inl ⟨_,rfl⟩⟩⟩
  | succ i=>exact ih h
 | int _ ih=>
  intro i x h
  cases i with
  | zero=>cases h;exact⟨none,rfl,.inl ⟨rfl,.inr ⟨_,rfl⟩⟩⟩
  | succ i=>exact ih h
 | val h1 _ ih=>
  intro i x h
  cases i with
  | zero=>cases h;exact⟨some _,rfl,.inr ⟨_,rfl,h1⟩⟩
  | succ i=>exact ih h
theorem PL.len{H:Hp}{n:Nat}{xs:List V}{os:List (Option Val)}(h:PL H n xs os):xs.length=os.length:=by
 induction h with
 | nil=>rfl
 | str _ ih=>simp[ih]
 | int _ ih=>simp[ih]
 | val _ _ ih=>simp[ih]
theorem Ap {H:Hp}{n:Nat}{x:V}{d:bH}(hx:HT H n x d.dv):∃a xs os k0,x=.ref a/\H a=some (.tup xs)/\PL H k0 xs os/\os.filterMap id=d.vals/\xs.length<=4:=by
 cases d with
 | set i v=>
  nofun
  walk_at "xg"
  obtain rfl:=g1.bM
  obtain rfl:=g2.bS
  ac_rfl
  exact⟨a,_,_,k0,rfl,ha,.str (.int (.val g3 .nil)),rfl,by simp⟩
 | add i v=>
  nofun
  walk_at "xg"
  obtain rfl:=g1.bM
  obtain rfl:=g2.bS
  ac_rfl
  exact⟨a,_,_,k0,rfl,ha,.str (.int (.val g3 .nil)),rfl,by simp⟩
 | times i v=>
  nofun
  walk_at "xg"
  obtain rfl:=g1.bM
  obtain rfl:=g2.bS
  ac_rfl
  exact⟨a,_,_,k0,rfl,ha,.str (.int (.val g3 .nil)),rfl,by simp⟩
 | put v=>
  nofun
  obtain⟨a,u1,u2,k0,rfl,ha,g1,g2⟩:=cy hx
  obtain rfl:=g1.bM
  ac_rfl
  exact⟨a,_,_,k0,rfl,ha,.str (.val g2 .nil),rfl,by simp⟩
 | drop=>
  nofun
  obtain⟨a,u1,k0,rfl,ha,g1⟩:=fY hx
  obtain rfl:=g1.bM
  ac_rfl
  exact⟨a,_,_,k0,rfl,ha,.str (.nil),rfl,by simp⟩
 | send j v=>
  nofun
  walk_at "xg"
  obtain rfl:=g1.bM
  obtain rfl:=g2.bS
  ac_rfl
  exact⟨a,_,_,k0,rfl,ha,.str (.int (.val g3 .nil)),rfl,by simp⟩
 | say v=>
  nofun
  obtain⟨a,u1,u2,k0,rfl,ha,g1,g2⟩:=cy hx
  obtain rfl:=g1.bM
  ac_rfl
  exact⟨a,_,_,k0,rfl,ha,.str (.val g2 .nil),rfl,by simp⟩
 | skip v w2 kk=>
  nofun
  obtain⟨a,u1,u2,u3,u4,k0,rfl,ha,g1,g2,g3,g4⟩:=jL hx
  obtain rfl:=g1.bM
  obtain rfl:=g4.bS
  ac_rfl
  exact⟨a,_,_,k0,rfl,ha,.str (.val g2 (.val g3 (.int .nil))),rfl,by simp⟩
inductive wK (vs:List V)(H:Hp)(Q:VK):Prop
 | mk (x:_) (n:_) (d:_) (h0:vs=[x]) (h1:HT H n x (bH.dv d)) (h2:∀l zs k0 H',av H H'->H l=none->H' l=some (.lst zs)->VL H' k0 zs d.vals->Q (.ref l) H'):wK vs H Q
def Aq:Sp:=λvs H Q _=>wK vs H Q
theorem wL (D:dH K mg "values_of" "values_of" kC ["deed"])(T:Tx K mg C CN CR F FD):Def P w K mg base "values_of" 1 ["deed"] Aq:=by
 have sc:aD ["deed"] ["deed"] (az kC):=by walk_at "s"
 symm
 ·obtain⟨x,n,d,rfl,hx,q⟩:=h
  rfl
 ·nofun
  obtain⟨x,n,d,rfl,hx,q⟩:=h
  ac_rfl
  have hu:=hr.units
  refine⟨_,(ao (aE (cW (N':=["part"]) (ix:=[none]) (bU (pv 0)) (λ_ _ _ _=>(aU (i:=0) (show(["part"]:List Str).Nodup by decide +kernel) rfl (by grind))) (λ_ _ _ _=>(jH (bb (aT (fm (K:=K) rfl) rfl T.aK nN (ai (au 0) (ai (bO (v:=.ty "tuple") rfl T.cu qe rfl) aa)))))) (λ_ _ _ _=>(au 0))))),?_⟩
  nofun
  obtain⟨a,xs,os,k0,rfl,ha,hp,hv,h4⟩:=Ap hx
  ac_rfl
  left
  refine bF ?_
  left
  refine .inr ⟨⟨_,bJ.of ha⟩,λD hD=>?_⟩
  refine aZ (J:=Hy K a) (n:=xs.length) (λi ys H'=>av H H'/\VL H' k0 ys ((os.take i).filterMap id)) (Nat.le_of_lt (aH (by omega))) ⟨av.new _ hD,.nil⟩ ?_ ?_ ?_ ?_
  ·rintro i ys H' hi ⟨s1,_⟩
   exact⟨xs,xs[i],bJ.of (s1 _ _ ha),cA hi⟩
  ·rintro ys H' ⟨s1,_⟩
   exact⟨xs,bJ.of (s1 _ _ ha),Nat.le_refl _⟩
  ·intro i ys H' hi bE hl iV x H4 iW
   nofun
   obtain⟨s1,Hd⟩:=iV
   obtain⟨rfl,hy⟩:=iW
   have ex:=hy xs (bJ.of (s1 _ _ ha))
   obtain⟨o,ho,EU⟩:=hp.get ex
   ac_rfl
   have wM:os.take (i + 1)=os.take i++[o]:=by
    rw[List.take_add_one,ho];rfl
   walk_at "xf"
   left
   rcases EU with⟨rfl,hc⟩ | ⟨v,rfl,XE⟩
   ·have XF:∃t,fV K H4 x t/\W.kitOne K t (.type "tuple")=some false:=by
     rcases hc with⟨w,rfl⟩ | ⟨j,rfl⟩
     ·exact⟨_,.str w,rfl⟩
     ·exact⟨_,.int j,rfl⟩
    obtain⟨t,h1,h2⟩:=XF
    refine ck t false h1 h2 ?_
    first | refine⟨false,rfl,?_⟩ | skip
    left
    try rw[if_neg Bool.false_ne_true]
    exact⟨ys,bE,by omega,s1,by rw[wM];simpa using Hd⟩
   ·have EV:=XE.aI s1.aQ
    nofun
    obtain⟨b,zs,rfl,hb⟩:=zZ EV
    ac_rfl
    refine ck _ true (.tup hb) rfl ?_
    first | refine⟨true,rfl,?_⟩ | skip
    left
    try first | rw[if_pos rfl] | rw[if_pos trivial]
    refine bP bE hl hi (Nat.le_of_lt (aH (by omega))) ⟨λc o e=>by rw[ay (aq e hD)];exact s1 _ _ e,?_⟩
    rw[wM,List.filterMap_append]
    have tu:bQ H4 (upd H4 D (.lst (ys++[.ref b]))):=(bQ.refl H4).upd λzs e=>by rw[bE] at e;cases e
    exact(Hd.same tu).snoc (EV.aI tu)
  ·rintro ys H' bE hl ⟨s1,Hd⟩
   rw[hp.len,List.take_length,hv] at Hd
   exact q _ ys k0 _ s1 hD bE Hd
abbrev gk:Stmt:=top 33
inductive Ar (vs:List V)(H:Hp)(Q:VK):Prop
 | mk (an:Addr) (x:V) (l:Addr) (ns ws:List Int) (M:Int) (n:Nat) (d:bH) (h0:vs=[.ref an,x,.ref l,.int M]) (h1:H an=some (.lst (ns.map V.int))) (h2:HT H n x d.dv) (h3:H l=some (.lst (ws.map V.int))) (h4:ws.length=d.vals.length) (h5:d.ok ns.length) (h6:0 < M) (h7:M<=1000000000000) (h8:(∀z ∈ ns,0<=z/\z < M)) (h9:∀H',H' an=some (.lst ((de M ns (ws.getD 0 0) d).map V.int))->(∀b o,b≠an->H b=some o->H' b=some o)->Q .bR H'):Ar vs H Q
def EW:Sp:=λvs H Q _=>Ar vs H Q
theorem oJ (D:dH K mg "change_numbers" "change_numbers" gk ["numbers","deed","worths","modulus"])(T:Tx K mg C CN CR F FD):Def P w K mg base "change_numbers" 1 ["numbers","deed","worths","modulus"] EW:=by
 have sc:aD ["numbers","deed","worths","modulus"] ["numbers","deed","worths","modulus"] (az gk):=by walk_at "s"
 symm
 ·obtain⟨an,x,l,ns,ws,M,n,d,rfl,hn,hx,hw,oI,bf,hM,BL,hb,q⟩:=h
  rfl
 ·nofun
  obtain⟨an,x,l,ns,ws,M,n,d,rfl,hn,hx,hw,oI,bf,hM,BL,hb,q⟩:=h
  ac_rfl
  have hu:=hr.units
  refine⟨_,(ao (aS (aA (aV hu) (ak hu (au 1) ag) aB (aC _)) (ao (fA (ak hu (au 2) ag) (iT (au 0) (ak hu (au 1) ag) eg))) (ao (aS (aA (aV hu) (ak hu (au 1) ag) aB (aC _)) (ao (fA (aY dj (aY da (ak hu (au 0) (ak hu (au 1) ag)) (ak hu (au 2) ag)) (au 3)) (iT (au 0) (ak hu (au 1) ag) eg))) (ao (aS (aA (aV hu) (ak hu (au 1) ag) aB (aC _)) (ao (fA (aY dj (aY ly (ak hu (au 0) (ak hu (au 1) ag)) (ak hu (au 2) ag)) (au 3)) (iT (au 0) (ak hu (au 1) ag) eg))) aG)))))),?_⟩
  cases d with
  | set i v=>
   nofun
   walk_at "xg"
   obtain rfl:=g1.bM
   obtain rfl:=g2.bS
   obtain⟨w0,rfl⟩:=pY oI
   obtain⟨BS,OW,_⟩:=bf
   obtain⟨jn,rfl⟩:=Int.eq_ofNat_of_zero_le BS
   ac_rfl
   have hj:jn < ns.length:=by omega
   have wN:pK (ns.map V.int).length (jn:Int)=some jn:=by
    unfold pK
    left
    rw[if_pos (by omega)]
    left
    rw[if_pos (by rw[List.length_map];omega)]
    rfl
   have OX:gB (ns.map V.int) (jn:Int)=some (.int ns[jn]):=ax (by rw[List.getElem?_map,cA hj];rfl)
   have Ji:ns.getD (jn:Int).toNat 0=ns[jn]:=by simp[List.getD_eq_getElem?_getD,cA hj]
   walk_at "jg"
   refine ck _ jn hn wN ?_
   refine q _ ?_ λb o ne e=>by rw[ay ne];exact e
   rw[af]
   have:(ns.map V.int).set jn (.int w0)=(de M ns (([w0]:List Int).getD 0 0) (.set jn v)).map V.int:=by
    rw[<-List.map_set]
    show List.map V.int (ns.set jn w0)=List.map V.int (ns.set (jn:Int).toNat w0)
    rfl
   rw[<-this]
  | add i v=>
   nofun
   walk_at "xg"
   obtain rfl:=g1.bM
   obtain rfl:=g2.bS
   obtain⟨w0,rfl⟩:=pY oI
   obtain⟨BS,OW,_⟩:=bf
   obtain⟨jn,rfl⟩:=Int.eq_ofNat_of_zero_le BS
   ac_rfl
   have hj:jn < ns.length:=by omega
   have wN:pK (ns.map V.int).length (jn:Int)=some jn:=by
    unfold pK
    left
    rw[if_pos (by omega)]
    left
    rw[if_pos (by rw[List.length_map];omega)]
    rfl
   have OX:gB (ns.map V.int) (jn:Int)=some (.int ns[jn]):=ax (by rw[List.getElem?_map,cA hj];rfl)
   have Ji:ns.getD (jn:Int).toNat 0=ns[jn]:=by simp[List.getD_eq_getElem?_getD,cA hj]
   walk_at "jg"
   refine⟨hM,?_⟩
   walk_at "jg"
   refine ck _ jn hn wN ?_
   refine q _ ?_ λb o ne e=>by rw[ay ne];exact e
   rw[af]
   have:(ns.map V.int).set jn (.int ((ns[jn] + w0) % M))=(de M ns (([w0]:List Int).getD 0 0) (.add jn v)).map V.int:=by
    rw[<-List.map_set]
    show List.map V.int (ns.set jn ((ns[jn] + w0) % M))=List.map V.int (ns.set (jn:Int).toNat ((ns.getD (jn:Int).toNat 0 + w0) % M))
    rw[Ji]
    rfl
   rw[<-this]
  | times i v=>
   nofun
   walk_at "xg"
   obtain rfl:=g1.bM
   obtain rfl:=g2.bS
   obtain⟨w0,rfl⟩:=pY oI
   obtain⟨BS,OW,_⟩:=bf
   obtain⟨jn,rfl⟩:=Int.eq_ofNat_of_zero_le BS
   ac_rfl
   have hj:jn < ns.length:=by omega
   have wN:pK (ns.map V.int).length (jn:Int)=some jn:=by
    unfold pK
    left
    rw[if_pos (by omega)]
    left
    rw[if_pos (by rw[List.length_map];omega)]
    rfl
   have OX:gB (ns.map V.int) (jn:Int)=some (.int ns[jn]):=ax (by rw[List.getElem?_map,cA hj];rfl)
   have Ji:ns.getD (jn:Int).toNat 0=ns[jn]:=by simp[List.getD_eq_getElem?_getD,cA hj]
   walk_at "jg"
   have hbz:=hb ns[jn] (List.getElem_mem hj)
   refine gK (.inl ⟨by omega,by omega⟩) hM ?_
   walk_at "jg"
   refine ck _ jn hn wN ?_
   refine q _ ?_ λb o ne e=>by rw[ay ne];exact e
   rw[af]
   have:(ns.map V.int).set jn (.int ((ns[jn] * w0) % M))=(de M ns (([w0]:List Int).getD 0 0) (.times jn v)).map V.int:=by
    rw[<-List.map_set]
    show List.map V.int (ns.set jn ((ns[jn] * w0) % M))=List.map V.int (ns.set (jn:Int).toNat ((ns.getD (jn:Int).toNat 0 * w0) % M))
    rw[Ji]
    rfl
   rw[<-this]
  | put v=>
   nofun
   obtain⟨a,u1,u2,k0,rfl,ha,g1,g2⟩:=cy hx
   obtain rfl:=g1.bM
   ac_rfl
   walk_at "jg"
   exact q H hn λ_ _ _ e=>e
  | drop=>
   nofun
   obtain⟨a,u1,k0,rfl,ha,g1⟩:=fY hx
   obtain rfl:=g1.bM
   ac_rfl
   walk_at "jg"
   exact q H hn λ_ _ _ e=>e
  | send j v=>
   nofun
   walk_at "xg"
   obtain rfl:=g1.bM
   obtain rfl:=g2.bS
   ac_rfl
   walk_at "jg"
   exact q H hn λ_ _ _ e=>e
  | say v=>
   nofun
   obtain⟨a,u1,u2,k0,rfl,ha,g1,g2⟩:=cy hx
   obtain rfl:=g1.bM
   ac_rfl
   walk_at "jg"
   exact q H hn λ_ _ _ e=>e
  | skip v w2 kk=>
   nofun
   obtain⟨a,u1,u2,u3,u4,k0,rfl,ha,g1,g2,g3,g4⟩:=jL hx
   obtain rfl:=g1.bM
   obtain rfl:=g4.bS
   ac_rfl
   walk_at "jg"
   exact q H hn λ_ _ _ e=>e
abbrev jS:Stmt:=top 34
inductive As (vs:List V)(H:Hp)(Q:VK):Prop
 | mk (an:Addr) (x:V) (l:Addr) (row ws:List Int) (n:Nat) (d:bH) (h0:vs=[.ref an,x,.ref l]) (h1:H an=some (.lst (row.map V.int))) (h2:HT H n x d.dv) (h3:H l=some (.lst (ws.map V.int))) (h4:ws.length=d.vals.length) (h5:row.length<=12) (h6:∀H',H' an=some (.lst ((fH row (ws.getD 0 0) d).map V.int))->(∀b o,b≠an->H b=some o->H' b=some o)->Q .bR H'):As vs H Q
def EX:Sp:=λvs H Q _=>As vs H Q
theorem u5 (D:dH K mg "change_row" "change_row" jS ["row","deed","worths"])(T:Tx K mg C CN CR F FD):Def P w K mg base "change_row" 1 ["row","deed","worths"] EX:=by
 have sc:aD ["row","deed","worths"] ["row","deed","worths"] (az jS):=by walk_at "s"
 symm
 ·obtain⟨an,x,l,row,ws,n,d,rfl,hn,hx,hw,oI,hlen,q⟩:=h
  rfl
 ·nofun
  obtain⟨an,x,l,row,ws,n,d,rfl,hn,hx,hw,oI,hlen,q⟩:=h
  ac_rfl
  have hu:=hr.units
  refine⟨_,(ao (aS (PW.pt (pw_and (aA (aV hu) (ak hu (au 1) ag) aB (aC _)) (pw_and1 (aA gJ (aT aM rfl T.cm PySem.boot_len (ai (au 0) aa)) (fE T.fb rfl) (aC _))))) (ao (bY (du lO nQ nR bV (au 0) (ai (ak hu (au 2) ag) aa)))) (ao (aS (PW.pt (pw_and (aA (aV hu) (ak hu (au 1) ag) aB (aC _)) (pw_and1 (aA lV (aT aM rfl T.cm PySem.boot_len (ai (au 0) aa)) ag (aC _))))) (ao (Ir (au 0) ag)) aG)))),?_⟩
  cases d with
  | set i v=>
   nofun
   walk_at "xg"
   obtain rfl:=g1.bM
   obtain rfl:=g2.bS
   ac_rfl
   walk_at "jg"
   exact q H hn λ_ _ _ e=>e
  | add i v=>
   nofun
   walk_at "xg"
   obtain rfl:=g1.bM
   obtain rfl:=g2.bS
   ac_rfl
   walk_at "jg"
   exact q H hn λ_ _ _ e=>e
  | times i v=>
   nofun
   walk_at "xg"
   obtain rfl:=g1.bM
   obtain rfl:=g2.bS
   ac_rfl
   walk_at "jg"
   exact q H hn λ_ _ _ e=>e
  | put v=>
   nofun
   obtain⟨a,u1,u2,k0,rfl,ha,g1,g2⟩:=cy hx
   obtain rfl:=g1.bM
   obtain⟨w0,rfl⟩:=pY oI
   ac_rfl
   walk_at "jg"
   refine bx _ (.inl ⟨_,aP.of hn,rfl⟩) ?_
   rw[List.length_map]
   by_cases XG:row.length < 12
   ·left
    rw[if_pos (by simp;omega)]
    walk_at "jg"
    refine⟨.inl ⟨rfl,_,aP.of hn⟩,?_⟩
    walk_at "jg"
    refine gc _ hn (Nat.lt_of_le_of_lt (by simp;omega) (aH (n:=100) (by omega))) ?_
    refine q _ ?_ λb o ne e=>by rw[ay ne];exact e
    rw[af]
    have:(row.map V.int)++[V.int w0]=(fH row (([w0]:List Int).getD 0 0) (.put v)).map V.int:=by
     show _=(if row.length < 12 then row++[w0] else row).map V.int
     rw[if_pos XG];simp
    rw[this]
   ·left
    rw[if_neg (by simp;omega)]
    walk_at "jg"
    refine q H ?_ λ_ _ _ e=>e
    have:(fH row (([w0]:List Int).getD 0 0) (.put v))=row:=by
     show(if row.length < 12 then row++[w0] else row)=row
     left
     rw[if_neg XG]
    rw[this];exact hn
  | drop=>
   nofun
   obtain⟨a,u1,k0,rfl,ha,g1⟩:=fY hx
   obtain rfl:=g1.bM
   ac_rfl
   walk_at "jg"
   refine bx _ (.inl ⟨_,aP.of hn,rfl⟩) ?_
   cases row with
   | nil=>
    left
    try rw[if_neg (by simp)]
    exact q H hn λ_ _ _ e=>e
   | cons r rs=>
    left
    rw[if_pos (by simp)]
    walk_at "jg"
    refine Xm _ _ _ 0 rfl rfl hn (by decide) (by decide) (by simp[seqIndex?]) ?_
    exact q _ af λb o ne e=>by rw[ay ne];exact e
  | send j v=>
   nofun
   walk_at "xg"
   obtain rfl:=g1.bM
   obtain rfl:=g2.bS
   ac_rfl
   walk_at "jg"
   exact q H hn λ_ _ _ e=>e
  | say v=>
   nofun
   obtain⟨a,u1,u2,k0,rfl,ha,g1,g2⟩:=cy hx
   obtain rfl:=g1.bM
   ac_rfl
   walk_at "jg"
   exact q H hn λ_ _ _ e=>e
  | skip v w2 kk=>
   nofun
   obtain⟨a,u1,u2,u3,u4,k0,rfl,ha,g1,g2,g3,g4⟩:=jL hx
   obtain rfl:=g1.bM
   obtain rfl:=g4.bS
   ac_rfl
   walk_at "jg"
   exact q H hn λ_ _ _ e=>e
abbrev mq:Stmt:=top 35
inductive wO (vs:List V)(H:Hp)(Q:VK):Prop
 | mk (x:V) (l:Addr) (ws:List Int) (n:Nat) (d:bH) (h0:vs=[x,.ref l]) (h1:HT H n x d.dv) (h2:H l=some (.lst (ws.map V.int))) (h3:ws.length=d.vals.length) (h4:Q (.int (fI (ws.getD 0 0) (ws.getD 1 0) d)) H):wO vs H Q
def Au:Sp:=λvs H Q _=>wO vs H Q
theorem yI (D:dH K mg "left_out" "left_out" mq ["deed","worths"])(T:Tx K mg C CN CR F FD):Def P w K mg base "left_out" 1 ["deed","worths"] Au:=by
 have sc:aD ["deed","worths"] ["deed","worths"] (az mq):=by walk_at "s"
 symm
 ·obtain⟨x,l,ws,n,d,rfl,hx,hw,oI,q⟩:=h
  rfl
 ·nofun
  obtain⟨x,l,ws,n,d,rfl,hx,hw,oI,q⟩:=h
  ac_rfl
  have hu:=hr.units
  refine⟨_,(aj (aS (PW.pt (pw_and (aA (aV hu) (ak hu (au 0) ag) aB (aC _)) (pw_and1 (aA gJ (ak hu (au 1) ag) (ak hu (au 1) ag) (aC _))))) (ao (aE (ak hu (au 0) ag))) aG)
   (ao (aE ag))),?_⟩
  cases d with
  | set i v=>
   nofun
   walk_at "xg"
   obtain rfl:=g1.bM
   obtain rfl:=g2.bS
   ac_rfl
   walk_at "jg"
   exact q
  | add i v=>
   nofun
   walk_at "xg"
   obtain rfl:=g1.bM
   obtain rfl:=g2.bS
   ac_rfl
   walk_at "jg"
   exact q
  | times i v=>
   nofun
   walk_at "xg"
   obtain rfl:=g1.bM
   obtain rfl:=g2.bS
   ac_rfl
   walk_at "jg"
   exact q
  | put v=>
   nofun
   obtain⟨a,u1,u2,k0,rfl,ha,g1,g2⟩:=cy hx
   obtain rfl:=g1.bM
   ac_rfl
   walk_at "jg"
   exact q
  | drop=>
   nofun
   obtain⟨a,u1,k0,rfl,ha,g1⟩:=fY hx
   obtain rfl:=g1.bM
   ac_rfl
   walk_at "jg"
   exact q
  | send j v=>
   nofun
   walk_at "xg"
   obtain rfl:=g1.bM
   obtain rfl:=g2.bS
   ac_rfl
   walk_at "jg"
   exact q
  | say v=>
   nofun
   obtain⟨a,u1,u2,k0,rfl,ha,g1,g2⟩:=cy hx
   obtain rfl:=g1.bM
   ac_rfl
   walk_at "jg"
   exact q
  | skip v w2 kk=>
   nofun
   obtain⟨a,u1,u2,u3,u4,k0,rfl,ha,g1,g2,g3,g4⟩:=jL hx
   obtain rfl:=g1.bM
   obtain rfl:=g4.bS
   obtain⟨w0,w1,rfl⟩:=RN oI
   ac_rfl
   walk_at "jg"
   by_cases kf:w0 < w1
   ·left
    rw[if_pos (by simpa using kf)]
    walk_at "jg"
    have:fI w0 w1 (.skip v w2 kk)=kk:=if_pos kf
    rw[show fI (([w0,w1]:List Int).getD 0 0) (([w0,w1]:List Int).getD 1 0) (.skip v w2 kk)=kk from this] at q
    exact q
   ·left
    rw[if_neg (by simpa using kf)]
    have:fI w0 w1 (.skip v w2 kk)=0:=if_neg kf
    rw[show fI (([w0,w1]:List Int).getD 0 0) (([w0,w1]:List Int).getD 1 0) (.skip v w2 kk)=0 from this] at q
    left
    exact q
theorem EY {cc:TT}{tb:TS}{D:Ends}(Pv:St->Hp->Prop)(μ:St->Nat)(h0:Pv σ H)
  (hs:∀σ H,Pv σ H->cc σ H λb H1=>if b=true then ∃N:St->Hp->Prop,(∀σ' H',N σ' H'->Pv σ' H'/\μ σ' < μ σ)/\tb {D with nx:=N,ct:=N,bk:=D.nx} σ H1 else D.nx σ H1)
  (mono:∀σ H (Q Q':Bool->Hp->Prop),(∀b H1,Q b H1->Q' b H1)->cc σ H Q->cc σ H Q'):uv cc tb D σ H:=by
 refine⟨λm σ H=>m=μ σ/\Pv σ H,⟨_,rfl,h0⟩,?_⟩
 rintro m σ H ⟨rfl,p⟩
 refine mono σ H _ _ (λb H1 q=>?_) (hs σ H p)
 cases b with
 | true=>
  obtain⟨N,h1,h2⟩:=q
  exact⟨N,λσ' H' n=>⟨_,(h1 σ' H' n).2,rfl,(h1 σ' H' n).1⟩,h2⟩
 | false=>exact q
def SL (H:Hp)(zs:List V)(ps:List (Int×Int)):Prop:=zs.length=ps.length/\∀(i:Nat) z p,zs[i]?=some z->ps[i]?=some p->HT H 1 z (.tup [.int p.1,.int p.2])
theorem SL.aI(s:bQ H H'){zs:List V}{ps:List (Int×Int)}(h:SL H zs ps):SL H' zs ps:=⟨h.1,λi z p e1 e2=>(h.2 i z p e1 e2).aI s⟩
theorem SL.snoc{zs:List V}{ps:List (Int×Int)}{j w:Int}(h:SL H zs ps)(hz:HT H 1 z (.tup [.int j,.int w])):SL H (zs++[z]) (ps++[(j,w)]):=by
 refine⟨by simp[h.1],λi z' p e1 e2=>?_⟩
 by_cases hi:i < zs.length
 ·rw[List.getElem?_append_left hi] at e1
  rw[List.getElem?_append_left (by rw[<-h.1];exact hi)] at e2
  exact h.2 i z' p e1 e2
 ·rw[List.getElem?_append_right (by omega)] at e1
  rw[List.getElem?_append_right (by rw[<-h.1];omega)] at e2
  rw[h.1] at e1
  cases hk:i - ps.length with
  | zero=>rw[hk] at e1 e2;cases e1;cases e2;exact hz
  | succ k=>rw[hk] at e1;simp at e1
structure Res (H H':Hp)(x:V)(s:WS):Prop where
 ex:∃p st l1 l2 zs,x=.ref p/\H' p=some (.tup [st,.ref l1,.ref l2])/\HT H' 2 st (vo s.ns s.row)/\H' l1=some (.lst zs)/\SL H' zs s.cq/\H' l2=some (.lst (s.words.map V.int))/\H l1=none/\H l2=none/\l1≠l2
theorem dD {M w:Int}(hM:0 < M)(hb:∀z ∈ ns,0<=z/\z < M)(hw:0<=w/\w < M):∀z ∈ de M ns w d,0<=z/\z < M:=by
 have key:∀(j:Nat) (y:Int),(0<=y/\y < M)->∀z ∈ ns.set j y,0<=z/\z < M:=λj y hy z hz=>by
  rcases List.mem_or_eq_of_mem_set hz with h | h
  ·exact hb z h
  ·rw[h];exact hy
 have md:∀y:Int,0<=y % M/\y % M < M:=λy=>⟨Int.emod_nonneg _ (by omega),Int.emod_lt_of_pos _ hM⟩
 cases d with
 | set i v=>exact key _ _ hw
 | add i v=>exact key _ _ (md _)
 | times i v=>exact key _ _ (md _)
 | _=>exact hb
theorem kD {w:Int}{row:List Int}{d:bH}(h:row.length<=12):(fH row w d).length<=12:=by
 cases d with
 | put v=>
  show(if row.length < 12 then row++[w] else row).length<=12
  split
  ·simp;omega
  ·exact h
 | drop=>show row.tail.length<=12;simp;omega
 | _=>exact h
theorem EZ {m w w':Int}{d:bH}(h:d.ok m):0<=fI w w' d:=by
 cases d with
 | skip v u k=>
  show 0<=(if w < w' then k else 0)
  split
  ·exact Int.le_trans (by decide) h.2.2.1
  ·exact Int.le_refl _
 | _=>exact Int.le_refl _
theorem nz {m:Int}(h:d.ok m):∀v ∈ d.vals,v.ok m:=by
 intro v hv
 cases d <;> simp only[bH.vals,List.mem_cons,List.not_mem_nil,or_false] at hv
 case set=>subst hv;exact h.2.2
 case add=>subst hv;exact h.2.2
 case times=>subst hv;exact h.2.2
 case put=>subst hv;exact h
 case send=>subst hv;exact h.2
 case say=>subst hv;exact h
 case skip=>rcases hv with rfl | rfl;exact h.1;exact h.2.1
theorem VL.get{H:Hp}{n:Nat}{xs:List V}{vs:List Val}(h:VL H n xs vs):∀{i:Nat} {x:V},xs[i]?=some x->∃v,vs[i]?=some v/\HT H n x (Val.dv v):=by
 induction h with
 | nil=>intro i x h;simp at h
 | cons h1 _ ih=>
  intro i x h
  cases i with
  | zero=>cases h;exact⟨_,rfl,h1⟩
  | succ i=>exact ih h
theorem wQ:d.vals.length<=2:=by cases d <;> simp[bH.vals]
theorem tZ {M way said:Int}{ns row:List Int}{vs:List Val}{i:Nat}(hM:0 < M):0<=(vs.map (fG M way said ns row)).getD i 0/\(vs.map (fG M way said ns row)).getD i 0 < M:=by
 rw[List.getD_eq_getElem?_getD,List.getElem?_map]
 cases vs[i]? with
 | none=>exact⟨Int.le_refl _,hM⟩
 | some v=>exact⟨Int.emod_nonneg _ (by omega),Int.emod_lt_of_pos _ hM⟩
theorem Kw {a:Nat}{k:Int}(h:0<=k):(a:Int) + (1 + k)=((a + 1 + k.toNat:Nat):Int):=by omega
theorem Kx {α:Type}{x:α}{xs:List α}{a k f:Nat}(h:(x::xs.drop (a + 1)).length<=f + 1):(xs.drop (a + 1 + k)).length<=f:=by
 rw[List.length_drop]
 rw[List.length_cons,List.length_drop] at h
 omega
theorem Ky {n a:Nat}{k:Int}(h0:a < n)(h:0<=k):n - ((a:Int) + (1 + k)).toNat < n - a:=by omega
abbrev gm:Stmt:=(bW (top 36)).getD 4 (.Pass ⟨0,0,0,0⟩)
def muW (n:Nat)(σ:St):Nat:=match σ[8]? with
 | some (some (V.int i))=>n - i.toNat
 | _=>0
inductive rj (K:W.Frag)(C:Addr)(vs:List V)(H:Hp)(Q:VK):Prop
 | mk (m:Addr) (st:V) (way said M:Int) (XH BA:List Int) (ds:List bH) (ns row:List Int) (h0:vs=[.ref m,st,.int way,.int said]) (h1:hV C H m M XH BA ds) (h2:vZ K H st ns row) (h3:2<=M) (h4:M<=1000000000000) (h5:(∀z ∈ ns,0<=z/\z < M)) (h6:row.length<=12) (h7:ds.length<=24) (h8:(∀d ∈ ds,d.ok ns.length)) (h9:∀x H',av H H'->Res H H' x (nk M way said ds ns row)->Q x H'):rj K C vs H Q
def t9 (K:W.Frag)(C:Addr):Sp:=λvs H Q _=>rj K C vs H Q
inductive Nv (H:Hp)(m:Addr)(st:V)(way said M:Int)(ds:List bH)(ns row:List Int)(σ:St)(H':Hp):Prop
 | mk (an ar fz aw:Addr) (zs:List V) (z9 Nw:Option V) (at_:Nat) (s:WS) (f:Nat) (h0:σ=[some (.ref m),some st,some (.int way),some (.int said),some (.ref an),some (.ref ar),some (.ref fz),some (.ref aw),some (.int at_),z9,Nw]) (h1:av H H') (h2:H an=none) (h3:H ar=none) (h4:H fz=none) (h5:H aw=none) (h6:an≠ar) (h7:an≠fz) (h8:an≠aw) (h9:ar≠fz) (IY:ar≠aw) (Nr:fz≠aw) (XG:H' an=some (.lst (s.ns.map V.int))) (h13:H' ar=some (.lst (s.row.map V.int))) (h14:H' fz=some (.lst zs)) (h15:SL H' zs s.cq) (h16:H' aw=some (.lst (s.words.map V.int))) (h17:s.ns.length=ns.length) (h18:(∀z ∈ s.ns,0<=z/\z < M)) (h19:s.row.length<=12) (h20:s.cq.length<=at_) (h21:s.words.length<=at_) (h22:vY M way said f (ds.drop at_) s=nk M way said ds ns row) (h23:(ds.drop at_).length<=f):Nv H m st way said M ds ns row σ H'
theorem oK (D:gD K C "worked" "Machine.worked" gm ["self","state","way","said"])(T:Tx K mg C CN CR F FD)(gn:Def P w K mg base "change_numbers" 1 ["numbers","deed","worths","modulus"] EW)(jT:Def P w K mg base "change_row" 1 ["row","deed","worths"] EX)(mr:Def P w K mg base "left_out" 1 ["deed","worths"] Au)(kE:Def P w K mg base "values_of" 1 ["deed"] Aq)(mw:Def P w K mg base "worth_of" 2 ["value","state","way","said","modulus"] (wJ K)):cB P w K mg base C "worked" 3 ["self","state","way","said"] (t9 K C):=by
  have sc:aD ["self","state","way","said","numbers","row","sent","words","at","deed","worths"] ["self","state","way","said"] (az gm):=by walk_at "s"
  symm
  · obtain⟨m,st,way,said,M,XH,BA,ds,ns,row,rfl,hm,qA,BL,oF,hb,nu,Kt,bf,q⟩:=h
    rfl
  · nofun
    obtain⟨m,st,way,said,M,XH,BA,ds,ns,row,rfl,hm,qA,BL,oF,hb,nu,Kt,bf,q⟩:=h
    ac_rfl
    have hu:=hr.units
    refine⟨_,(aj (ba (i:=4) sc.nd rfl (by grind) (dB cC rfl T.dI um (ai (ak hu (au 1) ag) aa)))
      (aj (ba (i:=5) sc.nd rfl (by grind) (dB cC rfl T.dI um (ai (ak hu (au 1) ag) aa)))
      (aj (ba (i:=6) sc.nd rfl (by grind) (bN aa))
      (aj (ba (i:=7) sc.nd rfl (by grind) (bN aa))
      (aj (ba (i:=8) sc.nd rfl (by grind) ag)
      (aj (CP PassesOwn.never (zw gJ (pv 8) (aT aM rfl T.cm PySem.boot_len (ai (bI (pv 0) rfl) aa)) (aC _))
      (aj (ba (i:=9) sc.nd rfl (by grind) (ak hu (bI (au 0) rfl) (au 8)))
      (aj (fC (i:=10) sc.nd rfl (by grind) (N':=["value","way","said","numbers","row","self"]) (ix:=[none,some 2,some 3,some 4,some 5,some 0]) (bU (aN kE hr (ai (au 9) aa))) (λ_ _ _ _=>(aU (i:=0) (show(["value","way","said","numbers","row","self"]:List Str).Nodup by decide +kernel) rfl (by grind))) lC (λ_ _ _ _=>(aN mw hr (ai (au 0) (ai (bC (ai (au 3) (ai (au 4) aa))) (ai (au 1) (ai (au 2) (ai (Iw (K:=K) rfl (au 5) rfl) aa))))))))
      (aj (bY (aN gn hr (ai (au 4) (ai (au 9) (ai (au 10) (ai (bI (au 0) rfl) aa))))))
      (aj (bY (aN jT hr (ai (au 5) (ai (au 9) (ai (au 10) aa)))))
      (aj (aS (aA (aV hu) (ak hu (au 9) ag) aB (aC _)) (ao (bY (du lO nQ nR bV (au 6) (ai (bC (ai (ak hu (au 9) ag) (ai (ak hu (au 10) ag) aa))) aa)))) (ao (aS (aA (aV hu) (ak hu (au 9) ag) aB (aC _)) (ao (bY (du lO nQ nR bV (au 7) (ai (ak hu (au 10) ag) aa)))) aG)))
      (ao (LZ (i:=8) sc.nd rfl (by grind) (aY da ag (aN mr hr (ai (au 9) (ai (au 10) aa)))) L0))))))))
      (ao (aE (bC (ai (bC (ai (dB cL rfl T.cu qe (ai (au 4) aa)) (ai (dB cL rfl T.cu qe (ai (au 5) aa)) aa))) (ai (au 6) (ai (au 7) aa)))))))))))),?_⟩
    nofun
    obtain⟨dx,stm,dd,IS,hm2,hm3⟩:=hm
    obtain⟨ad,xs,rfl,RO,sF⟩:=RA hm3
    obtain⟨sa,sb,RP,rfl,RQ,XI,XJ⟩:=qA
    ac_rfl
    left
    refine ck _ _ (.inr (bJ.of RQ)) rfl ?_
    left
    refine bx _ XI (λan Nx=>?_)
    have s1:=av.new (.lst (ns.map V.int)) Nx
    left
    refine ck _ _ (.inr (bJ.of (s1 _ _ RQ))) rfl ?_
    left
    have Ny:aP K (upd H an (.lst (ns.map V.int))) RP (row.map V.int)\/bJ K (upd H an (.lst (ns.map V.int))) RP (row.map V.int):=XJ.elim (λz=>.inl (s1.seq z)) (λz=>.inr (s1.OK z))
    refine bx _ Ny (λar BU=>?_)
    have s2:=av.new (.lst (row.map V.int)) BU
    left
    refine⟨Nat.zero_le _,λfz oM=>?_⟩
    have s3:=av.new (.lst []) oM
    left
    refine⟨Nat.zero_le _,λaw mi=>?_⟩
    have s4:=av.new (.lst []) mi
    left
    have XM:ar≠an:=λz=>by subst z;rw[af] at BU;cases BU
    have XN:H ar=none:=s1.free BU
    have XO:H fz=none:=(s1.trans s2).free oM
    have XQ:H aw=none:=(s1.trans (s2.trans s3)).free mi
    have XR:fz≠an:=λz=>by subst z;rw[s2 _ _ af] at oM;cases oM
    have XS:fz≠ar:=λz=>by subst z;rw[af] at oM;cases oM
    have XT:aw≠an:=λz=>by subst z;rw[s3 _ _ (s2 _ _ af)] at mi;cases mi
    have XU:aw≠ar:=λz=>by subst z;rw[s3 _ _ af] at mi;cases mi
    have XW:aw≠fz:=λz=>by subst z;rw[af] at mi;cases mi
    have E2:=s1.trans (s2.trans (s3.trans s4))
    have pZ:0 < M:=by omega
    refine EY (Nv H m (.ref sa) way said M ds ns row) (muW ds.length) ?_ ?_ ?_
    · refine⟨an,ar,fz,aw,[],none,none,0,⟨ns,row,[],[]⟩,ds.length,rfl,E2,Nx,XN,XO,XQ,Ne.symm XM,Ne.symm XR,Ne.symm XT,Ne.symm XS,Ne.symm XU,Ne.symm XW,s4 _ _ (s3 _ _ (s2 _ _ af)),s4 _ _ (s3 _ _ af),s4 _ _ af,⟨rfl,λi z p e=>by simp at e⟩,af,rfl,hb,nu,Nat.le_refl _,Nat.le_refl _,rfl,Nat.le_refl _⟩
    · intro σ H1 iV
      nofun
      obtain⟨an,ar,fz,aw,zs,z9,Nw,at_,s,f,rfl,sH,a1,a2,a3,a4,n1,n2,n3,n4,n5,n6,e1,e2,e3,Jj,e5,qo,pX,mx,Jk,XX,iK,yJ⟩:=iV
      ac_rfl
      have Jl:=sH _ _ IS
      have RT:=sH _ _ RO
      have XY:=sF.aI sH.aQ
      left
      refine eQ Jl T.cP T.Kp Rz ?_
      left
      refine bx _ (.inr ⟨_,bJ.of RT,rfl⟩) ?_
      by_cases kf:at_ < ds.length
      · have RU:at_ < xs.length:=by rw[sF.1];exact kf
        left
        rw[if_pos (by simpa using RU)]
        refine⟨λσ' H'=>Nv H m (.ref sa) way said M ds ns row σ' H'/\muW ds.length σ' < ds.length - at_,λσ' H' h=>h,?_⟩
        have rX:=bf ds[at_] (List.getElem_mem kf)
        have hx:=XY.2 at_ xs[at_] ds[at_] (cA RU) (cA kf)
        have OY:ds.drop at_=ds[at_]::ds.drop (at_ + 1):=List.drop_eq_getElem_cons kf
        nofun
        generalize hdd:ds[at_]=d at rX hx OY
        generalize XZ:xs[at_]=x at hx
        have exx:xs[at_]?=some x:=by rw[cA RU,XZ]
        obtain⟨f',rfl⟩:∃f',f=f' + 1:=⟨f - 1,by rw[OY] at yJ;simp at yJ;omega⟩
        rw[OY] at iK yJ
        replace iK:vY M way said f' ((ds.drop (at_ + 1)).drop (lM M way said d s).toNat) (fJ M way said d s)=nk M way said ds ns row:=iK
        ac_rfl
        rw[List.drop_drop] at iK
        left
        refine eQ Jl T.cP T.Kp Rz ?_
        left
        refine ck _ x (.inr (bJ.of RT)) (ax exx) ?_
        left
        refine bF ?_
        left
        refine⟨x,3,d,rfl,hx,λl zv k0 H2 s2 Nz hl Hd=>?_⟩
        refine .inl ⟨⟨_,aP.of hl⟩,λD hD=>?_⟩
        have He:=Hd.len
        have sh:=wQ (d:=d)
        refine aZ (J:=qB K l) (n:=zv.length) (λi ys H'=>ys=((d.vals.take i).map (fG M way said s.ns s.row)).map V.int/\av H2 H') (Nat.le_of_lt (aH (by omega))) ⟨rfl,av.new _ hD⟩ ?_ ?_ ?_ ?_
        · rintro i ys H' hi ⟨_,s3⟩
          exact⟨_,zv[i],aP.of (s3 _ _ hl),cA hi⟩
        · rintro ys H' ⟨_,s3⟩
          exact⟨_,aP.of (s3 _ _ hl),Nat.le_refl _⟩
        · intro i ys H3 hi bE wG iW y H4 mf
          nofun
          obtain⟨rfl,s3⟩:=iW
          obtain⟨rfl,hy⟩:=mf
          have ey:=hy _ (aP.of (s3 _ _ hl))
          obtain⟨v,ev,hv⟩:=Hd.get ey
          ac_rfl
          have iY:=nz rX v (List.mem_of_getElem? ev)
          walk_at "xf"
          left
          rw[if_pos trivial]
          refine⟨cM,λp hp=>?_⟩
          have s4:=av.new (.tup [.ref an,.ref ar]) hp
          have E3:=s2.trans (s3.trans s4)
          refine eQ (E3 _ _ Jl) T.cP T.Ko Ry ?_
          refine⟨y,.ref p,way,said,M,v,s.ns,s.row,k0,rfl,(hv.aI (s3.trans s4).aQ),⟨p,an,ar,rfl,af,.inl (aP.of (E3 _ _ e1)),.inl (aP.of (E3 _ _ e2))⟩,by rw[qo];exact iY,pZ,?_⟩
          refine bP (s4 _ _ bE) wG hi (Nat.le_of_lt (aH (by omega))) ⟨?_,λb o e=>?_⟩
          · rw[List.take_add_one,ev]
            simp[fG]
          · rw[ay (aq e hD)]
            exact s4 _ _ (s3 _ _ e)
        rintro ys H3 bE wG ⟨rfl,s3⟩
        rw[He,List.take_length] at bE
        have rY:=s2.trans s3
        have BV:H1 D=none:=s2.free hD
        generalize oI:d.vals.map (fG M way said s.ns s.row)=ws at bE
        have fQ:ws.length=d.vals.length:=by rw[<-oI];simp
        have ua:0<=ws.getD 0 0/\ws.getD 0 0 < M:=by rw[<-oI];exact tZ pZ
        have E4:fJ M way said d s=⟨de M s.ns (ws.getD 0 0) d,fH s.row (ws.getD 0 0) d,s.cq++bD (ws.getD 0 0) d,s.words++aX (ws.getD 0 0) d⟩:=by rw[<-oI];rfl
        have E5:lM M way said d s=fI (ws.getD 0 0) (ws.getD 1 0) d:=by rw[<-oI];rfl
        rw[E4,E5] at iK
        have Hf:∀{b:Addr} {o:HO},H1 b=some o->b≠D:=λe=>aq e BV
        left
        refine eQ (rY _ _ Jl) T.cP T.Ko Ry ?_
        refine⟨an,x,D,s.ns,ws,M,3,d,rfl,rY _ _ e1,hx.aI rY.aQ,bE,fQ,by rw[qo];exact rX,pZ,oF,pX,λH4 e14 k4=>?_⟩
        have t4:bQ H3 H4:=λb ys e=>k4 b _ (λz=>by subst z;rw[rY _ _ e1] at e;cases e) e
        left
        refine⟨ar,x,D,s.row,ws,3,d,rfl,k4 _ _ (Ne.symm n1) (rY _ _ e2),hx.aI (rY.aQ.trans t4),k4 _ _ (Ne.symm (Hf e1)) bE,fQ,mx,λH5 Hg k5=>?_⟩
        have t5:bQ H4 H5:=λb ys e=>k5 b _ (λz=>by subst z;rw[k4 _ _ (Ne.symm n1) (rY _ _ e2)] at e;cases e) e
        have t15:bQ H1 H5:=rY.aQ.trans (t4.trans t5)
        have kk:∀b o,b≠an->b≠ar->H1 b=some o->H5 b=some o:=λb o ne1 ne2 e=>k5 b o ne2 (k4 b o ne1 (rY _ _ e))
        have Kz:=k5 _ _ n1 e14
        have E6:=kk _ _ (Ne.symm n2) (Ne.symm n4) e3
        have Hh:=kk _ _ (Ne.symm n3) (Ne.symm n5) e5
        have tS:H5 D=some (.lst (ws.map V.int)):=k5 _ _ (Ne.symm (Hf e2)) (k4 _ _ (Ne.symm (Hf e1)) bE)
        have wR:=Jj.aI t15
        have Cp:av H H5:=λb o e=>kk b o (aq e a1) (aq e a2) (sH _ _ e)
        have rm:=hx.aI t15
        have gS:=EZ (w:=ws.getD 0 0) (w':=ws.getD 1 0) rX
        cases d with
        | set i v=>
          nofun
          obtain⟨a,u1,u2,u3,k0,rfl,ha,g1,g2,g3⟩:=b4 rm
          obtain rfl:=g1.bM
          obtain rfl:=g2.bS
          ac_rfl
          walk_at "jg"
          refine⟨.ref a,D,ws,_,_,rfl,rm,tS,fQ,?_⟩
          left
          refine ck _ _ rfl rfl ?_
          refine⟨⟨an,ar,fz,aw,_,some (.ref a),some (.ref D),at_ + 1 + (fI (ws.getD 0 0) (ws.getD 1 0) (.set i v)).toNat,⟨de M s.ns (ws.getD 0 0) (.set i v),fH s.row (ws.getD 0 0) (.set i v),s.cq++bD (ws.getD 0 0) (.set i v),s.words++aX (ws.getD 0 0) (.set i v)⟩,f',?_,Cp,a1,a2,a3,a4,n1,n2,n3,n4,n5,n6,Kz,Hg,E6,(by simpa[bD] using wR),(by simpa[aX] using Hh),by rw[bZ];exact qo,dD (d:=(.set i v)) pZ pX ua,kD (w:=ws.getD 0 0) (d:=(.set i v)) mx,(by simp[bD];omega),(by simp[aX];omega),iK,?_⟩,?_⟩
          · first | rfl | rw[Kw gS]
          · exact Kx yJ
          · exact Ky (by assumption) gS
        | add i v=>
          nofun
          obtain⟨a,u1,u2,u3,k0,rfl,ha,g1,g2,g3⟩:=b4 rm
          obtain rfl:=g1.bM
          obtain rfl:=g2.bS
          ac_rfl
          walk_at "jg"
          refine⟨.ref a,D,ws,_,_,rfl,rm,tS,fQ,?_⟩
          left
          refine ck _ _ rfl rfl ?_
          refine⟨⟨an,ar,fz,aw,_,some (.ref a),some (.ref D),at_ + 1 + (fI (ws.getD 0 0) (ws.getD 1 0) (.add i v)).toNat,⟨de M s.ns (ws.getD 0 0) (.add i v),fH s.row (ws.getD 0 0) (.add i v),s.cq++bD (ws.getD 0 0) (.add i v),s.words++aX (ws.getD 0 0) (.add i v)⟩,f',?_,Cp,a1,a2,a3,a4,n1,n2,n3,n4,n5,n6,Kz,Hg,E6,(by simpa[bD] using wR),(by simpa[aX] using Hh),by rw[bZ];exact qo,dD (d:=(.add i v)) pZ pX ua,kD (w:=ws.getD 0 0) (d:=(.add i v)) mx,(by simp[bD];omega),(by simp[aX];omega),iK,?_⟩,?_⟩
          · first | rfl | rw[Kw gS]
          · exact Kx yJ
          · exact Ky (by assumption) gS
        | times i v=>
          nofun
          obtain⟨a,u1,u2,u3,k0,rfl,ha,g1,g2,g3⟩:=b4 rm
          obtain rfl:=g1.bM
          obtain rfl:=g2.bS
          ac_rfl
          walk_at "jg"
          refine⟨.ref a,D,ws,_,_,rfl,rm,tS,fQ,?_⟩
          left
          refine ck _ _ rfl rfl ?_
          refine⟨⟨an,ar,fz,aw,_,some (.ref a),some (.ref D),at_ + 1 + (fI (ws.getD 0 0) (ws.getD 1 0) (.times i v)).toNat,⟨de M s.ns (ws.getD 0 0) (.times i v),fH s.row (ws.getD 0 0) (.times i v),s.cq++bD (ws.getD 0 0) (.times i v),s.words++aX (ws.getD 0 0) (.times i v)⟩,f',?_,Cp,a1,a2,a3,a4,n1,n2,n3,n4,n5,n6,Kz,Hg,E6,(by simpa[bD] using wR),(by simpa[aX] using Hh),by rw[bZ];exact qo,dD (d:=(.times i v)) pZ pX ua,kD (w:=ws.getD 0 0) (d:=(.times i v)) mx,(by simp[bD];omega),(by simp[aX];omega),iK,?_⟩,?_⟩
          · first | rfl | rw[Kw gS]
          · exact Kx yJ
          · exact Ky (by assumption) gS
        | put v=>
          nofun
          obtain⟨a,u1,u2,k0,rfl,ha,g1,g2⟩:=cy rm
          obtain rfl:=g1.bM
          ac_rfl
          walk_at "jg"
          refine⟨.ref a,D,ws,_,_,rfl,rm,tS,fQ,?_⟩
          left
          refine ck _ _ rfl rfl ?_
          refine⟨⟨an,ar,fz,aw,_,some (.ref a),some (.ref D),at_ + 1 + (fI (ws.getD 0 0) (ws.getD 1 0) (.put v)).toNat,⟨de M s.ns (ws.getD 0 0) (.put v),fH s.row (ws.getD 0 0) (.put v),s.cq++bD (ws.getD 0 0) (.put v),s.words++aX (ws.getD 0 0) (.put v)⟩,f',?_,Cp,a1,a2,a3,a4,n1,n2,n3,n4,n5,n6,Kz,Hg,E6,(by simpa[bD] using wR),(by simpa[aX] using Hh),by rw[bZ];exact qo,dD (d:=(.put v)) pZ pX ua,kD (w:=ws.getD 0 0) (d:=(.put v)) mx,(by simp[bD];omega),(by simp[aX];omega),iK,?_⟩,?_⟩
          · first | rfl | rw[Kw gS]
          · exact Kx yJ
          · exact Ky (by assumption) gS
        | drop=>
          nofun
          obtain⟨a,u1,k0,rfl,ha,g1⟩:=fY rm
          obtain rfl:=g1.bM
          ac_rfl
          walk_at "jg"
          refine⟨.ref a,D,ws,_,_,rfl,rm,tS,fQ,?_⟩
          left
          refine ck _ _ rfl rfl ?_
          refine⟨⟨an,ar,fz,aw,_,some (.ref a),some (.ref D),at_ + 1 + (fI (ws.getD 0 0) (ws.getD 1 0) .drop).toNat,⟨de M s.ns (ws.getD 0 0) .drop,fH s.row (ws.getD 0 0) .drop,s.cq++bD (ws.getD 0 0) .drop,s.words++aX (ws.getD 0 0) .drop⟩,f',?_,Cp,a1,a2,a3,a4,n1,n2,n3,n4,n5,n6,Kz,Hg,E6,(by simpa[bD] using wR),(by simpa[aX] using Hh),by rw[bZ];exact qo,dD (d:=.drop) pZ pX ua,kD (w:=ws.getD 0 0) (d:=.drop) mx,(by simp[bD];omega),(by simp[aX];omega),iK,?_⟩,?_⟩
          · first | rfl | rw[Kw gS]
          · exact Kx yJ
          · exact Ky (by assumption) gS
        | send j v=>
          nofun
          obtain⟨a,u1,u2,u3,k0,rfl,ha,g1,g2,g3⟩:=b4 rm
          obtain rfl:=g1.bM
          obtain rfl:=g2.bS
          obtain⟨w0,rfl⟩:=pY fQ
          ac_rfl
          walk_at "jg"
          refine⟨.inl ⟨rfl,_,aP.of E6⟩,?_⟩
          walk_at "jg"
          refine⟨cM,λtp Cq=>?_⟩
          have s6:=av.new (.tup [.int j,.int w0]) Cq
          refine gc _ (s6 _ _ E6) (Nat.lt_of_le_of_lt (by have:=Jj.1;omega) (aH (n:=100) (by omega))) ?_
          have htn:tp≠fz:=λz=>by subst z;rw[E6] at Cq;cases Cq
          have t6:bQ (upd H5 tp (.tup [.int j,.int w0])) (upd (upd H5 tp (.tup [.int j,.int w0])) fz (.lst (zs++[.ref tp]))):=(bQ.refl _).upd λys e=>by rw[s6 _ _ E6] at e;cases e
          have q6:∀b o,b≠fz->H5 b=some o->upd (upd H5 tp (.tup [.int j,.int w0])) fz (.lst (zs++[.ref tp])) b=some o:=λb o ne e=>by rw[ay ne];exact s6 _ _ e
          walk_at "jg"
          refine⟨.ref a,D,[w0],_,_,rfl,(rm.aI (s6.aQ.trans t6)),(q6 _ _ (Ne.symm (Hf e3)) tS),fQ,?_⟩
          left
          refine ck _ _ rfl rfl ?_
          refine⟨⟨an,ar,fz,aw,_,some (.ref a),some (.ref D),at_ + 1 + (fI (([w0]:List Int).getD 0 0) (([w0]:List Int).getD 1 0) (.send j v)).toNat,⟨de M s.ns (([w0]:List Int).getD 0 0) (.send j v),fH s.row (([w0]:List Int).getD 0 0) (.send j v),s.cq++bD (([w0]:List Int).getD 0 0) (.send j v),s.words++aX (([w0]:List Int).getD 0 0) (.send j v)⟩,f',?_,(λb o e=>q6 b o (aq e a3) (Cp _ _ e)),a1,a2,a3,a4,n1,n2,n3,n4,n5,n6,(q6 _ _ n2 Kz),(q6 _ _ n4 Hg),af,((wR.aI (s6.aQ.trans t6)).snoc (dw (n:=0) (by rw[ay htn];exact af) (.int _) (.int _))),(by simpa[aX] using q6 _ _ (Ne.symm n6) Hh),by rw[bZ];exact qo,dD (d:=(.send j v)) pZ pX ua,kD (w:=([w0]:List Int).getD 0 0) (d:=(.send j v)) mx,(by simp[bD];omega),(by simp[aX];omega),iK,?_⟩,?_⟩
          · first | rfl | rw[Kw gS]
          · exact Kx yJ
          · exact Ky (by assumption) gS
        | say v=>
          nofun
          obtain⟨a,u1,u2,k0,rfl,ha,g1,g2⟩:=cy rm
          obtain rfl:=g1.bM
          obtain⟨w0,rfl⟩:=pY fQ
          ac_rfl
          walk_at "jg"
          refine⟨.inl ⟨rfl,_,aP.of Hh⟩,?_⟩
          walk_at "jg"
          refine gc _ Hh (Nat.lt_of_le_of_lt (by simp;omega) (aH (n:=100) (by omega))) ?_
          have t6:bQ H5 (upd H5 aw (.lst (s.words.map V.int++[.int w0]))):=(bQ.refl _).upd λys e=>by rw[Hh] at e;cases e
          have q6:∀b o,b≠aw->H5 b=some o->upd H5 aw (.lst (s.words.map V.int++[.int w0])) b=some o:=λb o ne e=>by rw[ay ne];exact e
          walk_at "jg"
          refine⟨.ref a,D,[w0],_,_,rfl,(rm.aI t6),(q6 _ _ (Ne.symm (Hf e5)) tS),fQ,?_⟩
          left
          refine ck _ _ rfl rfl ?_
          refine⟨⟨an,ar,fz,aw,_,some (.ref a),some (.ref D),at_ + 1 + (fI (([w0]:List Int).getD 0 0) (([w0]:List Int).getD 1 0) (.say v)).toNat,⟨de M s.ns (([w0]:List Int).getD 0 0) (.say v),fH s.row (([w0]:List Int).getD 0 0) (.say v),s.cq++bD (([w0]:List Int).getD 0 0) (.say v),s.words++aX (([w0]:List Int).getD 0 0) (.say v)⟩,f',?_,(λb o e=>q6 b o (aq e a4) (Cp _ _ e)),a1,a2,a3,a4,n1,n2,n3,n4,n5,n6,(q6 _ _ n3 Kz),(q6 _ _ n5 Hg),(q6 _ _ n6 E6),(by simpa[bD] using wR.aI t6),(by rw[af];simp[aX]),by rw[bZ];exact qo,dD (d:=(.say v)) pZ pX ua,kD (w:=([w0]:List Int).getD 0 0) (d:=(.say v)) mx,(by simp[bD];omega),(by simp[aX];omega),iK,?_⟩,?_⟩
          · first | rfl | rw[Kw gS]
          · exact Kx yJ
          · exact Ky (by assumption) gS
        | skip v w2 kk=>
          nofun
          obtain⟨a,u1,u2,u3,u4,k0,rfl,ha,g1,g2,g3,g4⟩:=jL rm
          obtain rfl:=g1.bM
          obtain rfl:=g4.bS
          ac_rfl
          walk_at "jg"
          refine⟨.ref a,D,ws,_,_,rfl,rm,tS,fQ,?_⟩
          left
          refine ck _ _ rfl rfl ?_
          refine⟨⟨an,ar,fz,aw,_,some (.ref a),some (.ref D),at_ + 1 + (fI (ws.getD 0 0) (ws.getD 1 0) (.skip v w2 kk)).toNat,⟨de M s.ns (ws.getD 0 0) (.skip v w2 kk),fH s.row (ws.getD 0 0) (.skip v w2 kk),s.cq++bD (ws.getD 0 0) (.skip v w2 kk),s.words++aX (ws.getD 0 0) (.skip v w2 kk)⟩,f',?_,Cp,a1,a2,a3,a4,n1,n2,n3,n4,n5,n6,Kz,Hg,E6,(by simpa[bD] using wR),(by simpa[aX] using Hh),by rw[bZ];exact qo,dD (d:=(.skip v w2 kk)) pZ pX ua,kD (w:=ws.getD 0 0) (d:=(.skip v w2 kk)) mx,(by simp[bD];omega),(by simp[aX];omega),iK,?_⟩,?_⟩
          · first | rfl | rw[Kw gS]
          · exact Kx yJ
          · exact Ky (by assumption) gS
      · have RU:¬at_ < xs.length:=by rw[sF.1];exact kf
        left
        rw[if_neg (by simpa using RU)]
        rw[List.drop_eq_nil_of_le (by omega),zY] at iK
        left
        refine .inl ⟨_,aP.of e1,λt1 sE=>?_⟩
        have r1:=av.new (.tup (s.ns.map V.int)) sE
        left
        refine .inl ⟨_,aP.of (r1 _ _ e2),λt2 kr=>?_⟩
        have r2:=av.new (.tup (s.row.map V.int)) kr
        left
        refine⟨cM,λt3 uX=>?_⟩
        have r3:=av.new (.tup [.ref t1,.ref t2]) uX
        left
        refine⟨by show 3<=sizeLine;decide,λt4 yE=>?_⟩
        have r4:=av.new (.tup [.ref t3,.ref fz,.ref aw]) yE
        have BW:=r1.trans (r2.trans (r3.trans r4))
        refine q _ _ (sH.trans BW) ⟨_,_,fz,aw,zs,rfl,af,?_,BW _ _ e3,?_,?_,a3,a4,n6⟩
        · rw[<-iK]
          exact(dw af (nj (r3 _ _ (r2 _ _ af))) (nj (r3 _ _ af))).aI r4.aQ
        · rw[<-iK]
          exact Jj.aI BW.aQ
        · rw[<-iK]
          exact BW _ _ e5
    · intro σ H1 Q Q' hq hc
      nofun
      obtain⟨x,h1,x0,h0,a,C',Cm,fs,v,h2,h3,h4,h5,h6,n,h7,h8⟩:=hc
      ac_rfl
      refine⟨x,h1,x0,h0,a,C',Cm,fs,v,h2,h3,h4,h5,h6,n,h7,?_⟩
      cases x <;> first
        | exact(show False from h8).elim
        | (obtain⟨k',h9,IY⟩:=h8
           exact⟨k',h9,hq _ _ IY⟩)
abbrev kF:Stmt:=top 54
inductive E8 (vs:List V)(H:Hp)(Q:VK):Prop
 | mk (x:V) (st an ar:Addr) (way said M:Int) (v:Val) (ns row:List Int) (n:Nat) (h0:vs=[x,.ref st,.int way,.int said,.int M]) (h1:HT H n x (Val.dv v)) (h2:H st=some (.tup [.ref an,.ref ar])) (h3:H an=some (.lst (ns.map V.int))) (h4:H ar=some (.lst (row.map V.int))) (h5:v.ok ns.length) (h6:0 < M) (h7:row.length<=12) (h8:∀H',av H H'->Q (.int (fG M way said ns row v)) H'):E8 vs H Q
def Av:Sp:=λvs H Q _=>E8 vs H Q
theorem wU (D:dH K mg "_law_worth" "_law_worth" kF ["_law_value_here","_law_state","_law_way","_law_said","_law_modulus"])(T:Tx K mg C CN CR F FD):Def P w K mg base "_law_worth" 1 ["_law_value_here","_law_state","_law_way","_law_said","_law_modulus"] Av:=by
 have sc:aD ["_law_value_here","_law_state","_law_way","_law_said","_law_modulus","_law_worth_here"] ["_law_value_here","_law_state","_law_way","_law_said","_law_modulus"] (az kF):=by walk_at "s"
 symm
 ·obtain⟨x,st,an,ar,way,said,M,v,ns,row,n,rfl,hx,qA,Nx,BU,bf,hM,nu,q⟩:=h
  rfl
 ·nofun
  obtain⟨x,st,an,ar,way,said,M,v,ns,row,n,rfl,hx,qA,Nx,BU,bf,hM,nu,q⟩:=h
  ac_rfl
  have hu:=hr.units
  refine⟨_,(aj (ba (i:=5) sc.nd rfl (by grind) (au 2))
   (aj (aS (aA (aV hu) (ak hu (au 0) ag) aB (aC _)) (ao (ba (i:=5) sc.nd rfl (by grind) (ak hu (au 0) ag))) aG)
   (aj (aS (aA (aV hu) (ak hu (au 0) ag) aB (aC _)) (ao (ba (i:=5) sc.nd rfl (by grind) (ak hu (ak hu (au 1) ag) (ak hu (au 0) ag)))) aG)
   (aj (aS (aA (aV hu) (ak hu (au 0) ag) aB (aC _)) (ao (ba (i:=5) sc.nd rfl (by grind) (au 3))) aG)
   (aj (aS (aA (aV hu) (ak hu (au 0) ag) aB (aC _)) (ao (ba (i:=5) sc.nd rfl (by grind) (ak hu (aY da (cW (N':=["_law_k","_law_state"]) (ix:=[none,some 1]) (cY rfl T.eF (ai (aT aM rfl T.cm PySem.boot_len (ai (ak hu (au 1) ag) aa)) aa)) (λ_ _ _ _=>(aU (i:=0) (show(["_law_k","_law_state"]:List Str).Nodup by decide +kernel) rfl (by grind))) lC (λ_ _ _ _=>(dC (K:=K) rfl hu (dC (K:=K) rfl hu (au 1) ag) (au 0)))) (bN (ai ag aa))) ag))) aG)
   (ao (aE (aY dj (au 5) (au 4))))))))),?_⟩
  left
  cases v with
  | is z=>
   nofun
   obtain⟨px,w1,w2,k',rfl,hp,i1,i2⟩:=cy hx
   obtain rfl:=i1.bM
   obtain rfl:=i2.bS
   ac_rfl
   walk_at "jg"
   exact⟨hM,q H (av.refl H)⟩
  | number i=>
   nofun
   obtain⟨px,w1,w2,k',rfl,hp,i1,i2⟩:=cy hx
   obtain rfl:=i1.bM
   obtain rfl:=i2.bS
   obtain⟨BS,OW⟩:=bf
   obtain⟨j,rfl⟩:=Int.eq_ofNat_of_zero_le BS
   ac_rfl
   have hj:j < ns.length:=by omega
   have OX:gB (ns.map V.int) (j:Int)=some (.int ns[j]):=ax (by rw[List.getElem?_map,cA hj];rfl)
   walk_at "jg"
   have qq:=q H (av.refl H)
   have e1:fG M way said ns row (.number j)=ns[j] % M:=by
    show ns.getD (j:Int).toNat 0 % M=_
    simp[List.getD_eq_getElem?_getD,cA hj]
   rw[e1] at qq
   exact⟨hM,qq⟩
  | first=>
   nofun
   obtain⟨px,w1,k',rfl,hp,i1⟩:=fY hx
   obtain rfl:=i1.bM
   ac_rfl
   walk_at "jg"
   skip
   walk_at "jg"
   refine bx _ (.inl ⟨_,aP.of BU,rfl⟩) ?_
   left
   have mx:(row.map V.int).length=row.length:=by simp
   rw[mx]
   refine gK (by omega) (by omega) (λD hD=>?_)
   refine aZ (J:=xP 0 row.length) (n:=row.length) (λi ys H'=>ys=(row.take i).map V.int/\av H H') (Nat.le_of_lt (aH (by omega))) ⟨rfl,av.new _ hD⟩ (λi ys H' hi _=>hi) (λys H' _=>Nat.le_refl _) ?_ ?_
   ·intro i ys H' hi bE hl iV x H2 iW
    nofun
    obtain⟨rfl,s1⟩:=iV
    obtain⟨rfl,rfl⟩:=iW
    ac_rfl
    walk_at "xf"
    have RV:=s1 _ _ qA
    have X0:=s1 _ _ BU
    walk_at "jg"
    try rw[if_pos trivial]
    refine bu X0 (show gB (row.map V.int) (0 + (i:Int))=some (.int row[i]) from by rw[Int.zero_add];exact ax (by rw[List.getElem?_map,cA hi];rfl)) ?_
    refine bP bE hl hi (Nat.le_of_lt (aH (by omega))) ⟨?_,λb o e=>by rw[ay (aq e hD)];exact s1 _ _ e⟩
    rw[List.take_succ,cA hi,List.map_append];rfl
   rintro ys H1 bE hl ⟨rfl,s1⟩
   rw[List.take_length] at bE
   walk_at "jg"
   refine⟨by decide,λl hl=>?_⟩
   have s2:=av.new (.lst [.int 0]) hl
   walk_at "jg"
   refine .inl ⟨_,_,s2 _ _ bE,af,Nat.le_of_lt (aH (by simp;omega)),λl2 yg=>?_⟩
   have s3:=av.new (.lst (row.map V.int++[.int 0])) yg
   have e1:gB (row.map V.int++[.int 0]) 0=some (.int (qS ns row way said .first)):=by
    cases row with
    | nil=>exact ax (j:=0) rfl
    | cons r rs=>exact ax (j:=0) rfl
   left
   refine bu af e1 ?_
   walk_at "jg"
   exact⟨hM,q _ (s1.trans (s2.trans s3))⟩
  | lX=>
   nofun
   obtain⟨px,w1,k',rfl,hp,i1⟩:=fY hx
   obtain rfl:=i1.bM
   ac_rfl
   walk_at "jg"
   exact⟨hM,q _ (av.refl H)⟩
  | way=>
   nofun
   obtain⟨px,w1,k',rfl,hp,i1⟩:=fY hx
   obtain rfl:=i1.bM
   ac_rfl
   walk_at "jg"
   exact⟨hM,q _ (av.refl H)⟩
abbrev E9:Stmt:=(bW (top 45)).getD 0 (.Pass ⟨0,0,0,0⟩)
def Jm (a b c:V):List (Str×V):=bo "own_letters" c (bo "own_ways" b (bo "own_machines" a []))
theorem RW {a b c:V}:(Jm a b c).lookup ("own_machines":Str)=some a:=by
 unfold Jm
 rw[bt,if_neg (by decide +kernel),bt,if_neg (by decide +kernel),bt,if_pos rfl]
theorem RX {a b c:V}:(Jm a b c).lookup ("own_ways":Str)=some b:=by
 unfold Jm
 rw[bt,if_neg (by decide +kernel),bt,if_pos rfl]
theorem X1 {a b c:V}:(Jm a b c).lookup ("own_letters":Str)=some c:=by
 unfold Jm
 rw[bt,if_pos rfl]
theorem eG {a b c:V}(h1:f≠"own_machines")(h2:f≠"own_ways")(h3:f≠"own_letters"):(Jm a b c).lookup f=none:=by
 unfold Jm
 rw[bt,if_neg h3,bt,if_neg h2,bt,if_neg h1]
 rfl
def oO (CN:Addr)(H:Hp)(x:Addr)(ms:List Addr)(wv lv:List V):Prop:=∃dx a b c,H x=some (.ins CN dx (Jm (.ref a) (.ref b) (.ref c)))/\H a=some (.tup (ms.map V.ref))/\H b=some (.tup wv)/\H c=some (.tup lv)
theorem oO.same{CN:Addr}{x:Addr}{ms:List Addr}{wv lv:List V}(s:av H H')(h:oO CN H x ms wv lv):oO CN H' x ms wv lv:=by
 obtain⟨dx,a,b,c,h1,h2,h3,h4⟩:=h
 exact⟨dx,a,b,c,s _ _ h1,s _ _ h2,s _ _ h3,s _ _ h4⟩
def wV (C CN:Addr):Sp:=λvs H Q _=>∃(x dx am aw al:Addr) (ms:List Addr) (wv lv:List V) (ws:List (Int×Int×Str)) (ls:List (Int×Int)),vs=[.ref x,.ref am,.ref aw,.ref al]/\H x=some (.ins CN dx [])/\H am=some (.lst (ms.map V.ref))/\H aw=some (.lst wv)/\H al=some (.lst lv)/\1<=ms.length/\ms.length<=5/\wv.length<=10/\lv.length<=20/\(∀m ∈ ms,∃dx fs,H m=some (.ins C dx fs))/\gh H 1 wv (ws.map ku)/\gh H 1 lv (ls.map mh)/\(∀w ∈ ws,tU ms.length w)/\(∀l ∈ ls,tW wv.length l)/\∀H',oO CN H' x ms wv lv->(∀b o,b≠x->H b=some o->H' b=some o)->Q .bR H'
theorem RY (D:Bw K mg "Net" CN "Net.__init__" E9 ["self","machines","ways","letters"])(T:Tx K mg C CN CR F FD)(jU:Def P w K mg base "refuse_net" 4 ["machines","ways","letters"] (An C)):vV P w K mg base "Net" CN 7 ["self","machines","ways","letters"] (wV C CN):=by
 have sc:aD ["self","machines","ways","letters"] ["self","machines","ways","letters"] (az E9):=by walk_at "s"
 symm
 ·obtain⟨x,dx,am,aw,al,ms,wv,lv,ws,ls,rfl,hx,Ha,mi,Cn,IS,EO,sG,uZ,RB,oI,Nl,IT,tH,q⟩:=h
  rfl
 ·nofun
  obtain⟨x,dx,am,aw,al,ms,wv,lv,ws,ls,rfl,hx,Ha,mi,Cn,IS,EO,sG,uZ,RB,oI,Nl,IT,tH,q⟩:=h
  ac_rfl
  have hu:=hr.units
  refine⟨_,(aj (bY (aN jU hr (ai (au 1) (ai (au 2) (ai (au 3) aa)))))
   (aj (fB (au 0) (dB cL rfl T.cu qe (ai (au 1) aa)) (gy rfl))
   (aj (fB (au 0) (dB cL rfl T.cu qe (ai (au 2) aa)) (gy rfl))
   (ao (fB (au 0) (dB cL rfl T.cu qe (ai (au 3) aa)) (gy rfl)))))),?_⟩
  try walk_at "rt"
  refine⟨am,aw,al,ms,wv,lv,ws,ls,rfl,Ha,mi,Cn,IS,EO,sG,uZ,RB,oI,Nl,IT,tH,λH1 s1=>?_⟩
  have qi:=s1 _ _ hx
  have nam:am≠x:=λz=>by subst z;rw[hx] at Ha;cases Ha
  have RZ:aw≠x:=λz=>by subst z;rw[hx] at mi;cases mi
  have NA:al≠x:=λz=>by subst z;rw[hx] at Cn;cases Cn
  try walk_at "rt"
  refine jA (.inl (s1 _ _ Ha)) λt1 H2 s2 sE=>?_
  try walk_at "rt"
  have G8:=s1.trans s2
  have BN:=G8 _ _ hx
  refine⟨x,CN,dx,[],rfl,BN,T.df,T.we,by decide,?_⟩
  have n1:t1≠x:=λz=>by subst z;rw[BN] at sE;cases sE
  have k3:∀b o,b≠x->H2 b=some o->upd H2 x (.ins CN dx (bo "own_machines" (.ref t1) [])) b=some o:=λb o ne e=>by rw[ay ne];exact e
  have yK:upd H2 x (.ins CN dx (bo "own_machines" (.ref t1) [])) x=some (.ins CN dx (bo "own_machines" (.ref t1) [])):=af
  generalize OZ:upd H2 x (.ins CN dx (bo "own_machines" (.ref t1) []))=G3 at *
  have X2:=k3 _ _ n1 sE
  have BO:=k3 _ _ RZ (G8 _ _ mi)
  have X3:=k3 _ _ NA (G8 _ _ Cn)
  try walk_at "rt"
  refine jA (.inl BO) λt2 H4 s4 kr=>?_
  try walk_at "rt"
  have NB:=s4 _ _ yK
  refine pV x CN dx _ rfl NB T.df T.wg (bX (n:=999) (by decide)) ?_
  have n2:t2≠x:=λz=>by subst z;rw[NB] at kr;cases kr
  have k5:∀b o,b≠x->H4 b=some o->upd H4 x (.ins CN dx (bo "own_ways" (.ref t2) (bo "own_machines" (.ref t1) []))) b=some o:=λb o ne e=>by rw[ay ne];exact e
  have rm:upd H4 x (.ins CN dx (bo "own_ways" (.ref t2) (bo "own_machines" (.ref t1) []))) x=some (.ins CN dx (bo "own_ways" (.ref t2) (bo "own_machines" (.ref t1) []))):=af
  generalize NC:upd H4 x (.ins CN dx (bo "own_ways" (.ref t2) (bo "own_machines" (.ref t1) [])))=G5 at *
  have X4:=k5 _ _ n1 (s4 _ _ X2)
  have X5:=k5 _ _ n2 kr
  have BP:=k5 _ _ NA (s4 _ _ X3)
  try walk_at "rt"
  refine jA (.inl BP) λt3 H6 s6 uX=>?_
  try walk_at "rt"
  have Fb:=s6 _ _ rm
  refine pV x CN dx _ rfl Fb T.df T.yy (bX (n:=999) (bX (n:=998) (by decide))) ?_
  have n3:t3≠x:=λz=>by subst z;rw[Fb] at uX;cases uX
  refine q _ ⟨dx,t1,t2,t3,af,?_,?_,?_⟩ λb o ne e=>?_
  ·rw[ay n1];exact s6 _ _ X4
  ·rw[ay n2];exact s6 _ _ X5
  ·rw[ay n3];exact uX
  ·rw[ay ne];exact s6 _ _ (k5 _ _ ne (s4 _ _ (k3 _ _ ne (G8 _ _ e))))
abbrev ia:Stmt:=(bW (top 45)).getD 1 (.Pass ⟨0,0,0,0⟩)
def jV (CN:Addr):Sp:=λvs H Q _=>∃(x:Addr) (ms:List Addr) (wv lv:List V),vs=[.ref x]/\oO CN H x ms wv lv/\∀l,H l=none->Q (.ref l) (upd H l (.lst (ms.map V.ref)))
theorem rq (D:gD K CN "machines" "Net.machines" ia ["self"])(T:Tx K mg C CN CR F FD):cB P w K mg base CN "machines" 1 ["self"] (jV CN):=by
 have sc:aD ["self"] ["self"] (az ia):=by walk_at "s"
 symm
 ·obtain⟨x,ms,wv,lv,rfl,⟨dx,a,b,cc,h1,h2,h3,h4⟩,q⟩:=h
  rfl
 ·nofun
  obtain⟨x,ms,wv,lv,rfl,⟨dx,a,b,cc,h1,h2,h3,h4⟩,q⟩:=h
  ac_rfl
  have hu:=hr.units
  refine⟨_,(ao (aE (dB cC rfl T.dI um (ai (bI (au 0) rfl) aa)))),?_⟩
  refine fld h1 T.df T.we RW ?_
  right
  exact⟨_,.inr (bJ.of h2),λl hl=>q l hl⟩
abbrev my:Stmt:=(bW (top 45)).getD 2 (.Pass ⟨0,0,0,0⟩)
def nB (CN:Addr):Sp:=λvs H Q _=>∃(x:Addr) (ms:List Addr) (wv lv:List V),vs=[.ref x]/\oO CN H x ms wv lv/\∀l,H l=none->Q (.ref l) (upd H l (.lst wv))
theorem yL (D:gD K CN "ways" "Net.ways" my ["self"])(T:Tx K mg C CN CR F FD):cB P w K mg base CN "ways" 1 ["self"] (nB CN):=by
 have sc:aD ["self"] ["self"] (az my):=by walk_at "s"
 symm
 ·obtain⟨x,ms,wv,lv,rfl,⟨dx,a,b,cc,h1,h2,h3,h4⟩,q⟩:=h
  rfl
 ·nofun
  obtain⟨x,ms,wv,lv,rfl,⟨dx,a,b,cc,h1,h2,h3,h4⟩,q⟩:=h
  ac_rfl
  have hu:=hr.units
  refine⟨_,(ao (aE (dB cC rfl T.dI um (ai (bI (au 0) rfl) aa)))),?_⟩
  refine fld h1 T.df T.wg RX ?_
  right
  exact⟨_,.inr (bJ.of h3),λl hl=>q l hl⟩
abbrev i5:Stmt:=(bW (top 45)).getD 3 (.Pass ⟨0,0,0,0⟩)
def pL (CN:Addr):Sp:=λvs H Q _=>∃(x:Addr) (ms:List Addr) (wv lv:List V),vs=[.ref x]/\oO CN H x ms wv lv/\∀l,H l=none->Q (.ref l) (upd H l (.lst lv))
theorem sM (D:gD K CN "letters" "Net.letters" i5 ["self"])(T:Tx K mg C CN CR F FD):cB P w K mg base CN "letters" 1 ["self"] (pL CN):=by
 have sc:aD ["self"] ["self"] (az i5):=by walk_at "s"
 symm
 ·obtain⟨x,ms,wv,lv,rfl,⟨dx,a,b,cc,h1,h2,h3,h4⟩,q⟩:=h
  rfl
 ·nofun
  obtain⟨x,ms,wv,lv,rfl,⟨dx,a,b,cc,h1,h2,h3,h4⟩,q⟩:=h
  ac_rfl
  have hu:=hr.units
  refine⟨_,(ao (aE (dB cC rfl T.dI um (ai (bI (au 0) rfl) aa)))),?_⟩
  refine fld h1 T.df T.yy X1 ?_
  right
  exact⟨_,.inr (bJ.of h4),λl hl=>q l hl⟩
def KA (M way said:Int):Nat->List bH->WS->WS
 | _,[],s=>s
 | l + 1,_::r,s=>KA M way said l r s
 | 0,d::r,s=>KA M way said (lM M way said d s).toNat r (fJ M way said d s)
theorem u6 {M way said:Int}:∀(ds:List bH) (l:Nat) (s:WS) (f:Nat),ds.length<=f->KA M way said l ds s=vY M way said f (ds.drop l) s
 | [],l,s,f,_=>by rw[List.drop_nil,zY];cases l <;> rfl
 | d::r,l + 1,s,f,h=>by
  show KA M way said l r s=vY M way said f (r.drop l) s
  exact u6 r l s f (by simp at h;omega)
 | d::r,0,s,f,h=>by
  obtain⟨f',rfl⟩:∃f',f=f' + 1:=⟨f - 1,by simp at h;omega⟩
  show KA M way said (lM M way said d s).toNat r (fJ M way said d s)=vY M way said f' (r.drop (lM M way said d s).toNat) (fJ M way said d s)
  exact u6 r _ _ f' (by simp at h;omega)
theorem Fc {M way said:Int}{ds:List bH}:KA M way said 0 ds ⟨ns,row,[],[]⟩=nk M way said ds ns row:=u6 ds 0 _ _ (Nat.le_refl _)
inductive R0 (H:Hp)(mt:Addr)(st:V)(way said M:Int)(ds:List bH)(ns row:List Int)(i:Nat)(σ:St)(H':Hp):Prop
 | mk (an ar fz aw:Addr) (zs:List V) (z9 Nw:Option V) (l:Nat) (s:WS) (h0:σ=[some (.ref mt),some st,some (.int way),some (.int said),some (.ref an),some (.ref ar),some (.ref fz),some (.ref aw),some (.int ((l:Nat):Int)),z9,Nw]) (h1:av H H') (a1:H an=none) (a2:H ar=none) (a3:H fz=none) (a4:H aw=none) (n1:an≠ar) (n2:an≠fz) (n3:an≠aw) (n4:ar≠fz) (n5:ar≠aw) (n6:fz≠aw) (e1:H' an=some (.lst (s.ns.map V.int))) (e2:H' ar=some (.lst (s.row.map V.int))) (e3:H' fz=some (.lst zs)) (Jj:SL H' zs s.cq) (e5:H' aw=some (.lst (s.words.map V.int))) (qo:s.ns.length=ns.length) (pX:∀z ∈ s.ns,0<=z/\z < M) (mx:s.row.length<=12) (Jk:s.cq.length<=i) (XX:s.words.length<=i) (iK:KA M way said l (ds.drop i) s=nk M way said ds ns row):R0 H mt st way said M ds ns row i σ H'
inductive Fd (K:W.Frag)(vs:List V)(H:Hp)(Q:VK):Prop
 | mk (mt ln lr ld:Addr) (st:V) (way said M:Int) (xs:List V) (ds:List bH) (ns row:List Int) (h0:vs=[.ref mt,st,.int way,.int said]) (R1:H mt=some (.tup [.int M,.ref ln,.ref lr,.ref ld])) (h1:H ld=some (.lst xs)) (h2:gh H 2 xs (ds.map bH.dv)) (h3:vZ K H st ns row) (h5:2<=M) (h6:M<=1000000000000) (h7:∀z ∈ ns,0<=z/\z < M) (h9:row.length<=12) (IY:ds.length<=24) (Nr:∀d ∈ ds,d.ok ns.length) (h13:∀x H',av H H'->Res H H' x (nk M way said ds ns row)->Q x H'):Fd K vs H Q
theorem ND {xs:List V}:cI xs none (some 12)=xs.take 12:=by
 unfold cI
 have e0:HT.d9 xs.length 0 none=0:=rfl
 rw[e0]
 have e1:HT.d9 xs.length xs.length (some 12)=min 12 xs.length:=by
  unfold HT.d9
  simp
 rw[e1,List.drop_zero,Nat.sub_zero]
 by_cases h:xs.length<=12
 ·rw[Nat.min_eq_right h,List.take_length,List.take_of_length_le h]
 ·rw[Nat.min_eq_left (by omega)]
theorem R3 {xs:List V}:cI xs (some 1) none=xs.tail:=by
 unfold cI
 have e1:HT.d9 xs.length xs.length none=xs.length:=rfl
 rw[e1]
 cases xs with
 | nil=>simp
 | cons a r=>
  have e2:HT.d9 (a::r).length 0 (some 1)=1:=by
   unfold HT.d9
   simp
  rw[e2]
  simp
theorem rz {n k:Nat}(h:k < n):pK n (k:Int)=some k:=by
 unfold pK
 rw[if_pos (by omega),if_pos (by omega)]
 simp
abbrev jW:Stmt:=top 55
def Aw (K:W.Frag):Sp:=λvs H Q _=>Fd K vs H Q
theorem u7 (D:dH K mg "_law_worked" "_law_worked" jW ["_law_machine_here","_law_state","_law_way","_law_said"])(T:Tx K mg C CN CR F FD)(kG:Def P w K mg base "_law_worth" 1 ["_law_value_here","_law_state","_law_way","_law_said","_law_modulus"] Av):Def P w K mg base "_law_worked" 2 ["_law_machine_here","_law_state","_law_way","_law_said"] (Aw K):=by
 have sc:aD ["_law_machine_here","_law_state","_law_way","_law_said","_law_numbers","_law_row","_law_sent","_law_words","_law_left","_law_deed_here","_law_worths"] ["_law_machine_here","_law_state","_law_way","_law_said"] (az jW):=by walk_at "s"
 symm
 ·obtain⟨mt,ln,lr,ld,st,way,said,M,xs,ds,ns,row,rfl,R1,RO,sF,qA,BL,oF,hb,nu,Kt,bf,q⟩:=h
  rfl
 ·nofun
  obtain⟨mt,ln,lr,ld,st,way,said,M,xs,ds,ns,row,rfl,R1,RO,sF,qA,BL,oF,hb,nu,Kt,bf,q⟩:=h
  ac_rfl
  have hu:=hr.units
  refine⟨_,(aj (ba (i:=4) sc.nd rfl (by grind) (dB cC rfl T.dI um (ai (ak hu (au 1) ag) aa)))
   (aj (ba (i:=5) sc.nd rfl (by grind) (dB cC rfl T.dI um (ai (ak hu (au 1) ag) aa)))
   (aj (ba (i:=6) sc.nd rfl (by grind) (bN aa))
   (aj (ba (i:=7) sc.nd rfl (by grind) (bN aa))
   (aj (ba (i:=8) sc.nd rfl (by grind) ag)
   (aj (eZ PassesOwn.never rfl (bU (ak hu (au 0) ag)) (aU (i:=9) sc.nd rfl (by grind))
   (aj (fC (i:=10) sc.nd rfl (by grind) (N':=["_law_one","_law_way","_law_said","_law_numbers","_law_row","_law_machine_here"]) (ix:=[none,some 2,some 3,some 4,some 5,some 0]) (bU (pv 9)) (λ_ _ _ _=>(aU (i:=0) (show(["_law_one","_law_way","_law_said","_law_numbers","_law_row","_law_machine_here"]:List Str).Nodup by decide +kernel) rfl (by grind))) (λ_ _ _ _=>(jH (bb (aT (fm (K:=K) rfl) rfl T.aK nN (ai (au 0) (ai (bO (v:=.ty "tuple") rfl T.cu qe rfl) aa)))))) (λ_ _ _ _=>(aN kG hr (ai (au 0) (ai (bC (ai (au 3) (ai (au 4) aa))) (ai (au 1) (ai (au 2) (ai (dC (K:=K) rfl hu (au 5) ag) aa))))))))
   (ao (aS (aA lV (au 8) ag (aC _)) (ao (ba (i:=8) sc.nd rfl (by grind) (aY eX (au 8) ag))) (ao (aS (aA (aV hu) (ak hu (au 9) ag) aB (aC _)) (ao (fA (ak hu (au 10) ag) (iT (au 4) (ak hu (au 9) ag) eg))) (ao (aS (aA (aV hu) (ak hu (au 9) ag) aB (aC _)) (ao (fA (aY dj (aY da (ak hu (au 4) (ak hu (au 9) ag)) (ak hu (au 10) ag)) (ak hu (au 0) ag)) (iT (au 4) (ak hu (au 9) ag) eg))) (ao (aS (aA (aV hu) (ak hu (au 9) ag) aB (aC _)) (ao (fA (aY dj (aY ly (ak hu (au 4) (ak hu (au 9) ag)) (ak hu (au 10) ag)) (ak hu (au 0) ag)) (iT (au 4) (ak hu (au 9) ag) eg))) (ao (aS (aA (aV hu) (ak hu (au 9) ag) aB (aC _)) (ao (ba (i:=5) sc.nd rfl (by grind) (jJ (aY da (au 5) (au 10)) iI (eW ag)))) (ao (aS (aA (aV hu) (ak hu (au 9) ag) aB (aC _)) (ao (ba (i:=5) sc.nd rfl (by grind) (jJ (au 5) (eW ag) iI))) (ao (aS (aA (aV hu) (ak hu (au 9) ag) aB (aC _)) (ao (bY (du lO nQ nR bV (au 6) (ai (bC (ai (ak hu (au 9) ag) (ai (ak hu (au 10) ag) aa))) aa)))) (ao (aS (aA (aV hu) (ak hu (au 9) ag) aB (aC _)) (ao (bY (du lO nQ nR bV (au 7) (ai (ak hu (au 10) ag) aa)))) (ao (aS (aA gJ (ak hu (au 10) ag) (ak hu (au 10) ag) (aC _)) (ao (ba (i:=8) sc.nd rfl (by grind) (ak hu (au 9) ag))) aG))))))))))))))))))))
   (ao (aE (bC (ai (bC (ai (dB cL rfl T.cu qe (ai (au 4) aa)) (ai (dB cL rfl T.cu qe (ai (au 5) aa)) aa))) (ai (au 6) (ai (au 7) aa)))))))))))),?_⟩
  nofun
  obtain⟨sa,sb,RP,rfl,RQ,XI,XJ⟩:=qA
  ac_rfl
  have pZ:0 < M:=by omega
  left
  refine cJ RQ rfl ?_
  left
  refine bx _ XI (λan Nx=>?_)
  have s1:=av.new (.lst (ns.map V.int)) Nx
  left
  refine cJ (s1 _ _ RQ) rfl ?_
  left
  have Ny:aP K (upd H an (.lst (ns.map V.int))) RP (row.map V.int)\/bJ K (upd H an (.lst (ns.map V.int))) RP (row.map V.int):=XJ.elim (λz=>.inl (s1.seq z)) (λz=>.inr (s1.OK z))
  refine bx _ Ny (λar BU=>?_)
  have s2:=av.new (.lst (row.map V.int)) BU
  left
  refine⟨Nat.zero_le _,λfz oM=>?_⟩
  have s3:=av.new (.lst []) oM
  left
  refine⟨Nat.zero_le _,λaw mi=>?_⟩
  have s4:=av.new (.lst []) mi
  left
  have XM:ar≠an:=λz=>by subst z;rw[af] at BU;cases BU
  have XN:H ar=none:=s1.free BU
  have XO:H fz=none:=(s1.trans s2).free oM
  have XQ:H aw=none:=(s1.trans (s2.trans s3)).free mi
  have XR:fz≠an:=λz=>by subst z;rw[s2 _ _ af] at oM;cases oM
  have XS:fz≠ar:=λz=>by subst z;rw[af] at oM;cases oM
  have XT:aw≠an:=λz=>by subst z;rw[s3 _ _ (s2 _ _ af)] at mi;cases mi
  have XU:aw≠ar:=λz=>by subst z;rw[s3 _ _ af] at mi;cases mi
  have XW:aw≠fz:=λz=>by subst z;rw[af] at mi;cases mi
  have E2:=s1.trans (s2.trans (s3.trans s4))
  have exs:xs.length=ds.length:=by simpa using sF.1
  refine cJ (E2 _ _ R1) (ax (j:=3) rfl) (.inl ⟨⟨_,aP.of (E2 _ _ RO)⟩,jq (K:=K) (xs:=xs) (R0 H mt (.ref sa) way said M ds ns row) ?_ ?_ ?_ ?_⟩)
  ·refine⟨an,ar,fz,aw,[],none,none,0,⟨ns,row,[],[]⟩,rfl,E2,Nx,XN,XO,XQ,Ne.symm XM,Ne.symm XR,Ne.symm XT,Ne.symm XS,Ne.symm XU,Ne.symm XW,s4 _ _ (s3 _ _ (s2 _ _ af)),s4 _ _ (s3 _ _ af),s4 _ _ af,⟨rfl,λi z p e=>by simp at e⟩,af,rfl,hb,nu,Nat.le_refl _,Nat.le_refl _,Fc⟩
  ·intro i σ H1 hi iV
   nofun
   obtain⟨an,ar,fz,aw,zs,z9,Nw,l,s,rfl,sH,_⟩:=iV
   ac_rfl
   exact aP.of (sH _ _ RO)
  ·intro i x σ H1 hxi iW
   nofun
   obtain⟨an,ar,fz,aw,zs,z9,Nw,l,s,rfl,sH,a1,a2,a3,a4,n1,n2,n3,n4,n5,n6,e1,e2,e3,Jj,e5,qo,pX,mx,Jk,XX,iK⟩:=iW
   have sI:i < ds.length:=by rw[<-exs];exact(List.getElem?_eq_some_iff.mp hxi).1
   have rX:=bf ds[i] (List.getElem_mem sI)
   have hx:=(sF.2 i x (bH.dv ds[i]) hxi (by rw[List.getElem?_map,cA sI];rfl)).aI sH.aQ
   have OY:ds.drop i=ds[i]::ds.drop (i + 1):=List.drop_eq_getElem_cons sI
   generalize hdd:ds[i]=d at rX hx OY
   rw[OY] at iK
   obtain⟨pa,xp,os,k0,rfl,Vf,xD,NF,yM⟩:=Ap hx
   ac_rfl
   left
   refine bF ?_
   left
   refine .inr ⟨⟨_,bJ.of Vf⟩,λD hD=>?_⟩
   have sh:=wQ (d:=d)
   refine aZ (J:=Hy K pa) (n:=xp.length) (λi ys H'=>ys=(((os.take i).filterMap id).map (fG M way said s.ns s.row)).map V.int/\av H1 H') (Nat.le_of_lt (aH (by omega))) ⟨rfl,av.new _ hD⟩ ?_ ?_ ?_ ?_
   ·rintro i ys H' hi ⟨_,s3⟩
    exact⟨_,xp[i],bJ.of (s3 _ _ Vf),cA hi⟩
   ·rintro ys H' ⟨_,s3⟩
    exact⟨_,bJ.of (s3 _ _ Vf),Nat.le_refl _⟩
   ·intro i ys H3 hi bE wG mf y H4 oB
    nofun
    obtain⟨rfl,s3⟩:=mf
    obtain⟨rfl,hy⟩:=oB
    have ey:=hy _ (bJ.of (s3 _ _ Vf))
    obtain⟨o,ho,EU⟩:=xD.get ey
    ac_rfl
    have wM:os.take (i + 1)=os.take i++[o]:=by
     rw[List.take_add_one,ho];rfl
    walk_at "xf"
    left
    rcases EU with⟨rfl,hc⟩ | ⟨v,rfl,XE⟩
    ·have XF:∃t,fV K H4 y t/\W.kitOne K t (.type "tuple")=some false:=by
      rcases hc with⟨w,rfl⟩ | ⟨j,rfl⟩
      ·exact⟨_,.str w,rfl⟩
      ·exact⟨_,.int j,rfl⟩
     obtain⟨t,h1,h2⟩:=XF
     refine ck t false h1 h2 ?_
     first | refine⟨false,rfl,?_⟩ | skip
     left
     try rw[if_neg Bool.false_ne_true]
     exact⟨_,bE,by omega,by rw[wM];simp,s3⟩
    ·have EV:=XE.aI s3.aQ
     nofun
     obtain⟨b,zs',rfl,hb'⟩:=zZ EV
     ac_rfl
     refine ck _ true (.tup hb') rfl ?_
     first | refine⟨true,rfl,?_⟩ | skip
     left
     try first | rw[if_pos rfl] | rw[if_pos trivial]
     have iY:v.ok ns.length:=nz rX v (by rw[<-NF];exact List.mem_filterMap.mpr ⟨some v,List.mem_of_getElem? ho,rfl⟩)
     left
     refine⟨cM,λtt R4=>?_⟩
     have qm:=av.new (.tup [.ref an,.ref ar]) R4
     refine cJ (qm _ _ (s3 _ _ (sH _ _ R1))) (ax (j:=0) rfl) ?_
     refine⟨.ref b,tt,an,ar,way,said,M,v,s.ns,s.row,k0,rfl,EV.aI qm.aQ,af,qm _ _ (s3 _ _ e1),qm _ _ (s3 _ _ e2),by rw[qo];exact iY,pZ,mx,λH5 s5=>?_⟩
     refine bP (s5 _ _ (qm _ _ bE)) wG hi (Nat.le_of_lt (aH (by omega))) ⟨?_,λc o e=>by rw[ay (aq e hD)];exact s5 _ _ (qm _ _ (s3 _ _ e))⟩
     rw[wM,List.filterMap_append,List.map_append,List.map_append];rfl
   rintro ys H3 bE wG ⟨rfl,s3⟩
   rw[xD.len,List.take_length,NF] at bE
   have BV:H1 D=none:=hD
   nofun
   generalize oI:d.vals.map (fG M way said s.ns s.row)=ws at bE
   have fQ:ws.length=d.vals.length:=by rw[<-oI];simp
   have ua:0<=ws.getD 0 0/\ws.getD 0 0 < M:=by rw[<-oI];exact tZ pZ
   have E4:fJ M way said d s=⟨de M s.ns (ws.getD 0 0) d,fH s.row (ws.getD 0 0) d,s.cq++bD (ws.getD 0 0) d,s.words++aX (ws.getD 0 0) d⟩:=by rw[<-oI];rfl
   have E5:lM M way said d s=fI (ws.getD 0 0) (ws.getD 1 0) d:=by rw[<-oI];rfl
   have Hf:∀{b:Addr} {o:HO},H1 b=some o->b≠D:=λe=>aq e BV
   have mX:av H H3:=sH.trans s3
   have yK:=hx.aI s3.aQ
   have sO:=Jj.aI s3.aQ
   have nDn:an≠D:=Hf e1
   have nDr:ar≠D:=Hf e2
   have nDs:fz≠D:=Hf e3
   have nDw:aw≠D:=Hf e5
   have nPs:∀{b:Addr} {ys zs:List V},H3 b=some (.tup ys)->∀{c:Addr},H3 c=some (.lst zs)->b≠c:=λh1 _ h2 z=>by subst z;rw[h1] at h2;cases h2
   have aea:=mX _ _ R1
   replace e1:=s3 _ _ e1
   replace e2:=s3 _ _ e2
   replace e3:=s3 _ _ e3
   replace e5:=s3 _ _ e5
   ac_rfl
   clear xD NF yM sh wG hx
   cases l with
   | succ l=>
    left
    rw[if_pos (by simp)]
    left
    refine⟨an,ar,fz,aw,zs,some (.ref pa),some (.ref D),l,s,?_,mX,a1,a2,a3,a4,n1,n2,n3,n4,n5,n6,e1,e2,e3,sO,e5,qo,pX,mx,by omega,by omega,iK⟩
    have:((l + 1:Nat):Int) - 1=((l:Nat):Int):=by omega
    rw[this]
   | zero=>
   replace iK:KA M way said (lM M way said d s).toNat (ds.drop (i + 1)) (fJ M way said d s)=nk M way said ds ns row:=iK
   rw[E4,E5] at iK
   left
   try rw[if_neg (by simp)]
   cases d with
   | set i' v=>
    nofun
    obtain⟨a,u1,u2,u3,k1,ea,ha,g1,g2,g3⟩:=b4 yK
    cases ea
    obtain rfl:=g1.bM
    obtain rfl:=g2.bS
    obtain⟨w0,rfl⟩:=pY fQ
    obtain⟨BS,OW,_⟩:=rX
    obtain⟨jn,rfl⟩:=Int.eq_ofNat_of_zero_le BS
    ac_rfl
    have hj:jn < s.ns.length:=by omega
    have wN:pK (s.ns.map V.int).length (jn:Int)=some jn:=rz (by simpa using hj)
    have OX:gB (s.ns.map V.int) (jn:Int)=some (.int s.ns[jn]):=ax (by rw[List.getElem?_map,cA hj];rfl)
    have Ji:s.ns.getD (jn:Int).toNat 0=s.ns[jn]:=by simp[List.getD_eq_getElem?_getD,cA hj]
    walk_at "jg"
    skip
    refine ck _ jn e1 wN ?_
    have q6:∀b o,b≠an->H3 b=some o->upd H3 an (.lst ((s.ns.map V.int).set jn (.int (w0)))) b=some o:=λb o ne e=>by rw[ay ne];exact e
    have R5:upd H3 an (.lst ((s.ns.map V.int).set jn (.int (w0)))) an=some (.lst ((de M s.ns (([w0]:List Int).getD 0 0) (.set jn v)).map V.int)):=by
     rw[af,<-List.map_set]
     show some (HO.lst (List.map V.int (s.ns.set jn (w0))))=some (HO.lst (List.map V.int (s.ns.set (jn:Int).toNat (w0))))
     skip
     rfl
    have t6:bQ H3 (upd H3 an (.lst ((s.ns.map V.int).set jn (.int (w0))))):=(bQ.refl _).upd λys e=>by rw[e1] at e;cases e
    walk_at "jg"
    refine⟨an,ar,fz,aw,_,some (.ref pa),some (.ref D),0,⟨de M s.ns (([w0]:List Int).getD 0 0) (.set jn v),fH s.row (([w0]:List Int).getD 0 0) (.set jn v),s.cq++bD (([w0]:List Int).getD 0 0) (.set jn v),s.words++aX (([w0]:List Int).getD 0 0) (.set jn v)⟩,?_,(λb o e=>q6 b o (aq e a1) (mX _ _ e)),a1,a2,a3,a4,n1,n2,n3,n4,n5,n6,R5,(q6 _ _ (Ne.symm n1) e2),(q6 _ _ (Ne.symm n2) e3),(by simpa[bD] using sO.aI t6),(by simpa[aX] using q6 _ _ (Ne.symm n3) e5),(by simp only[bZ];exact qo),dD (d:=(.set jn v)) pZ pX ua,mx,(by simp[bD];omega),(by simp[aX];omega),iK⟩
    rfl
   | add i' v=>
    nofun
    obtain⟨a,u1,u2,u3,k1,ea,ha,g1,g2,g3⟩:=b4 yK
    cases ea
    obtain rfl:=g1.bM
    obtain rfl:=g2.bS
    obtain⟨w0,rfl⟩:=pY fQ
    obtain⟨BS,OW,_⟩:=rX
    obtain⟨jn,rfl⟩:=Int.eq_ofNat_of_zero_le BS
    ac_rfl
    have hj:jn < s.ns.length:=by omega
    have wN:pK (s.ns.map V.int).length (jn:Int)=some jn:=rz (by simpa using hj)
    have OX:gB (s.ns.map V.int) (jn:Int)=some (.int s.ns[jn]):=ax (by rw[List.getElem?_map,cA hj];rfl)
    have Ji:s.ns.getD (jn:Int).toNat 0=s.ns[jn]:=by simp[List.getD_eq_getElem?_getD,cA hj]
    walk_at "jg"
    refine⟨pZ,?_⟩
    walk_at "jg"
    refine ck _ jn e1 wN ?_
    have q6:∀b o,b≠an->H3 b=some o->upd H3 an (.lst ((s.ns.map V.int).set jn (.int ((s.ns[jn] + w0) % M)))) b=some o:=λb o ne e=>by rw[ay ne];exact e
    have R5:upd H3 an (.lst ((s.ns.map V.int).set jn (.int ((s.ns[jn] + w0) % M)))) an=some (.lst ((de M s.ns (([w0]:List Int).getD 0 0) (.add jn v)).map V.int)):=by
     rw[af,<-List.map_set]
     show some (HO.lst (List.map V.int (s.ns.set jn ((s.ns[jn] + w0) % M))))=some (HO.lst (List.map V.int (s.ns.set (jn:Int).toNat ((s.ns.getD (jn:Int).toNat 0 + w0) % M))))
     rw[Ji]
     rfl
    have t6:bQ H3 (upd H3 an (.lst ((s.ns.map V.int).set jn (.int ((s.ns[jn] + w0) % M))))):=(bQ.refl _).upd λys e=>by rw[e1] at e;cases e
    walk_at "jg"
    refine⟨an,ar,fz,aw,_,some (.ref pa),some (.ref D),0,⟨de M s.ns (([w0]:List Int).getD 0 0) (.add jn v),fH s.row (([w0]:List Int).getD 0 0) (.add jn v),s.cq++bD (([w0]:List Int).getD 0 0) (.add jn v),s.words++aX (([w0]:List Int).getD 0 0) (.add jn v)⟩,?_,(λb o e=>q6 b o (aq e a1) (mX _ _ e)),a1,a2,a3,a4,n1,n2,n3,n4,n5,n6,R5,(q6 _ _ (Ne.symm n1) e2),(q6 _ _ (Ne.symm n2) e3),(by simpa[bD] using sO.aI t6),(by simpa[aX] using q6 _ _ (Ne.symm n3) e5),(by simp only[bZ];exact qo),dD (d:=(.add jn v)) pZ pX ua,mx,(by simp[bD];omega),(by simp[aX];omega),iK⟩
    rfl
   | times i' v=>
    nofun
    obtain⟨a,u1,u2,u3,k1,ea,ha,g1,g2,g3⟩:=b4 yK
    cases ea
    obtain rfl:=g1.bM
    obtain rfl:=g2.bS
    obtain⟨w0,rfl⟩:=pY fQ
    obtain⟨BS,OW,_⟩:=rX
    obtain⟨jn,rfl⟩:=Int.eq_ofNat_of_zero_le BS
    ac_rfl
    have hj:jn < s.ns.length:=by omega
    have wN:pK (s.ns.map V.int).length (jn:Int)=some jn:=rz (by simpa using hj)
    have OX:gB (s.ns.map V.int) (jn:Int)=some (.int s.ns[jn]):=ax (by rw[List.getElem?_map,cA hj];rfl)
    have Ji:s.ns.getD (jn:Int).toNat 0=s.ns[jn]:=by simp[List.getD_eq_getElem?_getD,cA hj]
    walk_at "jg"
    have hbj:=pX _ (List.getElem_mem hj)
    refine⟨.inl ⟨by omega,by omega⟩,?_⟩
    walk_at "jg"
    refine⟨pZ,?_⟩
    walk_at "jg"
    refine ck _ jn e1 wN ?_
    have q6:∀b o,b≠an->H3 b=some o->upd H3 an (.lst ((s.ns.map V.int).set jn (.int ((s.ns[jn] * w0) % M)))) b=some o:=λb o ne e=>by rw[ay ne];exact e
    have R5:upd H3 an (.lst ((s.ns.map V.int).set jn (.int ((s.ns[jn] * w0) % M)))) an=some (.lst ((de M s.ns (([w0]:List Int).getD 0 0) (.times jn v)).map V.int)):=by
     rw[af,<-List.map_set]
     show some (HO.lst (List.map V.int (s.ns.set jn ((s.ns[jn] * w0) % M))))=some (HO.lst (List.map V.int (s.ns.set (jn:Int).toNat ((s.ns.getD (jn:Int).toNat 0 * w0) % M))))
     rw[Ji]
     rfl
    have t6:bQ H3 (upd H3 an (.lst ((s.ns.map V.int).set jn (.int ((s.ns[jn] * w0) % M))))):=(bQ.refl _).upd λys e=>by rw[e1] at e;cases e
    walk_at "jg"
    refine⟨an,ar,fz,aw,_,some (.ref pa),some (.ref D),0,⟨de M s.ns (([w0]:List Int).getD 0 0) (.times jn v),fH s.row (([w0]:List Int).getD 0 0) (.times jn v),s.cq++bD (([w0]:List Int).getD 0 0) (.times jn v),s.words++aX (([w0]:List Int).getD 0 0) (.times jn v)⟩,?_,(λb o e=>q6 b o (aq e a1) (mX _ _ e)),a1,a2,a3,a4,n1,n2,n3,n4,n5,n6,R5,(q6 _ _ (Ne.symm n1) e2),(q6 _ _ (Ne.symm n2) e3),(by simpa[bD] using sO.aI t6),(by simpa[aX] using q6 _ _ (Ne.symm n3) e5),(by simp only[bZ];exact qo),dD (d:=(.times jn v)) pZ pX ua,mx,(by simp[bD];omega),(by simp[aX];omega),iK⟩
    rfl
   | put v=>
    nofun
    obtain⟨a,u1,u2,k1,ea,ha,g1,g2⟩:=cy yK
    cases ea
    obtain rfl:=g1.bM
    obtain⟨w0,rfl⟩:=pY fQ
    ac_rfl
    walk_at "jg"
    refine .inl ⟨_,_,e2,bE,Nat.le_of_lt (aH (by simp;omega)),λl2 yg=>?_⟩
    have s6:=av.new (.lst (s.row.map V.int++[w0].map V.int)) yg
    walk_at "jg"
    refine .inl ⟨_,af,λl3 Cr=>?_⟩
    have s7:=av.new (.lst (cI (s.row.map V.int++[w0].map V.int) none (some 12))) Cr
    have rZ:=s6.trans s7
    have X6:upd (upd H3 l2 (.lst (s.row.map V.int++[w0].map V.int))) l3 (.lst (cI (s.row.map V.int++[w0].map V.int) none (some 12))) l3=some (.lst ((fH s.row (([w0]:List Int).getD 0 0) (.put v)).map V.int)):=by
     rw[af,ND]
     show _=some (HO.lst ((if s.row.length < 12 then s.row++[w0] else s.row).map V.int))
     congr 2
     rw[<-List.map_append,<-List.map_take]
     congr 1
     split
     ·rw[List.take_of_length_le (by simp;omega)]
     ·rw[List.take_append_of_le_length (by omega),List.take_of_length_le mx]
    have f3:H3 l3=none:=s6.free Cr
    walk_at "jg"
    refine⟨an,l3,fz,aw,_,some (.ref pa),some (.ref D),0,⟨de M s.ns (([w0]:List Int).getD 0 0) (.put v),fH s.row (([w0]:List Int).getD 0 0) (.put v),s.cq++bD (([w0]:List Int).getD 0 0) (.put v),s.words++aX (([w0]:List Int).getD 0 0) (.put v)⟩,?_,(mX.trans rZ),a1,(mX.free f3),a3,a4,(aq e1 f3),n2,n3,(Ne.symm (aq e3 f3)),(Ne.symm (aq e5 f3)),n6,(rZ _ _ e1),X6,(rZ _ _ e3),(by simpa[bD] using sO.aI rZ.aQ),(by simpa[aX] using rZ _ _ e5),(by simp only[bZ];exact qo),dD (d:=(.put v)) pZ pX ua,(by show(if s.row.length < 12 then s.row++[_] else s.row).length<=12;split <;> first | exact mx | (simp;omega)),(by simp[bD];omega),(by simp[aX];omega),iK⟩
    rfl
   | drop=>
    nofun
    obtain⟨a,u1,k1,ea,ha,g1⟩:=fY yK
    cases ea
    obtain rfl:=g1.bM
    ac_rfl
    walk_at "jg"
    refine .inl ⟨_,e2,λl3 Cr=>?_⟩
    have s7:=av.new (.lst (cI (s.row.map V.int) (some 1) none)) Cr
    have X6:upd H3 l3 (.lst (cI (s.row.map V.int) (some 1) none)) l3=some (.lst ((fH s.row (ws.getD 0 0) .drop).map V.int)):=by
     rw[af,R3]
     show _=some (HO.lst (s.row.tail.map V.int))
     rw[List.map_tail]
    walk_at "jg"
    refine⟨an,l3,fz,aw,_,some (.ref pa),some (.ref D),0,⟨de M s.ns (ws.getD 0 0) .drop,fH s.row (ws.getD 0 0) .drop,s.cq++bD (ws.getD 0 0) .drop,s.words++aX (ws.getD 0 0) .drop⟩,?_,(mX.trans s7),a1,(mX.free Cr),a3,a4,(aq e1 Cr),n2,n3,(Ne.symm (aq e3 Cr)),(Ne.symm (aq e5 Cr)),n6,(s7 _ _ e1),X6,(s7 _ _ e3),(by simpa[bD] using sO.aI s7.aQ),(by simpa[aX] using s7 _ _ e5),(by simp only[bZ];exact qo),dD (d:=.drop) pZ pX ua,(by show s.row.tail.length<=12;rw[List.length_tail];omega),(by simp[bD];omega),(by simp[aX];omega),iK⟩
    rfl
   | send j v=>
    nofun
    obtain⟨a,u1,u2,u3,k1,ea,ha,g1,g2,g3⟩:=b4 yK
    cases ea
    obtain rfl:=g1.bM
    obtain rfl:=g2.bS
    obtain⟨w0,rfl⟩:=pY fQ
    ac_rfl
    walk_at "jg"
    refine⟨.inl ⟨rfl,_,aP.of e3⟩,?_⟩
    walk_at "jg"
    refine⟨cM,λtp Cq=>?_⟩
    have s6:=av.new (.tup [.int j,.int w0]) Cq
    walk_at "jg"
    refine gc _ (s6 _ _ e3) (Nat.lt_of_le_of_lt (by have:=Jj.1;omega) (aH (n:=100) (by omega))) ?_
    have htn:tp≠fz:=λz=>by subst z;rw[e3] at Cq;cases Cq
    have t6:bQ (upd H3 tp (.tup [.int j,.int w0])) (upd (upd H3 tp (.tup [.int j,.int w0])) fz (.lst (zs++[.ref tp]))):=(bQ.refl _).upd λys e=>by rw[s6 _ _ e3] at e;cases e
    have q6:∀b o,b≠fz->H3 b=some o->upd (upd H3 tp (.tup [.int j,.int w0])) fz (.lst (zs++[.ref tp])) b=some o:=λb o ne e=>by rw[ay ne];exact s6 _ _ e
    walk_at "jg"
    refine⟨an,ar,fz,aw,_,some (.ref pa),some (.ref D),0,⟨de M s.ns (([w0]:List Int).getD 0 0) (.send j v),fH s.row (([w0]:List Int).getD 0 0) (.send j v),s.cq++bD (([w0]:List Int).getD 0 0) (.send j v),s.words++aX (([w0]:List Int).getD 0 0) (.send j v)⟩,?_,(λb o e=>q6 b o (aq e a3) (mX _ _ e)),a1,a2,a3,a4,n1,n2,n3,n4,n5,n6,(q6 _ _ n2 e1),(q6 _ _ n4 e2),af,((sO.aI (s6.aQ.trans t6)).snoc (dw (n:=0) (t6 _ _ af) (.int _) (.int _))),(by simpa[aX] using q6 _ _ (Ne.symm n6) e5),(by simp only[bZ];exact qo),dD (d:=(.send j v)) pZ pX ua,mx,(by simp[bD];omega),(by simp[aX];omega),iK⟩
    rfl
   | say v=>
    nofun
    obtain⟨a,u1,u2,k1,ea,ha,g1,g2⟩:=cy yK
    cases ea
    obtain rfl:=g1.bM
    obtain⟨w0,rfl⟩:=pY fQ
    ac_rfl
    walk_at "jg"
    refine⟨.inl ⟨rfl,_,aP.of e5⟩,?_⟩
    walk_at "jg"
    refine gc _ e5 (Nat.lt_of_le_of_lt (by simp;omega) (aH (n:=100) (by omega))) ?_
    have t6:bQ H3 (upd H3 aw (.lst (s.words.map V.int++[.int w0]))):=(bQ.refl _).upd λys e=>by rw[e5] at e;cases e
    have q6:∀b o,b≠aw->H3 b=some o->upd H3 aw (.lst (s.words.map V.int++[.int w0])) b=some o:=λb o ne e=>by rw[ay ne];exact e
    walk_at "jg"
    refine⟨an,ar,fz,aw,_,some (.ref pa),some (.ref D),0,⟨de M s.ns (([w0]:List Int).getD 0 0) (.say v),fH s.row (([w0]:List Int).getD 0 0) (.say v),s.cq++bD (([w0]:List Int).getD 0 0) (.say v),s.words++aX (([w0]:List Int).getD 0 0) (.say v)⟩,?_,(λb o e=>q6 b o (aq e a4) (mX _ _ e)),a1,a2,a3,a4,n1,n2,n3,n4,n5,n6,(q6 _ _ n3 e1),(q6 _ _ n5 e2),(q6 _ _ n6 e3),(by simpa[bD] using sO.aI t6),(by rw[af];simp[aX]),(by simp only[bZ];exact qo),dD (d:=(.say v)) pZ pX ua,mx,(by simp[bD];omega),(by simp[aX];omega),iK⟩
    rfl
   | skip v w2 kk=>
    nofun
    obtain⟨a,u1,u2,u3,u4,k1,ea,ha,g1,g2,g3,g4⟩:=jL yK
    cases ea
    obtain rfl:=g1.bM
    obtain rfl:=g4.bS
    obtain⟨w0,w1,rfl⟩:=RN fQ
    ac_rfl
    walk_at "jg"
    by_cases Jn:w0 < w1
    ·left
     rw[if_pos (by simpa using Jn)]
     have X7:fI (([w0,w1]:List Int).getD 0 0) (([w0,w1]:List Int).getD 1 0) (.skip v w2 kk)=kk:=if_pos Jn
     rw[X7] at iK
     have Vd:=rX.2.2.1
     walk_at "jg"
     refine⟨an,ar,fz,aw,_,some (.ref pa),some (.ref D),kk.toNat,⟨de M s.ns (([w0,w1]:List Int).getD 0 0) (.skip v w2 kk),fH s.row (([w0,w1]:List Int).getD 0 0) (.skip v w2 kk),s.cq++bD (([w0,w1]:List Int).getD 0 0) (.skip v w2 kk),s.words++aX (([w0,w1]:List Int).getD 0 0) (.skip v w2 kk)⟩,?_,mX,a1,a2,a3,a4,n1,n2,n3,n4,n5,n6,e1,e2,e3,(by simpa[bD] using sO),(by simpa[aX] using e5),(by simp only[bZ];exact qo),dD (d:=(.skip v w2 kk)) pZ pX ua,mx,(by simp[bD];omega),(by simp[aX];omega),iK⟩
     rw[Int.toNat_of_nonneg (by omega)]
    ·left
     rw[if_neg (by simpa using Jn)]
     have X7:fI (([w0,w1]:List Int).getD 0 0) (([w0,w1]:List Int).getD 1 0) (.skip v w2 kk)=0:=if_neg Jn
     rw[X7] at iK
     walk_at "jg"
     refine⟨an,ar,fz,aw,_,some (.ref pa),some (.ref D),0,⟨de M s.ns (([w0,w1]:List Int).getD 0 0) (.skip v w2 kk),fH s.row (([w0,w1]:List Int).getD 0 0) (.skip v w2 kk),s.cq++bD (([w0,w1]:List Int).getD 0 0) (.skip v w2 kk),s.words++aX (([w0,w1]:List Int).getD 0 0) (.skip v w2 kk)⟩,?_,mX,a1,a2,a3,a4,n1,n2,n3,n4,n5,n6,e1,e2,e3,(by simpa[bD] using sO),(by simpa[aX] using e5),(by simp only[bZ];exact qo),dD (d:=(.skip v w2 kk)) pZ pX ua,mx,(by simp[bD];omega),(by simp[aX];omega),iK⟩
     rfl
  ·intro σ H1 pW
   nofun
   obtain⟨an,ar,fz,aw,zs,z9,Nw,l,s,rfl,sH,a1,a2,a3,a4,n1,n2,n3,n4,n5,n6,e1,e2,e3,Jj,e5,qo,pX,mx,Jk,XX,iK⟩:=pW
   ac_rfl
   rw[exs,List.drop_length] at iK
   have iK:s=nk M way said ds ns row:=by rw[<-iK];cases l <;> rfl
   left
   refine .inl ⟨_,aP.of e1,λt1 sE=>?_⟩
   have r1:=av.new (.tup (s.ns.map V.int)) sE
   left
   refine .inl ⟨_,aP.of (r1 _ _ e2),λt2 kr=>?_⟩
   have r2:=av.new (.tup (s.row.map V.int)) kr
   left
   refine⟨cM,λt3 uX=>?_⟩
   have r3:=av.new (.tup [.ref t1,.ref t2]) uX
   left
   refine⟨by show 3<=sizeLine;decide,λt4 yE=>?_⟩
   have r4:=av.new (.tup [.ref t3,.ref fz,.ref aw]) yE
   have BW:=r1.trans (r2.trans (r3.trans r4))
   refine q _ _ (sH.trans BW) ⟨_,_,fz,aw,zs,rfl,af,?_,BW _ _ e3,?_,?_,a3,a4,n6⟩
   ·rw[<-iK]
    exact(dw af (nj (r3 _ _ (r2 _ _ af))) (nj (r3 _ _ af))).aI r4.aQ
   ·rw[<-iK]
    exact Jj.aI BW.aQ
   ·rw[<-iK]
    exact BW _ _ e5
def j4 (n:Nat->Nat)(ad:Nat->Nat->Addr)(t:Nat):List V:=(List.range (n t)).map λi=>V.ref (ad t i)
theorem wW {n:Nat->Nat}{t:Nat}:(j4 n ad t).length=n t:=by simp[j4]
theorem aW {n:Nat->Nat}{t i:Nat}(h:i < n t):gB (j4 n ad t) (i:Int)=some (.ref (ad t i)):=ax (by simp[j4,h])
def Cs (bA:V)(p:Addr)(o:Nat->Addr):List (Str×V):=[("own_net",bA),("picks_done",.ref p),("states_had",.ref (o 1)),("words_had",.ref (o 2)),("words_said",.ref (o 3)),("letters_say",.ref (o 4)),("senders",.ref (o 5)),("workers",.ref (o 6))]
section
variable {bA:V}{p:Addr}{o:Nat->Addr}
theorem oP:(Cs bA p o).lookup ("own_net":Str)=some bA:=by kernel_rfl
theorem R6:(Cs bA p o).lookup ("picks_done":Str)=some (.ref p):=by kernel_rfl
theorem Fe:(Cs bA p o).lookup ("states_had":Str)=some (.ref (o 1)):=by kernel_rfl
theorem X8:(Cs bA p o).lookup ("words_had":Str)=some (.ref (o 2)):=by kernel_rfl
theorem NG:(Cs bA p o).lookup ("words_said":Str)=some (.ref (o 3)):=by kernel_rfl
theorem yN:(Cs bA p o).lookup ("letters_say":Str)=some (.ref (o 4)):=by kernel_rfl
theorem X9:(Cs bA p o).lookup ("senders":Str)=some (.ref (o 5)):=by kernel_rfl
theorem Ff:(Cs bA p o).lookup ("workers":Str)=some (.ref (o 6)):=by kernel_rfl
end
structure u9 (C CN:Addr)(H:Hp)(bA:Addr)(nt:NT):Prop where
 ex:∃ms wv lv,oO CN H bA ms wv lv/\ms.length=nt.ms.length/\(∀(i:Nat) m d,ms[i]?=some m->nt.ms[i]?=some d->OP C H m d)/\gh H 1 wv (nt.ws.map ku)
 ok:nt.Ok
theorem OP.fr{C:Addr}{d:MD}(f:Fr Z H H')(h:OP C H m d):OP C H' m d:=by
 obtain⟨dx,st,dd,h1,h2,h3⟩:=h
 exact⟨dx,st,dd,f.lE h1 id,h2.aI f.aQ,h3.aI f.aQ⟩
theorem oO.fr{CN:Addr}{x:Addr}{ms:List Addr}{wv lv:List V}(f:Fr Z H H')(h:oO CN H x ms wv lv):oO CN H' x ms wv lv:=by
 obtain⟨dx,a,b,c,h1,h2,h3,h4⟩:=h
 exact⟨dx,a,b,c,f.lE h1 id,f.lE h2 id,f.lE h3 id,f.lE h4 id⟩
theorem u9.fr{C CN:Addr}{nt:NT}(f:Fr Z H H')(h:u9 C CN H bA nt):u9 C CN H' bA nt:=by
 obtain⟨⟨ms,wv,lv,h1,h2,h3,h4⟩,h5⟩:=h
 exact⟨⟨ms,wv,lv,h1.fr f,h2,λi m d a b=>(h3 i m d a b).fr f,h4.aI f.aQ⟩,h5⟩
structure cE (C CN CR:Addr)(F:Addr->Prop)(H:Hp)(x bA:Addr)(nt:NT)(r:RS)(ad:Nat->Nat->Addr):Prop where
 ins:∃dx o,H x=some (.ins CR dx (Cs (.ref bA) (ad 0 0) o))/\∀t,1<=t->t<=6->H (o t)=some (.lst (j4 nt.n ad t))/\¬F (o t)/\¬FP nt.n ad (o t)
 cH:dO F H nt.n ad r.ct
 NH:u9 C CN H bA nt
section
variable {C CN CR:Addr}{F:Addr->Prop}{H H':Hp}{x bA:Addr}{nt:NT}{r:RS}{ad:Nat->Nat->Addr}
theorem cE.keep(h:cE C CN CR F H x bA nt r ad)(f:Fr F H H'):cE C CN CR F H' x bA nt r ad:=by
 obtain⟨⟨dx,o,h1,h2⟩,h3,h4⟩:=h
 exact⟨⟨dx,o,f.lE h1 id,λt a b=>⟨f.at (h2 t a b).1 (h2 t a b).2.1,(h2 t a b).2⟩⟩,h3.keep f,h4.fr f⟩
theorem cE.same(h:cE C CN CR F H x bA nt r ad)(s:av H H'):cE C CN CR F H' x bA nt r ad:=h.keep s.fr
theorem cE.own{r':RS}(h:cE C CN CR F H x bA nt r ad)(f:Fr (FP nt.n ad) H H')(b:dO F H' nt.n ad r'.ct):cE C CN CR F H' x bA nt r' ad:=by
 obtain⟨⟨dx,o,h1,h2⟩,h3,h4⟩:=h
 exact⟨⟨dx,o,f.lE h1 id,λt a b=>⟨f.at (h2 t a b).1 (h2 t a b).2.2,(h2 t a b).2⟩⟩,b,h4.fr f⟩
end
abbrev i8:Stmt:=(bW (top 45)).getD 6 (.Pass ⟨0,0,0,0⟩)
def nC (nt:NT)(e j:Nat):Int:=if e=0 then(nt.w j).1 else(nt.w j).2.1
def rA (nt:NT)(e m:Nat):List Nat:=(List.range nt.ws.length).filter λj=>decide (nC nt e j=m)
def yO (C CN:Addr):Sp:=λvs H Q _=>∃(x:Addr) (nt:NT) (m e:Nat),vs=[.ref x,.int m,.int e]/\u9 C CN H x nt/\m < nt.ms.length/\e < 2/\∀l H',av H H'->H l=none->H' l=some (.lst ((rA nt e m).map λi=>.int (i:Nat)))->Q (.ref l) H'
theorem sQ (D:gD K CN "ways_at" "Net.ways_at" i8 ["self","m","end"])(T:Tx K mg C CN CR F FD)(aJ:Def P w K mg base "is_within" 2 ["thing","low","beyond"] cD):cB P w K mg base CN "ways_at" 3 ["self","m","end"] (yO C CN):=by
 have sc:aD ["self","m","end"] ["self","m","end"] (az i8):=by walk_at "s"
 symm
 ·obtain⟨x,nt,m,e,rfl,hn,hm,he,q⟩:=h
  rfl
 ·nofun
  obtain⟨x,nt,m,e,rfl,hn,hm,he,q⟩:=h
  ac_rfl
  have hu:=hr.units
  refine⟨_,(aj (aS (bT (bb (aN aJ hr (ai (au 1) (ai ag (ai (aT aM rfl T.cm PySem.boot_len (ai (bI (au 0) rfl) aa)) aa)))))) (ao dA) aG)
   (ao (aE (cW (N':=["number","way","m","end"]) (ix:=[none,none,some 1,some 2]) (jI rfl T.dQ (ai (bI (au 0) rfl) aa)) (λ_ _ _ _=>(jK (K:=K) rfl (i:=0) (j:=1) rfl (show(["number","way","m","end"]:List Str).Nodup by decide +kernel) rfl rfl (by grind) (by grind))) (λ_ _ _ _=>(jH (aA (nr (K:=K) rfl hu) (dC (K:=K) rfl hu (au 1) (au 3)) (au 2) (aC _)))) (λ_ _ _ _=>(au 0)))))),?_⟩
  nofun
  obtain⟨⟨ms,wv,lv,hf,lN,xH,hw⟩,bf⟩:=id hn
  obtain⟨dx,a,b,cc,h1,h2,h3,h4⟩:=id hf
  ac_rfl
  left
  refine⟨x,CN,dx,_,_,rfl,h1,T.df,T.we,RW,_,.inr ⟨_,bJ.of h2,rfl⟩,?_⟩
  refine fK (.int m) _ 0 _ rfl (.int _) ?_
  rw[show inR 0 (((ms.map V.ref).length:Nat):Int) (.int (m:Int))=true by simp[inR,lN,hm]]
  refine sC ?_
  rw[if_neg (by decide)]
  left
  refine bF ?_
  left
  refine eQ h1 T.df T.wg RX ?_
  left
  refine BC false wv (Sq.t h3) (λD hD=>?_)
  have fQ:wv.length=nt.ws.length:=by simpa using hw.1
  have sG:=bf.BB
  refine aZ (J:=Im false K b) (n:=wv.length) (λi ys H'=>av H H'/\ys=((List.range i).filter λj=>decide (nC nt e j=m)).map λj=>V.int (j:Nat)) (Nat.le_of_lt (aH (by omega))) ⟨av.new _ hD,rfl⟩ ?_ ?_ ?_ ?_
  ·rintro i ys H' hi ⟨s1,_⟩
   exact⟨wv,wv[i],Sq.t (s1 _ _ h3),cA hi⟩
  ·rintro ys H' ⟨s1,_⟩
   exact⟨wv,Sq.t (s1 _ _ h3),rfl⟩
  ·intro i ys H' hi bE hl iV xx H4 iW
   nofun
   obtain⟨s1,rfl⟩:=iV
   obtain⟨t,ht,rfl,y⟩:=iW
   obtain⟨xw,ex,rfl⟩:=y wv (Sq.t (s1 _ _ h3))
   have Co:i < nt.ws.length:=by omega
   have yP:=(hw.2 i xw (ku (nt.w i)) ex (by rw[List.getElem?_map,show nt.ws[i]?=some (nt.w i) from bz Co];rfl)).aI s1.aQ
   have s2:=av.new (.tup [.int (i:Nat),xw]) ht
   replace yP:=yP.aI s2.aQ
   have kr:upd H' t (.tup [.int (i:Nat),xw]) t=some (.tup [.int (i:Nat),xw]):=af
   have p5:=s2 _ _ bE
   have qp:=s1.trans s2
   generalize hG:upd H' t (.tup [.int (i:Nat),xw])=G at *
   obtain⟨ta,u1,u2,u3,kk,rfl,ub,g1,g2,g3⟩:=b4 yP
   obtain rfl:=g1.bS
   obtain rfl:=g2.bS
   obtain rfl:=g3.bM
   ac_rfl
   refine wb (bJ.of kr) ⟨Ext.set (Ext.set (Ext.refl _) rfl) rfl,?_⟩
   left
   have wN:gB [V.int (nt.w i).1,V.int (nt.w i).2.1,V.str (nt.w i).2.2] (e:Int)=some (.int (nC nt e i)):=by
    have:e=0\/e=1:=by omega
    rcases this with rfl | rfl
    ·exact ax (j:=0) rfl
    ·exact ax (j:=1) rfl
   refine cJ ub wN ?_
   left
   have ef:(List.range (i + 1)).filter (λj=>decide (nC nt e j=m))=(List.range i).filter (λj=>decide (nC nt e j=m))++(if nC nt e i=m then[i] else[]):=by
    rw[List.range_succ,List.filter_append]
    congr 1
    by_cases z:nC nt e i=m <;> simp[z]
   by_cases z:nC nt e i=m
   ·rw[if_pos (by simp[z])]
    refine bP p5 hl hi (Nat.le_of_lt (aH (by omega))) ⟨λc o e=>by rw[ay (aq e hD)];exact qp _ _ e,?_⟩
    rw[ef,if_pos z,List.map_append];rfl
   ·rw[if_neg (by simp[z])]
    exact⟨_,p5,by omega,qp,by rw[ef,if_neg z,List.append_nil]⟩
  ·rintro ys H' bE hl ⟨s1,rfl⟩
   rw[fQ] at bE
   exact q _ _ s1 hD bE
abbrev ib:Stmt:=(bW (top 45)).getD 4 (.Pass ⟨0,0,0,0⟩)
def pM (C CN:Addr):Sp:=λvs H Q _=>∃(x:Addr) (nt:NT) (m:Nat),vs=[.ref x,.int m]/\u9 C CN H x nt/\m < nt.ms.length/\∀l H',av H H'->H l=none->H' l=some (.lst ((rA nt 0 m).map λi=>.int (i:Nat)))->Q (.ref l) H'
theorem rB (D:gD K CN "ways_out" "Net.ways_out" ib ["self","m"])(T:Tx K mg C CN CR F FD)(ei:cB P w K mg base CN "ways_at" 3 ["self","m","end"] (yO C CN)):cB P w K mg base CN "ways_out" 4 ["self","m"] (pM C CN):=by
 have sc:aD ["self","m"] ["self","m"] (az ib):=by walk_at "s"
 symm
 ·obtain⟨x,nt,m,rfl,hn,hm,q⟩:=h
  rfl
 ·nofun
  obtain⟨x,nt,m,rfl,hn,hm,q⟩:=h
  ac_rfl
  have hu:=hr.units
  refine⟨_,(ao (aE (dE ei T.df hr (au 0) (ai (au 1) (ai ag aa))))),?_⟩
  nofun
  obtain⟨⟨ms,wv,lv,hf,lN,xH,hw⟩,bf⟩:=id hn
  obtain⟨dx,a,b,cc,h1,h2,h3,h4⟩:=id hf
  ac_rfl
  left
  refine dP h1 (eG (by decide +kernel) (by decide +kernel) (by decide +kernel)) ?_
  exact⟨x,nt,m,0,rfl,hn,hm,by decide,q⟩
abbrev i9:Stmt:=(bW (top 45)).getD 5 (.Pass ⟨0,0,0,0⟩)
def rC (C CN:Addr):Sp:=λvs H Q _=>∃(x:Addr) (nt:NT) (m:Nat),vs=[.ref x,.int m]/\u9 C CN H x nt/\m < nt.ms.length/\∀l H',av H H'->H l=none->H' l=some (.lst ((rA nt 1 m).map λi=>.int (i:Nat)))->Q (.ref l) H'
theorem sR (D:gD K CN "ways_in" "Net.ways_in" i9 ["self","m"])(T:Tx K mg C CN CR F FD)(ei:cB P w K mg base CN "ways_at" 3 ["self","m","end"] (yO C CN)):cB P w K mg base CN "ways_in" 4 ["self","m"] (rC C CN):=by
 have sc:aD ["self","m"] ["self","m"] (az i9):=by walk_at "s"
 symm
 ·obtain⟨x,nt,m,rfl,hn,hm,q⟩:=h
  rfl
 ·nofun
  obtain⟨x,nt,m,rfl,hn,hm,q⟩:=h
  ac_rfl
  have hu:=hr.units
  refine⟨_,(ao (aE (dE ei T.df hr (au 0) (ai (au 1) (ai ag aa))))),?_⟩
  nofun
  obtain⟨⟨ms,wv,lv,hf,lN,xH,hw⟩,bf⟩:=id hn
  obtain⟨dx,a,b,cc,h1,h2,h3,h4⟩:=id hf
  ac_rfl
  left
  refine dP h1 (eG (by decide +kernel) (by decide +kernel) (by decide +kernel)) ?_
  exact⟨x,nt,m,1,rfl,hn,hm,by decide,q⟩
def FS (F:Addr->Prop)(H:Hp):Prop:=∀b,F b->∃o,H b=some o/\soft o
theorem FS.fr{F:Addr->Prop}(h:FS F H)(f:Fr Z H H')(hz:∀b,F b->¬Z b):FS F H':=λb hb=>by
 obtain⟨o,e,s⟩:=h b hb
 exact⟨o,f.at e (hz b hb),s⟩
theorem _root_.DD.dO.rD{F:Addr->Prop}{n:Nat->Nat}{ct:Nat->Nat->CO}(h:dO F H n ad ct):∀b,F b->¬FP n ad b:=λb hb ⟨t,i,hi,e⟩=>h.out t i hi (e ▸ hb)
theorem small {n:Nat}(h:n<=20000):n < sizeLine:=by rw[sizeLine_eq];omega
theorem NI {r:RS}{n:NT}{w:Nat}{x:Int}{s:Option (Int×Int)}:∀t i,i < n.n t->setC (setC (setC r.ct 4 w (.l ((r.ww w).say.map .int++[.int x]))) 5 w (.l ((r.ww w).snd.map tN++[tN s]))) 6 w (.l ((r.ww w).jN.map tN++[.bR])) t i=(r.put w x s).ct t i:=by
 intro t i hi
 unfold setC
 match t,hi with
 | 0,_=>simp[RS.ct,RS.put]
 | 1,_=>simp[RS.ct,RS.put]
 | 2,_=>simp[RS.ct,RS.put]
 | 3,_=>simp[RS.ct,RS.put]
 | 4,_=>by_cases e:i=w <;> simp[RS.ct,RS.put,e]
 | 5,_=>by_cases e:i=w <;> simp[RS.ct,RS.put,e]
 | 6,_=>by_cases e:i=w <;> simp[RS.ct,RS.put,e,tN]
 | (t + 7),hi=>exact absurd hi (Nat.not_lt_zero i)
abbrev gp:Stmt:=(bW (top 14)).getD 1 (.Pass ⟨0,0,0,0⟩)
inductive Ax (C CN CR:Addr)(vs:List V)(H:Hp)(Q:VK):Prop
 | mk (F:Addr->Prop) (x bA:Addr) (nt:NT) (r:RS) (ad:Nat->Nat->Addr) (wy:Nat) (said:Int) (sv:V) (s:Option (Int×Int)) (h0:vs=[.ref x,.int (wy:Nat),.int said,sv]) (h1:cE C CN CR F H x bA nt r ad) (h2:FS F H) (h3:wy < nt.ws.length) (h4:HT H 4 sv (tN s)) (h5:r.rW nt 19999) (h6:∀H',Fr (FP nt.n ad) H H'->cE C CN CR F H' x bA nt (r.put wy said s) ad->Q .bR H'):Ax C CN CR vs H Q
def rE (C CN CR:Addr):Sp:=λvs H Q _=>Ax C CN CR vs H Q
theorem oQ (D:gD K CR "put_letter" "Run.put_letter" gp ["self","way","said","sender"])(T:Tx K mg C CN CR F FD):cB P w K mg base CR "put_letter" 1 ["self","way","said","sender"] (rE C CN CR):=by
 have sc:aD ["self","way","said","sender"] ["self","way","said","sender"] (az gp):=by walk_at "s"
 symm
 ·obtain⟨F,x,bA,nt,r,ad,wy,said,sv,s,rfl,hR,oR,hw,KC,bf,q⟩:=h
  rfl
 ·nofun
  obtain⟨F,x,bA,nt,r,ad,wy,said,sv,s,rfl,hR,oR,hw,KC,bf,q⟩:=h
  ac_rfl
  have hu:=hr.units
  refine⟨_,(aj (bY (du lO nQ nR bV (ak hu (bI (au 0) rfl) (au 1)) (ai (au 2) aa)))
   (aj (bY (du lO nQ nR bV (ak hu (bI (au 0) rfl) (au 1)) (ai (au 3) aa)))
   (ao (bY (du lO nQ nR bV (ak hu (bI (au 0) rfl) (au 1)) (ai j9 aa)))))),?_⟩
  nofun
  obtain⟨dx,o,hx,ho⟩:=hR.ins
  have b0:=hR.cH
  have l4:=(ho 4 (by decide) (by decide)).1
  have n5:=(ho 5 (by decide) (by decide)).2.2
  have n6:=(ho 6 (by decide) (by decide)).2.2
  have hb4:=bf.bs wy hw
  have hb5:=bf.ls wy hw
  have hb6:=bf.lk wy hw
  obtain⟨v4,e4,d4⟩:=b0.lst (t:=4) (i:=wy) hw rfl
  ac_rfl
  have z4:v4.length=(r.ww wy).say.length:=by simpa using d4.1
  left
  refine eQ hx T.aR T.bG yN ?_
  left
  refine bu l4 (aW hw) ?_
  refine⟨.inl ⟨rfl,_,aP.of e4⟩,?_⟩
  left
  refine gc v4 e4 (small (by omega)) ?_
  have b1:=b0.app (t:=4) (i:=wy) hw rfl e4 (c9.one (.int said))
  have f1:Fr (FP nt.n ad) H (upd H (ad 4 wy) (.lst (v4++[.int said]))):=Fr.refl.upd ⟨4,wy,hw,rfl⟩ e4 trivial
  generalize Vg:upd H (ad 4 wy) (.lst (v4++[.int said]))=G1 at *
  have qi:=f1.lE hx id
  have l51:=f1.at (ho 5 (by decide) (by decide)).1 n5
  obtain⟨v5,e5,d5⟩:=b1.lst (t:=5) (i:=wy) hw rfl
  have z5:v5.length=(r.ww wy).snd.length:=by simpa using d5.1
  have Ya:=oR.fr f1 b0.rD
  left
  refine eQ qi T.aR T.fc X9 ?_
  left
  refine bu l51 (aW hw) ?_
  refine⟨.inl ⟨rfl,_,aP.of e5⟩,?_⟩
  left
  refine gc v5 e5 (small (by omega)) ?_
  have b2:=b1.app (t:=5) (i:=wy) hw rfl e5 (c9.one (b1.ht Ya (KC.aI f1.aQ)))
  have f2:Fr (FP nt.n ad) H (upd G1 (ad 5 wy) (.lst (v5++[sv]))):=f1.upd ⟨5,wy,hw,rfl⟩ e5 trivial
  generalize Ku:upd G1 (ad 5 wy) (.lst (v5++[sv]))=G2 at *
  have BN:=f2.lE hx id
  have Yb:=f2.at (ho 6 (by decide) (by decide)).1 n6
  obtain⟨v6,e6,d6⟩:=b2.lst (t:=6) (i:=wy) hw rfl
  have z6:v6.length=(r.ww wy).jN.length:=by simpa using d6.1
  left
  refine eQ BN T.aR T.dg Ff ?_
  left
  refine bu Yb (aW hw) ?_
  refine⟨.inl ⟨rfl,_,aP.of e6⟩,?_⟩
  left
  refine gc v6 e6 (small (by omega)) ?_
  have b3:=b2.app (t:=6) (i:=wy) hw rfl e6 (c9.one (.bR))
  have f3:Fr (FP nt.n ad) H (upd G2 (ad 6 wy) (.lst (v6++[.bR]))):=f2.upd ⟨6,wy,hw,rfl⟩ e6 trivial
  exact q _ f3 (hR.own f3 (b3.congr NI))
abbrev fe:Stmt:=(bW (top 14)).getD 2 (.Pass ⟨0,0,0,0⟩)
def Ay (C CN CR:Addr):Sp:=λvs H Q _=>∃(F:Addr->Prop) (x bA:Addr) (nt:NT) (r:RS) (ad:Nat->Nat->Addr) (m:Nat),vs=[.ref x,.int m]/\cE C CN CR F H x bA nt r ad/\m < nt.ms.length/\Q .bR H
theorem mz (D:gD K CR "need_machine" "Run.need_machine" fe ["self","m"])(T:Tx K mg C CN CR F FD)(aJ:Def P w K mg base "is_within" 2 ["thing","low","beyond"] cD):cB P w K mg base CR "need_machine" 3 ["self","m"] (Ay C CN CR):=by
 have sc:aD ["self","m"] ["self","m"] (az fe):=by walk_at "s"
 symm
 ·obtain⟨F,x,bA,nt,r,ad,m,rfl,hR,hm,q⟩:=h
  rfl
 ·nofun
  obtain⟨F,x,bA,nt,r,ad,m,rfl,hR,hm,q⟩:=h
  ac_rfl
  have hu:=hr.units
  refine⟨_,(ao (aS (bT (bb (aN aJ hr (ai (au 1) (ai ag (ai (aT aM rfl T.cm PySem.boot_len (ai (bI (au 0) rfl) aa)) aa)))))) (ao dA) aG)),?_⟩
  obtain⟨dx,o,hx,ho⟩:=hR.ins
  have l1:=(ho 1 (by decide) (by decide)).1
  left
  refine⟨x,CR,dx,_,_,rfl,hx,T.aR,T.cp,Fe,_,.inl ⟨_,aP.of l1,rfl⟩,?_⟩
  refine fK (.int m) _ 0 _ rfl (.int _) ?_
  rw[wW]
  rw[show inR 0 ((nt.n 1:Nat):Int) (.int (m:Int))=true by simp[inR];exact hm]
  refine sC ?_
  rw[if_neg (by decide)]
  left
  exact q
abbrev ic:Stmt:=(bW (top 14)).getD 4 (.Pass ⟨0,0,0,0⟩)
def Az (C CN CR:Addr):Sp:=λvs H Q _=>∃(F:Addr->Prop) (x bA:Addr) (nt:NT) (r:RS) (ad:Nat->Nat->Addr) (m:Nat) (a:V),vs=[.ref x,.int m,a]/\cE C CN CR F H x bA nt r ad/\m < nt.ws.length/\Q .bR H
theorem rF (D:gD K CR "need_way" "Run.need_way" ic ["self","way","at"])(T:Tx K mg C CN CR F FD)(aJ:Def P w K mg base "is_within" 2 ["thing","low","beyond"] cD):cB P w K mg base CR "need_way" 3 ["self","way","at"] (Az C CN CR):=by
 have sc:aD ["self","way","at"] ["self","way","at"] (az ic):=by walk_at "s"
 symm
 ·obtain⟨F,x,bA,nt,r,ad,m,a,rfl,hR,hm,q⟩:=h
  rfl
 ·nofun
  obtain⟨F,x,bA,nt,r,ad,m,a,rfl,hR,hm,q⟩:=h
  ac_rfl
  have hu:=hr.units
  refine⟨_,(ao (aS (bT (bb (aN aJ hr (ai (au 1) (ai ag (ai (aT aM rfl T.cm PySem.boot_len (ai (bI (au 0) rfl) aa)) aa)))))) (ao dA) aG)),?_⟩
  obtain⟨dx,o,hx,ho⟩:=hR.ins
  have l1:=(ho 4 (by decide) (by decide)).1
  left
  refine⟨x,CR,dx,_,_,rfl,hx,T.aR,T.bG,yN,_,.inl ⟨_,aP.of l1,rfl⟩,?_⟩
  refine fK (.int m) _ 0 _ rfl (.int _) ?_
  rw[wW]
  rw[show inR 0 ((nt.n 4:Nat):Int) (.int (m:Int))=true by simp[inR];exact hm]
  refine sC ?_
  rw[if_neg (by decide)]
  left
  exact q
abbrev fL:Stmt:=(bW (top 14)).getD 5 (.Pass ⟨0,0,0,0⟩)
theorem dS {bA:V}{o:Nat->Addr}(h:f ∉ (["own_net","picks_done","states_had","words_had","words_said","letters_say","senders","workers"]:List Str)):(Cs bA p o).lookup f=none:=by
 simp only[List.mem_cons,List.not_mem_nil,or_false,not_or] at h
 unfold Cs
 simp[List.lookup,beq_eq_false_iff_ne.mpr h.1,beq_eq_false_iff_ne.mpr h.2.1,beq_eq_false_iff_ne.mpr h.2.2.1,beq_eq_false_iff_ne.mpr h.2.2.2.1,beq_eq_false_iff_ne.mpr h.2.2.2.2.1,beq_eq_false_iff_ne.mpr h.2.2.2.2.2.1,beq_eq_false_iff_ne.mpr h.2.2.2.2.2.2.1,beq_eq_false_iff_ne.mpr h.2.2.2.2.2.2.2]
def Fg (C CN CR:Addr):Sp:=λvs H Q _=>∃(F:Addr->Prop) (x bA:Addr) (nt:NT) (r:RS) (ad:Nat->Nat->Addr) (m k:Nat) (a:V),vs=[.ref x,.int m,.int k,a]/\cE C CN CR F H x bA nt r ad/\m < nt.ws.length/\k < (r.ww m).say.length/\Q .bR H
theorem nE (D:gD K CR "need_letter" "Run.need_letter" fL ["self","way","number","at"])(T:Tx K mg C CN CR F FD)(aJ:Def P w K mg base "is_within" 2 ["thing","low","beyond"] cD)(cF:cB P w K mg base CR "need_way" 3 ["self","way","at"] (Az C CN CR)):cB P w K mg base CR "need_letter" 4 ["self","way","number","at"] (Fg C CN CR):=by
 have sc:aD ["self","way","number","at"] ["self","way","number","at"] (az fL):=by walk_at "s"
 symm
 ·obtain⟨F,x,bA,nt,r,ad,m,k,a,rfl,hR,hm,hk,q⟩:=h
  rfl
 ·nofun
  obtain⟨F,x,bA,nt,r,ad,m,k,a,rfl,hR,hm,hk,q⟩:=h
  ac_rfl
  have hu:=hr.units
  refine⟨_,(aj (bY (dE cF T.aR hr (au 0) (ai (au 1) (ai (au 3) aa))))
   (ao (aS (bT (bb (aN aJ hr (ai (au 2) (ai ag (ai (aT aM rfl T.cm PySem.boot_len (ai (ak hu (bI (au 0) rfl) (au 1)) aa)) aa)))))) (ao dA) aG))),?_⟩
  nofun
  obtain⟨dx,o,hx,ho⟩:=hR.ins
  have l4:=(ho 4 (by decide) (by decide)).1
  obtain⟨v4,e4,d4⟩:=hR.cH.lst (t:=4) (i:=m) hm rfl
  ac_rfl
  have z4:v4.length=(r.ww m).say.length:=by simpa using d4.1
  left
  refine dP hx (dS (by decide +kernel)) ?_
  refine⟨_,x,bA,nt,r,ad,m,_,rfl,hR,hm,?_⟩
  left
  refine eQ hx T.aR T.bG yN ?_
  left
  refine bu l4 (aW hm) ?_
  refine bx _ (.inl ⟨_,aP.of e4,rfl⟩) ?_
  refine fK (.int k) _ 0 _ rfl (.int _) ?_
  rw[show inR 0 ((v4.length:Nat):Int) (.int (k:Int))=true by simp[inR];omega]
  refine sC ?_
  rw[if_neg (by decide)]
  left
  exact q
structure _root_.DD.RS.R7(nt:NT)(r:RS)(w k:Nat):Prop where
 lt:w < nt.ws.length
 lies:(r.ww w).jN[k]?=some none
 row:(nt.w w).2.2="row"->0 < k->∃e,(r.ww w).jN[k - 1]?=some (some e)
theorem yQ {n:Nat}{v:V}(h:HD H n v (tN none)):v=.bR:=by
 have h:HD H n v .bR:=h
 cases h;rfl
theorem nH {H:Hp}{n:Nat}{v:V}{e:Int×Int}(h:HD H n v (tN (some e))):∃a,v=.ref a/\H a=some (.tup [.int e.1,.int e.2]):=by
 have h:HD H n v (.tup [.int e.1,.int e.2]):=h
 cases h with
 | @tup n a xs _ e l i=>
  match xs,l,e,i with
  | [u,v],_,e,i=>
   have h1:=i 0 u _ rfl rfl
   have h2:=i 1 v _ rfl rfl
   obtain rfl:=h1.bS
   obtain rfl:=h2.bS
   exact⟨a,rfl,e⟩
theorem jX {vs:List V}{v:V}(h:1<=vs.length)(e:vs[vs.length - 1]?=some v):gB vs (-1)=some v:=by
 obtain⟨ys,z,rfl⟩:∃ys z,vs=ys++[z]:=⟨vs.dropLast,vs.getLast (by intro h';rw[h'] at h;simp at h),(List.dropLast_concat_getLast _).symm⟩
 rw[jv]
 simpa using e
abbrev gL:Stmt:=(bW (top 14)).getD 6 (.Pass ⟨0,0,0,0⟩)
def KD (C CN CR:Addr):Sp:=λvs H Q _=>∃(F:Addr->Prop) (x bA:Addr) (nt:NT) (r:RS) (ad:Nat->Nat->Addr) (m k:Nat) (a:V),vs=[.ref x,.int m,.int k,a]/\cE C CN CR F H x bA nt r ad/\r.Ok nt/\r.R7 nt m k/\∀H',av H H'->Q .bR H'
theorem p6 (D:gD K CR "need_pick" "Run.need_pick" gL ["self","way","number","at"])(T:Tx K mg C CN CR F FD)(di:cB P w K mg base CN "ways" 1 ["self"] (nB CN))(cO:cB P w K mg base CR "need_letter" 4 ["self","way","number","at"] (Fg C CN CR)):cB P w K mg base CR "need_pick" 5 ["self","way","number","at"] (KD C CN CR):=by
 have sc:aD ["self","way","number","at","sort"] ["self","way","number","at"] (az gL):=by walk_at "s"
 symm
 ·obtain⟨F,x,bA,nt,r,ad,m,k,a,rfl,hR,gF,hc,q⟩:=h
  rfl
 ·nofun
  obtain⟨F,x,bA,nt,r,ad,m,k,a,rfl,hR,gF,hc,q⟩:=h
  ac_rfl
  have hu:=hr.units
  refine⟨_,(aj (bY (dE cO T.aR hr (au 0) (ai (au 1) (ai (au 2) (ai (au 3) aa)))))
   (aj (aS (aA tK (ak hu (ak hu (bI (au 0) rfl) (au 1)) (au 2)) j9 (aC _)) (ao dA) aG)
   (aj (ba (i:=4) sc.nd rfl (by grind) (ak hu (ak hu (fF di T.df hr (bI (au 0) rfl)) (au 1)) ag))
   (ao (aS (PW.pt (pw_and (aA (aV hu) (au 4) aB (aC _)) (pw_and (aA lV (au 2) ag (aC _)) (pw_and1 (aA yl (ak hu (ak hu (bI (au 0) rfl) (au 1)) (aY eX (au 2) ag)) j9 (aC _)))))) (ao dA) aG))))),?_⟩
  nofun
  obtain⟨dx,o,hx,ho⟩:=hR.ins
  obtain⟨⟨ms,wv,lv,hf,lN,xH,KG⟩,bf⟩:=hR.NH
  have l6:=(ho 6 (by decide) (by decide)).1
  have hm:=hc.lt
  obtain⟨v6,e6,d6⟩:=hR.cH.lst (t:=6) (i:=m) hm rfl
  have hk:=hc.lies
  have Fh:k < (r.ww m).jN.length:=(List.getElem?_eq_some_iff.mp hk).1
  obtain⟨v,ev,dv⟩:=d6.get (i:=k) (d:=tN none) (by rw[List.getElem?_map,hk];rfl)
  have:=yQ dv
  subst this
  ac_rfl
  left
  refine dP hx (dS (by decide +kernel)) ?_
  refine⟨_,x,bA,nt,r,ad,m,k,a,rfl,hR,hm,by rw[gF.lk m hm];exact Fh,?_⟩
  left
  refine eQ hx T.aR T.dg Ff ?_
  left
  refine bu l6 (aW hm) ?_
  refine bu e6 (ax ev) ?_
  left
  try rw[if_neg (by decide)]
  left
  refine eQ hx T.aR T.cQ oP ?_
  nofun
  obtain⟨dn,a1,b1,c1,g1,g2,g3,g4⟩:=id hf
  ac_rfl
  left
  refine dP g1 (eG (by decide +kernel) (by decide +kernel) (by decide +kernel)) ?_
  refine fK bA ms wv lv rfl hf (λl hl=>?_)
  have s1:=av.new (.lst wv) hl
  have el:upd H l (.lst wv) l=some (.lst wv):=af
  generalize hG:upd H l (.lst wv)=G at *
  left
  have R8:nt.ws[m]?=some (nt.w m):=bz hm
  have fQ:m < wv.length:=by have:=KG.1;simp at this;omega
  have yP:=(KG.2 m wv[m] (ku (nt.w m)) (by simp) (by rw[List.getElem?_map,R8];rfl)).aI s1.aQ
  nofun
  obtain⟨ta,u1,u2,u3,kk,eta,ub,q1,q2,q3⟩:=b4 yP
  obtain rfl:=q1.bS
  obtain rfl:=q2.bS
  obtain rfl:=q3.bM
  ac_rfl
  refine bu el (ax (j:=m) (v:=.ref ta) (by rw[<-eta];simp)) ?_
  refine cJ ub (ax (j:=2) rfl) ?_
  left
  have BN:=s1 _ _ hx
  have Yb:=s1 _ _ l6
  have e62:=s1 _ _ e6
  have qq:=q _ s1
  have gU:=hc.row
  by_cases z1:(nt.w m).2.2="row"
  ·by_cases z2:0 < k
   ·nofun
    obtain⟨e,he⟩:=gU z1 z2
    obtain⟨v',Yc,dv'⟩:=d6.get (i:=k - 1) (d:=tN (some e)) (by rw[List.getElem?_map,he];rfl)
    obtain⟨ae,rfl,QX⟩:=nH dv'
    ac_rfl
    rw[if_pos (by simp[z1]),if_pos (by simp;omega)]
    refine eQ BN T.aR T.dg Ff ?_
    left
    refine bu Yb (aW hm) ?_
    refine bu e62 (show gB v6 ((k:Int) - 1)=some (.ref ae) from by rw[show(k:Int) - 1=((k - 1:Nat):Int) by omega];exact ax Yc) ?_
    left
    try rw[if_neg (by decide)]
    left
    exact qq
   ·rw[if_pos (by simp[z1]),if_neg (by simp;omega),if_neg (by decide)]
    left
    exact qq
  ·rw[if_neg (by simp[z1]),if_neg (by decide)]
   left
   exact qq
abbrev kH:Stmt:=(bW (top 14)).getD 11 (.Pass ⟨0,0,0,0⟩)
theorem Fi {H:Hp}{n:Nat}{v:V}{s:List Int×List Int}(h:HD H n v (pU s)):HT H 2 v (vo s.1 s.2):=by
 have h:HD H n v (.tup [.tup (s.1.map .int),.tup (s.2.map .int)]):=h
 cases h with
 | @tup n a xs _ e l i=>
  match xs,l,e,i with
  | [u,v],_,e,i=>
   have h1:=i 0 u _ rfl rfl
   have h2:=i 1 v _ rfl rfl
   have key:∀{n:Nat} {u:V} {ns:List Int},HD H n u (.tup (ns.map .int))->HT H 1 u (.tup (ns.map .int)):=λ{n u ns} h=>by
    cases h with
    | @tup n a xs _ e l i=>exact nj (n:=0) (by rw[e,show xs=ns.map V.int from c9.jM ⟨l,i⟩])
   exact dw e (key h1) (key h2)
def Fj (C CN CR:Addr):Sp:=λvs H Q _=>∃(F:Addr->Prop) (x bA:Addr) (nt:NT) (r:RS) (ad:Nat->Nat->Addr) (m:Nat),vs=[.ref x,.int m]/\cE C CN CR F H x bA nt r ad/\r.Ok nt/\m < nt.ms.length/\∀v,HT H 2 v (vo ((r.mm m).gE.bg ([],[])).1 ((r.mm m).gE.bg ([],[])).2)->Q v H
theorem wX (D:gD K CR "state" "Run.state" kH ["self","m"])(T:Tx K mg C CN CR F FD)(bL:cB P w K mg base CR "need_machine" 3 ["self","m"] (Ay C CN CR)):cB P w K mg base CR "state" 4 ["self","m"] (Fj C CN CR):=by
 have sc:aD ["self","m"] ["self","m"] (az kH):=by walk_at "s"
 symm
 ·obtain⟨F,x,bA,nt,r,ad,m,rfl,hR,gF,hm,q⟩:=h
  rfl
 ·nofun
  obtain⟨F,x,bA,nt,r,ad,m,rfl,hR,gF,hm,q⟩:=h
  ac_rfl
  have hu:=hr.units
  refine⟨_,(aj (bY (dE bL T.aR hr (au 0) (ai (au 1) aa)))
   (ao (aE (ak hu (ak hu (bI (au 0) rfl) (au 1)) (js fU ag))))),?_⟩
  nofun
  obtain⟨dx,o,hx,ho⟩:=hR.ins
  have l1:=(ho 1 (by decide) (by decide)).1
  obtain⟨v1,e1,d1⟩:=hR.cH.lst (t:=1) (i:=m) hm rfl
  have z1:v1.length=(r.mm m).gE.length:=by simpa using d1.1
  have h1:=gF.uU hm
  obtain⟨v,ev,dv⟩:=d1.get (i:=(r.mm m).gE.length - 1) (d:=pU ((r.mm m).gE.bg ([],[]))) (by rw[List.getElem?_map,jy (d:=([],[])) h1];rfl)
  ac_rfl
  left
  refine dP hx (dS (by decide +kernel)) ?_
  refine⟨_,x,bA,nt,r,ad,m,rfl,hR,hm,?_⟩
  left
  refine eQ hx T.aR T.cp Fe ?_
  left
  refine bu l1 (aW hm) ?_
  refine bu e1 (jX (by omega) (by rw[z1];exact ev)) ?_
  exact q _ (Fi (dv.cv dW))
abbrev kI:Stmt:=(bW (top 14)).getD 10 (.Pass ⟨0,0,0,0⟩)
def Fl (C CN CR:Addr):Sp:=λvs H Q _=>∃(F:Addr->Prop) (x bA:Addr) (nt:NT) (r:RS) (ad:Nat->Nat->Addr) (m:Nat),vs=[.ref x,.int m]/\cE C CN CR F H x bA nt r ad/\m < nt.ms.length/\Q (.int (((r.mm m).gE.length:Nat) - 1)) H
theorem wY (D:gD K CR "count" "Run.count" kI ["self","m"])(T:Tx K mg C CN CR F FD)(bL:cB P w K mg base CR "need_machine" 3 ["self","m"] (Ay C CN CR)):cB P w K mg base CR "count" 4 ["self","m"] (Fl C CN CR):=by
 have sc:aD ["self","m"] ["self","m"] (az kI):=by walk_at "s"
 symm
 ·obtain⟨F,x,bA,nt,r,ad,m,rfl,hR,hm,q⟩:=h
  rfl
 ·nofun
  obtain⟨F,x,bA,nt,r,ad,m,rfl,hR,hm,q⟩:=h
  ac_rfl
  have hu:=hr.units
  refine⟨_,(aj (bY (dE bL T.aR hr (au 0) (ai (au 1) aa)))
   (ao (aE (aY eX (aT aM rfl T.cm PySem.boot_len (ai (ak hu (bI (au 0) rfl) (au 1)) aa)) ag)))),?_⟩
  nofun
  obtain⟨dx,o,hx,ho⟩:=hR.ins
  have l1:=(ho 1 (by decide) (by decide)).1
  obtain⟨v1,e1,d1⟩:=hR.cH.lst (t:=1) (i:=m) hm rfl
  ac_rfl
  have z1:v1.length=(r.mm m).gE.length:=by simpa using d1.1
  left
  refine dP hx (dS (by decide +kernel)) ?_
  refine⟨_,x,bA,nt,r,ad,m,rfl,hR,hm,?_⟩
  left
  refine eQ hx T.aR T.cp Fe ?_
  left
  refine bu l1 (aW hm) ?_
  refine bx _ (.inl ⟨_,aP.of e1,rfl⟩) ?_
  left
  rw[z1]
  exact q
abbrev kJ:Stmt:=(bW (top 14)).getD 12 (.Pass ⟨0,0,0,0⟩)
def Fm (C CN CR:Addr):Sp:=λvs H Q _=>∃(F:Addr->Prop) (x bA:Addr) (nt:NT) (r:RS) (ad:Nat->Nat->Addr) (m:Nat),vs=[.ref x,.int m]/\cE C CN CR F H x bA nt r ad/\m < nt.ms.length/\∀l,H l=none->Q (.ref l) (upd H l (.lst (((r.mm m).wp.bg []).map V.int)))
theorem wZ (D:gD K CR "words" "Run.words" kJ ["self","m"])(T:Tx K mg C CN CR F FD)(bL:cB P w K mg base CR "need_machine" 3 ["self","m"] (Ay C CN CR)):cB P w K mg base CR "words" 4 ["self","m"] (Fm C CN CR):=by
 have sc:aD ["self","m"] ["self","m"] (az kJ):=by walk_at "s"
 symm
 ·obtain⟨F,x,bA,nt,r,ad,m,rfl,hR,hm,q⟩:=h
  rfl
 ·nofun
  obtain⟨F,x,bA,nt,r,ad,m,rfl,hR,hm,q⟩:=h
  ac_rfl
  have hu:=hr.units
  refine⟨_,(aj (bY (dE bL T.aR hr (au 0) (ai (au 1) aa)))
   (ao (aE (dB cC rfl T.dI um (ai (ak hu (bI (au 0) rfl) (au 1)) aa))))),?_⟩
  nofun
  obtain⟨dx,o,hx,ho⟩:=hR.ins
  have l3:=(ho 3 (by decide) (by decide)).1
  obtain⟨v3,e3,d3⟩:=hR.cH.lst (t:=3) (i:=m) hm rfl
  ac_rfl
  have z3:=d3.jM
  left
  refine dP hx (dS (by decide +kernel)) ?_
  refine⟨_,x,bA,nt,r,ad,m,rfl,hR,hm,?_⟩
  left
  refine eQ hx T.aR T.cK NG ?_
  left
  refine bu l3 (aW hm) ?_
  refine bx _ (.inl (aP.of e3)) (λl hl=>?_)
  rw[z3]
  exact q l hl
abbrev ie:Stmt:=(bW (top 14)).getD 14 (.Pass ⟨0,0,0,0⟩)
def KH (C CN CR:Addr):Sp:=λvs H Q _=>∃(F:Addr->Prop) (x bA:Addr) (nt:NT) (r:RS) (ad:Nat->Nat->Addr) (m:Nat),vs=[.ref x,.int m]/\cE C CN CR F H x bA nt r ad/\m < nt.ws.length/\Q (.int ((r.ww m).say.length:Nat)) H
theorem rG (D:gD K CR "put_many" "Run.put_many" ie ["self","way"])(T:Tx K mg C CN CR F FD)(cF:cB P w K mg base CR "need_way" 3 ["self","way","at"] (Az C CN CR)):cB P w K mg base CR "put_many" 4 ["self","way"] (KH C CN CR):=by
 have sc:aD ["self","way"] ["self","way"] (az ie):=by walk_at "s"
 symm
 ·obtain⟨F,x,bA,nt,r,ad,m,rfl,hR,hm,q⟩:=h
  rfl
 ·nofun
  obtain⟨F,x,bA,nt,r,ad,m,rfl,hR,hm,q⟩:=h
  ac_rfl
  have hu:=hr.units
  refine⟨_,(aj (bY (dE cF T.aR hr (au 0) (ai (au 1) (ai ag aa))))
   (ao (aE (aT aM rfl T.cm PySem.boot_len (ai (ak hu (bI (au 0) rfl) (au 1)) aa))))),?_⟩
  nofun
  obtain⟨dx,o,hx,ho⟩:=hR.ins
  have l4:=(ho 4 (by decide) (by decide)).1
  obtain⟨v4,e4,d4⟩:=hR.cH.lst (t:=4) (i:=m) hm rfl
  ac_rfl
  have z4:v4.length=(r.ww m).say.length:=by simpa using d4.1
  left
  refine dP hx (dS (by decide +kernel)) ?_
  refine⟨_,x,bA,nt,r,ad,m,_,rfl,hR,hm,?_⟩
  left
  refine eQ hx T.aR T.bG yN ?_
  left
  refine bu l4 (aW hm) ?_
  refine bx _ (.inl ⟨_,aP.of e4,rfl⟩) ?_
  rw[z4]
  exact q
abbrev ig:Stmt:=(bW (top 14)).getD 15 (.Pass ⟨0,0,0,0⟩)
def Fn (C CN CR:Addr):Sp:=λvs H Q _=>∃(F:Addr->Prop) (x bA:Addr) (nt:NT) (r:RS) (ad:Nat->Nat->Addr),vs=[.ref x]/\cE C CN CR F H x bA nt r ad/\∀l U8,H l=none->c9 H 4 U8 (r.picks.map pairD)->Q (.ref l) (upd H l (.lst U8))
theorem rH (D:gD K CR "schedule" "Run.schedule" ig ["self"])(T:Tx K mg C CN CR F FD):cB P w K mg base CR "schedule" 1 ["self"] (Fn C CN CR):=by
 have sc:aD ["self"] ["self"] (az ig):=by walk_at "s"
 symm
 ·obtain⟨F,x,bA,nt,r,ad,rfl,hR,q⟩:=h
  rfl
 ·nofun
  obtain⟨F,x,bA,nt,r,ad,rfl,hR,q⟩:=h
  ac_rfl
  have hu:=hr.units
  refine⟨_,(ao (aE (dB cC rfl T.dI um (ai (bI (au 0) rfl) aa)))),?_⟩
  nofun
  obtain⟨dx,o,hx,ho⟩:=hR.ins
  obtain⟨v0,e0,d0⟩:=hR.cH.lst (t:=0) (i:=0) (by show 0 < 1;decide) rfl
  ac_rfl
  left
  refine eQ hx T.aR T.cX R6 ?_
  left
  refine bx _ (.inl (aP.of e0)) (λl hl=>?_)
  exact q l _ hl (d0.cv dW)
abbrev mB:Stmt:=(bW (top 14)).getD 16 (.Pass ⟨0,0,0,0⟩)
def AA (C CN CR:Addr):Sp:=λvs H Q _=>∃(F:Addr->Prop) (x bA:Addr) (nt:NT) (r:RS) (ad:Nat->Nat->Addr) (m k:Nat),vs=[.ref x,.int m,.int k]/\cE C CN CR F H x bA nt r ad/\m < nt.ws.length/\k < (r.ww m).say.length/\Q (.int ((r.ww m).say.getD k 0)) H
theorem yR (D:gD K CR "said" "Run.said" mB ["self","way","number"])(T:Tx K mg C CN CR F FD)(cO:cB P w K mg base CR "need_letter" 4 ["self","way","number","at"] (Fg C CN CR)):cB P w K mg base CR "said" 5 ["self","way","number"] (AA C CN CR):=by
 have sc:aD ["self","way","number"] ["self","way","number"] (az mB):=by walk_at "s"
 symm
 ·obtain⟨F,x,bA,nt,r,ad,m,k,rfl,hR,hm,hk,q⟩:=h
  rfl
 ·nofun
  obtain⟨F,x,bA,nt,r,ad,m,k,rfl,hR,hm,hk,q⟩:=h
  ac_rfl
  have hu:=hr.units
  refine⟨_,(aj (bY (dE cO T.aR hr (au 0) (ai (au 1) (ai (au 2) (ai ag aa)))))
   (ao (aE (ak hu (ak hu (bI (au 0) rfl) (au 1)) (au 2))))),?_⟩
  nofun
  obtain⟨dx,o,hx,ho⟩:=hR.ins
  have l4:=(ho 4 (by decide) (by decide)).1
  obtain⟨v4,e4,d4⟩:=hR.cH.lst (t:=4) (i:=m) hm rfl
  have z4:=d4.jM
  subst z4
  ac_rfl
  left
  refine dP hx (dS (by decide +kernel)) ?_
  refine⟨_,x,bA,nt,r,ad,m,k,_,rfl,hR,hm,hk,?_⟩
  left
  refine eQ hx T.aR T.bG yN ?_
  left
  refine bu l4 (aW hm) ?_
  refine bu e4 (ax (j:=k) (v:=.int ((r.ww m).say.getD k 0)) (by rw[List.getElem?_map,bz (d:=0) hk];rfl)) ?_
  exact q
abbrev oS:Stmt:=(bW (top 14)).getD 8 (.Pass ⟨0,0,0,0⟩)
def AB (C CN CR:Addr):Sp:=λvs H Q _=>∃(F:Addr->Prop) (x bA:Addr) (nt:NT) (r:RS) (ad:Nat->Nat->Addr),vs=[.ref x]/\cE C CN CR F H x bA nt r ad/\Q (.ref bA) H
theorem BX (D:gD K CR "net" "Run.net" oS ["self"])(T:Tx K mg C CN CR F FD):cB P w K mg base CR "net" 1 ["self"] (AB C CN CR):=by
 have sc:aD ["self"] ["self"] (az oS):=by walk_at "s"
 symm
 ·obtain⟨F,x,bA,nt,r,ad,rfl,hR,q⟩:=h
  rfl
 ·nofun
  obtain⟨F,x,bA,nt,r,ad,rfl,hR,q⟩:=h
  ac_rfl
  have hu:=hr.units
  refine⟨_,(ao (aE (bI (au 0) rfl))),?_⟩
  obtain⟨dx,o,hx,ho⟩:=hR.ins
  left
  refine eQ hx T.aR T.cQ oP ?_
  exact q
theorem rJ {w:Nat}:∀{l:List Nat},w ∈ l->l[l.idxOf w]?=some w/\∀i y,i < l.idxOf w->l[i]?=some y->y≠w
 | [],h=>by simp at h
 | a::r,h=>by
  by_cases e:a=w
  ·subst e
   rw[List.idxOf_cons_self]
   exact⟨rfl,λi y hi=>absurd hi (Nat.not_lt_zero i)⟩
  ·have hr:w ∈ r:=by
    rcases List.mem_cons.mp h with h | h
    ·exact absurd h.symm e
    ·exact h
   obtain⟨h1,h2⟩:=rJ hr
   have ec:(a::r).idxOf w=r.idxOf w + 1:=by rw[List.idxOf_cons,beq_eq_false_iff_ne.mpr e];rfl
   rw[ec]
   refine⟨by simpa using h1,λi y hi hy=>?_⟩
   cases i with
   | zero=>simp at hy;subst hy;exact e
   | succ i=>exact h2 i y (by omega) (by simpa using hy)
theorem AD {n k:Nat}(h:k < n):pK n (k:Int)=some k:=by
 unfold pK
 rw[if_pos (by omega),if_pos (by omega)]
 simp
theorem qr {nt:NT}(h:nt.Ok){w:Nat}(hw:w < nt.ws.length):(nt.w w).2.1=((nt.goal w:Nat):Int):=by
 have:=h.wy hw
 unfold NT.goal
 omega
theorem Fo {nt:NT}(h:nt.Ok){w:Nat}(hw:w < nt.ws.length):w ∈ rA nt 1 (nt.goal w):=by
 unfold rA
 rw[List.mem_filter]
 refine⟨List.mem_range.mpr hw,?_⟩
 rw[decide_eq_true_eq]
 exact qr h hw
theorem nI {nt:NT}(h:nt.Ok){w:Nat}(hw:w < nt.ws.length):(rA nt 1 (nt.goal w)).idxOf w=nt.place w:=by
 unfold NT.place
 rw[qr h hw]
 rfl
theorem uc {l:List Nat}:(l.map λi=>V.int (i:Nat))=(l.map λi=>((i:Nat):Int)).map V.int:=by simp[List.map_map]
theorem Jo {r:RS}{n:NT}{w k:Nat}:∀t i,i < n.n t->setC (setC (setC (setC (setC r.ct 0 0 (.l (r.picks.map pairD++[pairD ((w:Int),(k:Int))]))) 6 w (.l (((r.ww w).jN.map tN).set k (tN (some (n.ev r w)))))) 1 (n.goal w) (.l ((r.mm (n.goal w)).gE.map pU++[pU ((n.work r w k).ns,(n.work r w k).row)]))) 3 (n.goal w) (.l (((r.mm (n.goal w)).wp.bg []).map .int++(n.work r w k).words.map .int))) 2 (n.goal w) (.l (((r.mm (n.goal w)).wp.map λu=>DV.int (u.length:Nat))++[.int ((((r.mm (n.goal w)).wp.bg []++(n.work r w k).words).length:Nat))])) t i=(r.step n w k).ct t i:=by
 intro t i hi
 unfold setC
 match t,hi with
 | 0,hi=>
  have:i=0:=by have:i < 1:=hi;omega
  subst this
  simp[RS.ct,RS.step]
 | 1,_=>by_cases e:i=n.goal w <;> simp[RS.ct,RS.step,e]
 | 2,_=>by_cases e:i=n.goal w <;> simp[RS.ct,RS.step,e]
 | 3,_=>by_cases e:i=n.goal w <;> simp[RS.ct,RS.step,e,qV]
 | 4,_=>by_cases e:i=w <;> simp[RS.ct,RS.step,e]
 | 5,_=>by_cases e:i=w <;> simp[RS.ct,RS.step,e]
 | 6,_=>by_cases e:i=w <;> simp[RS.ct,RS.step,e,List.map_set]
 | (t + 7),hi=>exact absurd hi (Nat.not_lt_zero i)
theorem AE {nt:NT}(hn:nt.Ok)(h:r.Ok nt){w k:Nat}(hw:w < nt.ws.length):∀a c,some (nt.ev r w)=some (a,c)->0<=a/\a < nt.ms.length/\1<=c/\c<=((r.step nt w k).mm a.toNat).hr.length:=by
 have hm:=hn.jO hw
 intro a c e
 cases e
 refine⟨by omega,by omega,?_,?_⟩
 ·have:=h.uU hm;omega
 ·have em:(r.step nt w k).mm (nt.goal w)=⟨(r.mm (nt.goal w)).gE++[((nt.work r w k).ns,(nt.work r w k).row)],(r.mm (nt.goal w)).wp++[(r.mm (nt.goal w)).wp.bg []++(nt.work r w k).words],(r.mm (nt.goal w)).hr++[nt.gU r w k]⟩:=if_pos rfl
  rw[show((nt.goal w:Nat):Int).toNat=nt.goal w from Int.toNat_natCast _,em,h.lh _ hm]
  simp
theorem oT {outs:List Nat}{ev:Int×Int}:∀(ps:List (Int×Int)) {r:RS} {p:Int×Int},r.send outs ev (ps++[p])=(r.send outs ev ps).send outs ev [p]
 | [],r,p=>rfl
 | q::ps,r,p=>oT ps
abbrev ja:Stmt:=(bW (top 14)).getD 7 (.Pass ⟨0,0,0,0⟩)
inductive Fp (C CN CR:Addr)(vs:List V)(H:Hp)(Q:VK):Prop
 | mk (F:Addr->Prop) (x bA:Addr) (nt:NT) (r:RS) (ad:Nat->Nat->Addr) (wy k:Nat) (a:V) (h0:vs=[.ref x,.int (wy:Nat),.int (k:Nat),a]) (h1:cE C CN CR F H x bA nt r ad) (h2:FS F H) (h3:r.Ok nt) (h4:r.R7 nt wy k) (h5:r.picks.length<=400) (h6:∀t H',Fr (FP nt.n ad) H H'->cE C CN CR F H' x bA nt (r.pick nt wy k) ad->HT H' 1 t (pairD (nt.ev r wy))->Q t H'):Fp C CN CR vs H Q
def AF (C CN CR:Addr):Sp:=λvs H Q _=>Fp C CN CR vs H Q
theorem sS (D:gD K CR "pick_at" "Run.pick_at" ja ["self","way","number","at"])(T:Tx K mg C CN CR F FD)(gq:cB P w K mg base C "worked" 3 ["self","state","way","said"] (t9 K C))(cN:cB P w K mg base CN "machines" 1 ["self"] (jV CN))(di:cB P w K mg base CN "ways" 1 ["self"] (nB CN))(jb:cB P w K mg base CN "ways_in" 4 ["self","m"] (rC C CN))(ij:cB P w K mg base CN "ways_out" 4 ["self","m"] (pM C CN))(gM:cB P w K mg base CR "need_pick" 5 ["self","way","number","at"] (KD C CN CR))(cZ:cB P w K mg base CR "put_letter" 1 ["self","way","said","sender"] (rE C CN CR))(fu:cB P w K mg base CR "state" 4 ["self","m"] (Fj C CN CR)):cB P w K mg base CR "pick_at" 6 ["self","way","number","at"] (AF C CN CR):=by
 have sc:aD ["self","way","number","at","m","place","machine","state","sent","words","event","ways_out","j","said"] ["self","way","number","at"] (az ja):=by walk_at "s"
 symm
 ·obtain⟨F,x,bA,nt,r,ad,wy,k,a,rfl,hR,oR,gF,hc,yM,q⟩:=h
  rfl
 ·nofun
  obtain⟨F,x,bA,nt,r,ad,wy,k,a,rfl,hR,oR,gF,hc,yM,q⟩:=h
  ac_rfl
  have hu:=hr.units
  refine⟨_,(aj (bY (dE gM T.aR hr (au 0) (ai (au 1) (ai (au 2) (ai (au 3) aa)))))
   (aj (ba (i:=4) sc.nd rfl (by grind) (ak hu (ak hu (fF di T.df hr (bI (au 0) rfl)) (au 1)) ag))
   (aj (ba (i:=5) sc.nd rfl (by grind) (du lO PySem.F.slot_list_index PySem.F.type_list_index tO (dE jb T.df hr (bI (au 0) rfl) (ai (au 4) aa)) (ai (au 1) aa)))
   (aj (ba (i:=6) sc.nd rfl (by grind) (ak hu (fF cN T.df hr (bI (au 0) rfl)) (au 4)))
   (aj (fA (dE gq T.cP hr (au 6) (ai (dE fu T.aR hr (au 0) (ai (au 4) aa)) (ai (au 5) (ai (ak hu (ak hu (bI (au 0) rfl) (au 1)) (au 2)) aa)))) (wa (i:=7) (j:=8) (l:=9) rfl sc.nd rfl rfl rfl (by grind) (by grind) (by grind)))
   (aj (ba (i:=10) sc.nd rfl (by grind) (bC (ai (au 4) (ai (aT aM rfl T.cm PySem.boot_len (ai (ak hu (bI (au 0) rfl) (au 4)) aa)) aa))))
   (aj (bY (du lO nQ nR bV (bI (au 0) rfl) (ai (bC (ai (au 1) (ai (au 2) aa))) aa)))
   (aj (fA (au 10) (iT (ak hu (bI (au 0) rfl) (au 1)) (au 2) eg))
   (aj (bY (du lO nQ nR bV (ak hu (bI (au 0) rfl) (au 4)) (ai (au 7) aa)))
   (aj (bY (du lO PySem.F.slot_list_extend PySem.F.type_list_extend Iq (ak hu (bI (au 0) rfl) (au 4)) (ai (au 9) aa)))
   (aj (bY (du lO nQ nR bV (ak hu (bI (au 0) rfl) (au 4)) (ai (aT aM rfl T.cm PySem.boot_len (ai (ak hu (bI (au 0) rfl) (au 4)) aa)) aa)))
   (aj (ba (i:=11) sc.nd rfl (by grind) (dE ij T.df hr (bI (au 0) rfl) (ai (au 4) aa)))
   (aj (eZ PassesOwn.never rfl (bU (pv 8)) (iU (i:=12) (j:=13) rfl sc.nd rfl rfl (by grind) (by grind))
   (ao (aS (aA gJ (au 12) (aT aM rfl T.cm PySem.boot_len (ai (au 11) aa)) (aC _)) (ao (bY (dE cZ T.aR hr (au 0) (ai (ak hu (au 11) (au 12)) (ai (au 13) (ai (au 10) aa)))))) aG)))
   (ao (aE (au 10)))))))))))))))),?_⟩
  nofun
  obtain⟨dx,o,hx,ho⟩:=hR.ins
  have hn:=hR.NH
  have bf:=hn.ok
  have hw:=hc.lt
  have hm:=bf.jO hw
  obtain⟨⟨ms,wv,lv,hf,lN,xH,KG⟩,_⟩:=id hn
  obtain⟨dn,a1,b1,c1,g1,g2,g3,g4⟩:=id hf
  obtain⟨wk1,wk2,wk3,Yd⟩:=ql bf gF hw k
  ac_rfl
  left
  refine dP hx (dS (by decide +kernel)) ?_
  refine⟨_,x,bA,nt,r,ad,wy,k,a,rfl,hR,gF,hc,λH1 s1=>?_⟩
  left
  refine eQ (s1 _ _ hx) T.aR T.cQ oP ?_
  left
  refine dP (s1 _ _ g1) (eG (by decide +kernel) (by decide +kernel) (by decide +kernel)) ?_
  refine fK bA ms wv lv rfl (hf.same s1) (λl hl=>?_)
  have s2:av H (upd H1 l (.lst wv)):=s1.trans (av.new _ hl)
  have el:upd H1 l (.lst wv) l=some (.lst wv):=af
  nofun
  generalize Ku:upd H1 l (.lst wv)=H2 at *
  have R8:nt.ws[wy]?=some (nt.w wy):=bz hw
  have fQ:wy < wv.length:=by have:=KG.1;simp at this;omega
  have yP:=(KG.2 wy wv[wy] (ku (nt.w wy)) (by simp) (by rw[List.getElem?_map,R8];rfl)).aI s2.aQ
  obtain⟨ta,u1,u2,u3,kk,eta,ub,q1,q2,q3⟩:=b4 yP
  obtain rfl:=q1.bS
  obtain rfl:=q2.bS
  obtain rfl:=q3.bM
  ac_rfl
  left
  refine bu el (ax (j:=wy) (v:=.ref ta) (by rw[<-eta];simp)) ?_
  refine cJ ub (show gB _ 1=some (.int ((nt.goal wy:Nat):Int)) from by rw[<-qr bf hw];exact ax (j:=1) rfl) ?_
  left
  refine eQ (s2 _ _ hx) T.aR T.cQ oP ?_
  left
  refine dP (s2 _ _ g1) (eG (by decide +kernel) (by decide +kernel) (by decide +kernel)) ?_
  refine⟨bA,nt,nt.goal wy,rfl,hn.fr (Z:=λ_=>False) s2.fr,hm,λl2 H3 yS fl2 el2=>?_⟩
  have s3:=s2.trans yS
  refine⟨.inl ⟨rfl,_,aP.of el2⟩,?_⟩
  obtain⟨Ye,Yf⟩:=rJ (Fo bf hw)
  refine⟨l2,_,nt.place wy,wy,rfl,rfl,by rw[el2,uc],?_,?_,?_⟩
  ·rw[List.getElem?_map,<-nI bf hw,Ye];rfl
  ·intro i y hi hy
   rw[List.getElem?_map] at hy
   nofun
   obtain⟨z,hz,rfl⟩:=Option.map_eq_some_iff.mp hy
   ac_rfl
   have:=Yf i z (by rw[nI bf hw];exact hi) hz
   omega
  left
  refine eQ (s3 _ _ hx) T.aR T.cQ oP ?_
  left
  refine dP (s3 _ _ g1) (eG (by decide +kernel) (by decide +kernel) (by decide +kernel)) ?_
  refine fK bA ms wv lv rfl (hf.same s3) (λl4 Ks=>?_)
  have s4:av H (upd H3 l4 (.lst (ms.map V.ref))):=s3.trans (av.new _ Ks)
  have el4:upd H3 l4 (.lst (ms.map V.ref)) l4=some (.lst (ms.map V.ref)):=af
  generalize O0:upd H3 l4 (.lst (ms.map V.ref))=H4 at *
  have yJ:nt.goal wy < ms.length:=by omega
  have Yg:nt.ms[nt.goal wy]?=some (nt.ms.getD (nt.goal wy) default):=bz hm
  have AG:=(xH (nt.goal wy) ms[nt.goal wy] _ (cA yJ) Yg).same s4
  have Fq:=bf.gd hm
  left
  refine bu el4 (ax (j:=nt.goal wy) (v:=.ref ms[nt.goal wy]) (by rw[List.getElem?_map,cA yJ];rfl)) ?_
  left
  nofun
  generalize ms[nt.goal wy]=mch at *
  obtain⟨dm,stm,ddm,IS,hm2,hm3⟩:=id AG
  ac_rfl
  refine dP IS (Al (by decide +kernel) (by decide +kernel) (by decide +kernel)) ?_
  refine dP (s4 _ _ hx) (dS (by decide +kernel)) ?_
  refine⟨_,x,bA,nt,r,ad,nt.goal wy,rfl,hR.same s4,gF,hm,λsv KC=>?_⟩
  have l4':=s4 _ _ (ho 4 (by decide) (by decide)).1
  nofun
  obtain⟨v4,e4,d4⟩:=(hR.cH.same s4).lst (t:=4) (i:=wy) hw rfl
  have z4:=d4.jM
  subst z4
  ac_rfl
  have Fh:k < (r.ww wy).say.length:=by rw[gF.lk wy hw];exact(List.getElem?_eq_some_iff.mp hc.lies).1
  left
  refine eQ (s4 _ _ hx) T.aR T.bG yN ?_
  left
  refine bu l4' (aW hw) ?_
  refine bu e4 (ax (j:=k) (v:=.int ((r.ww wy).say.getD k 0)) (by rw[List.getElem?_map,bz (d:=0) Fh];rfl)) ?_
  have rK:=gF.last hm
  refine⟨mch,sv,_,_,_,_,_,_,_,_,rfl,AG,vZ.of KC,Fq.m2,Fq.Xb,rK.bn,rK.lr,Fq.U7,by rw[rK.ln];exact Fq.ok,λrx H5 Fs NJ=>?_⟩
  have s5:=s4.trans Fs
  nofun
  obtain⟨rp,yT,O1,KI,zs,rfl,Yh,yU,NK,gj,yV,R9,Yi,Yj⟩:=NJ.ex
  replace yU:HT H5 2 yT (vo (nt.work r wy k).ns (nt.work r wy k).row):=yU
  replace gj:SL H5 zs (nt.work r wy k).cq:=gj
  replace yV:H5 KI=some (.lst ((nt.work r wy k).words.map V.int)):=yV
  ac_rfl
  refine un3 (bJ.of Yh) ?_
  left
  refine eQ (s5 _ _ hx) T.aR T.cp Fe ?_
  have b5:=hR.cH.same s5
  have i0:0 < nt.n 0:=by show 0 < 1;decide
  obtain⟨v1,e1,d1⟩:=b5.lst (t:=1) (i:=nt.goal wy) hm rfl
  have z1:v1.length=(r.mm (nt.goal wy)).gE.length:=by simpa using d1.1
  left
  refine bu (s5 _ _ (ho 1 (by decide) (by decide)).1) (aW hm) ?_
  refine gc _ (.inl ⟨_,aP.of e1,rfl⟩) cM (λev Vh=>?_)
  rw[z1]
  have s6:av H (upd H5 ev (.tup [.int ((nt.goal wy:Nat):Int),.int (((r.mm (nt.goal wy)).gE.length:Nat):Int)])):=s5.trans (av.new _ Vh)
  have AH:av H5 (upd H5 ev (.tup [.int ((nt.goal wy:Nat):Int),.int (((r.mm (nt.goal wy)).gE.length:Nat):Int)])):=av.new _ Vh
  have Yk:HT (upd H5 ev (.tup [.int ((nt.goal wy:Nat):Int),.int (((r.mm (nt.goal wy)).gE.length:Nat):Int)])) 1 (.ref ev) (pairD (nt.ev r wy)):=dw (n:=0) af (.int _) (.int _)
  generalize IQ:upd H5 ev (.tup [.int ((nt.goal wy:Nat):Int),.int (((r.mm (nt.goal wy)).gE.length:Nat):Int)])=H6 at *
  have b6:=hR.cH.same s6
  left
  refine eQ (s6 _ _ hx) T.aR T.cX R6 ?_
  obtain⟨v0,e0,d0⟩:=b6.lst (t:=0) (i:=0) i0 rfl
  have z0:v0.length=r.picks.length:=by simpa using d0.1
  left
  refine gK (.inl ⟨rfl,_,aP.of e0⟩) cM (λtp Cq=>?_)
  left
  have s7:av H (upd H6 tp (.tup [.int ((wy:Nat):Int),.int ((k:Nat):Int)])):=s6.trans (av.new _ Cq)
  have rZ:av H6 (upd H6 tp (.tup [.int ((wy:Nat):Int),.int ((k:Nat):Int)])):=av.new _ Cq
  have Yl:HT (upd H6 tp (.tup [.int ((wy:Nat):Int),.int ((k:Nat):Int)])) 1 (.ref tp) (pairD ((wy:Int),(k:Int))):=dw (n:=0) af (.int _) (.int _)
  generalize O2:upd H6 tp (.tup [.int ((wy:Nat):Int),.int ((k:Nat):Int)])=H7 at *
  have b7:=hR.cH.same s7
  have FS7:FS F H7:=oR.fr (Z:=λ_=>False) s7.fr (λ_ _ h=>h)
  have O3:=rZ _ _ e0
  refine gc v0 O3 (small (by omega)) ?_
  have b8:=b7.app (t:=0) (i:=0) i0 rfl O3 (c9.one ((b7.ht FS7 Yl).mono (by decide)))
  have f8:Fr (FP nt.n ad) H (upd H7 (ad 0 0) (.lst (v0++[.ref tp]))):=s7.fr.upd ⟨0,0,i0,rfl⟩ O3 trivial
  generalize Vi:upd H7 (ad 0 0) (.lst (v0++[.ref tp]))=H8 at *
  have hx8:=f8.lE hx id
  have o6:=ho 6 (by decide) (by decide)
  have o1:=ho 1 (by decide) (by decide)
  have o2:=ho 2 (by decide) (by decide)
  have o3:=ho 3 (by decide) (by decide)
  left
  refine eQ hx8 T.aR T.dg Ff ?_
  obtain⟨v6,e6,d6⟩:=b8.lst (t:=6) (i:=wy) hw rfl
  have z6:v6.length=(r.ww wy).jN.length:=by simpa using d6.1
  have hk6:k < v6.length:=by rw[z6,<-gF.lk wy hw];exact Fh
  left
  refine bu (f8.at o6.1 o6.2.2) (aW hw) ?_
  left
  refine ck v6 k e6 (AD hk6) ?_
  have FS8:FS F H8:=oR.fr f8 hR.cH.rD
  have Sa:HT H8 1 (.ref ev) (pairD (nt.ev r wy)):=(Yk.aI rZ.aQ).aI (show bQ H7 H8 from by rw[<-Vi];exact(bQ.refl _).upd λxs e=>by rw[O3] at e;cases e)
  have b9:=b8.set (t:=6) (i:=wy) hw rfl e6 (k:=k) ((b8.ht FS8 Sa).mono (by decide))
  have f9:Fr (FP nt.n ad) H (upd H8 (ad 6 wy) (.lst (v6.set k (.ref ev)))):=f8.upd ⟨6,wy,hw,rfl⟩ e6 trivial
  have t89:bQ H8 (upd H8 (ad 6 wy) (.lst (v6.set k (.ref ev)))):=(bQ.refl _).upd λxs e=>by rw[e6] at e;cases e
  generalize hG9:upd H8 (ad 6 wy) (.lst (v6.set k (.ref ev)))=H9 at *
  have FS9:FS F H9:=oR.fr f9 hR.cH.rD
  left
  refine eQ (f9.lE hx id) T.aR T.cp Fe ?_
  obtain⟨Sb,O4,d19⟩:=b9.lst (t:=1) (i:=nt.goal wy) hm rfl
  have z19:Sb.length=(r.mm (nt.goal wy)).gE.length:=by simpa using d19.1
  have Vj:=gF.bp _ hm
  left
  refine bu (f9.at o1.1 o1.2.2) (aW hm) ?_
  refine⟨.inl ⟨rfl,_,aP.of O4⟩,?_⟩
  left
  refine gc Sb O4 (small (by omega)) ?_
  have t58:bQ H5 H8:=λb xs e=>by
   have h7:=rZ _ _ (AH _ _ e)
   rw[<-Vi,ay (λz=>by rw[z,O3] at h7;cases h7)]
   exact h7
  have Ym:HT H9 2 yT (vo (nt.work r wy k).ns (nt.work r wy k).row):=(yU.aI t58).aI t89
  have Yn:=b9.app (t:=1) (i:=nt.goal wy) hm rfl O4 (c9.one (show HD _ 4 yT (pU ((nt.work r wy k).ns,(nt.work r wy k).row)) from(b9.ht FS9 Ym).mono (by decide)))
  have O5:Fr (FP nt.n ad) H (upd H9 (ad 1 (nt.goal wy)) (.lst (Sb++[yT]))):=f9.upd ⟨1,nt.goal wy,hm,rfl⟩ O4 trivial
  have Ft:¬FP nt.n ad O1:=λz=>by
   obtain⟨u,e,_⟩:=(hR.cH.same s4).fp z
   rw[R9] at e;cases e
  have NL:¬FP nt.n ad KI:=λz=>by
   obtain⟨u,e,_⟩:=(hR.cH.same s4).fp z
   rw[Yi] at e;cases e
  have f58:Fr (FP nt.n ad) H5 H8:=by
   rw[<-Vi]
   exact(AH.trans rZ).fr.upd ⟨0,0,i0,rfl⟩ O3 trivial
  have f59:Fr (FP nt.n ad) H5 H9:=by
   rw[<-hG9]
   exact f58.upd ⟨6,wy,hw,rfl⟩ e6 trivial
  have Sd:Fr (FP nt.n ad) H5 (upd H9 (ad 1 (nt.goal wy)) (.lst (Sb++[yT]))):=f59.upd ⟨1,nt.goal wy,hm,rfl⟩ O4 trivial
  generalize Se:upd H9 (ad 1 (nt.goal wy)) (.lst (Sb++[yT]))=wH at *
  left
  refine eQ (O5.lE hx id) T.aR T.cK NG ?_
  obtain⟨v3,e3,d3⟩:=Yn.lst (t:=3) (i:=nt.goal wy) hm rfl
  have z3:=d3.jM
  have hbw:=gF.bw _ hm _ (gb (l:=(r.mm (nt.goal wy)).wp) (d:=[]) (by rw[<-gF.lw _ hm];exact gF.uU hm))
  have z3l:v3.length=((r.mm (nt.goal wy)).wp.bg []).length:=by rw[z3];simp
  left
  refine bu (O5.at o3.1 o3.2.2) (aW hm) ?_
  refine⟨.inl ⟨rfl,_,aP.of e3⟩,?_⟩
  left
  refine sy v3 _ e3 (Sd.at yV NL) (Nat.le_of_lt (small (by simp;omega))) ?_
  have KJ:=Yn.app (t:=3) (i:=nt.goal wy) hm rfl e3 (c9.ints (nt.work r wy k).words)
  have AI:Fr (FP nt.n ad) H (upd wH (ad 3 (nt.goal wy)) (.lst (v3++(nt.work r wy k).words.map V.int))):=O5.upd ⟨3,nt.goal wy,hm,rfl⟩ e3 trivial
  have Yo:Fr (FP nt.n ad) H5 (upd wH (ad 3 (nt.goal wy)) (.lst (v3++(nt.work r wy k).words.map V.int))):=Sd.upd ⟨3,nt.goal wy,hm,rfl⟩ e3 trivial
  have Yp:upd wH (ad 3 (nt.goal wy)) (.lst (v3++(nt.work r wy k).words.map V.int)) (ad 3 (nt.goal wy))=some (.lst (v3++(nt.work r wy k).words.map V.int)):=af
  generalize Sf:upd wH (ad 3 (nt.goal wy)) (.lst (v3++(nt.work r wy k).words.map V.int))=BY at *
  left
  refine eQ (AI.lE hx id) T.aR T.dZ X8 ?_
  obtain⟨v2,e2,d2⟩:=KJ.lst (t:=2) (i:=nt.goal wy) hm rfl
  have z2:v2.length=(r.mm (nt.goal wy)).wp.length:=by simpa using d2.1
  have z2':=gF.lw _ hm
  left
  refine bu (AI.at o2.1 o2.2.2) (aW hm) ?_
  refine⟨.inl ⟨rfl,_,aP.of e2⟩,?_⟩
  left
  refine eQ (AI.lE hx id) T.aR T.cK NG ?_
  left
  refine bu (AI.at o3.1 o3.2.2) (aW hm) ?_
  refine bx _ (.inl ⟨_,aP.of Yp,rfl⟩) ?_
  left
  refine gc v2 e2 (small (by omega)) ?_
  have Yq:((v3++(nt.work r wy k).words.map V.int).length)=((r.mm (nt.goal wy)).wp.bg []++(nt.work r wy k).words).length:=by simp;omega
  rw[Yq]
  have NM:=KJ.app (t:=2) (i:=nt.goal wy) hm rfl e2 (c9.one (.int (((r.mm (nt.goal wy)).wp.bg []++(nt.work r wy k).words).length:Nat)))
  have Hi:Fr (FP nt.n ad) H (upd BY (ad 2 (nt.goal wy)) (.lst (v2++[.int (((r.mm (nt.goal wy)).wp.bg []++(nt.work r wy k).words).length:Nat)]))):=AI.upd ⟨2,nt.goal wy,hm,rfl⟩ e2 trivial
  have Sg:Fr (FP nt.n ad) H5 (upd BY (ad 2 (nt.goal wy)) (.lst (v2++[.int (((r.mm (nt.goal wy)).wp.bg []++(nt.work r wy k).words).length:Nat)]))):=Yo.upd ⟨2,nt.goal wy,hm,rfl⟩ e2 trivial
  generalize Sh:upd BY (ad 2 (nt.goal wy)) (.lst (v2++[.int (((r.mm (nt.goal wy)).wp.bg []++(nt.work r wy k).words).length:Nat)]))=Fu at *
  have Si:cE C CN CR F Fu x bA nt (r.step nt wy k) ad:=hR.own Hi (NM.congr Jo)
  have Sj:SL Fu zs (nt.work r wy k).cq:=gj.aI Sg.aQ
  have nu:=Sg.at NK Ft
  have Sk:HT Fu 1 (.ref ev) (pairD (nt.ev r wy)):=by
   have h9:=Sa.aI t89
   have Yr:bQ H9 Fu:=λb xs e=>by
    have n1:b≠ad 1 (nt.goal wy):=λz=>by rw[z,O4] at e;cases e
    have IY:wH b=some (.tup xs):=by rw[<-Se,ay n1];exact e
    have n2:b≠ad 3 (nt.goal wy):=λz=>by rw[z,e3] at IY;cases IY
    have Nr:BY b=some (.tup xs):=by rw[<-Sf,ay n2];exact IY
    have n3:b≠ad 2 (nt.goal wy):=λz=>by rw[z,e2] at Nr;cases Nr
    rw[<-Sh,ay n3];exact Nr
   exact h9.aI Yr
  clear b5 b6 b7 b8 b9 Yn KJ NM d0 d1 d2 d3 d4 d6 d19
  left
  refine eQ (Hi.lE hx id) T.aR T.cQ oP ?_
  left
  refine dP (Hi.lE g1 id) (eG (by decide +kernel) (by decide +kernel) (by decide +kernel)) ?_
  refine⟨bA,nt,nt.goal wy,rfl,hn.fr Hi,hm,λlo Sl rY flo Ys=>?_⟩
  have nlo:¬FP nt.n ad lo:=λz=>by
   obtain⟨u,e,_⟩:=Si.cH.fp z
   rw[flo] at e;cases e
  left
  have Yt:=Si.same rY
  have Sm:=rY _ _ nu
  have KL:=Sk.aI rY.aQ
  have KN:=Sj.aI rY.aQ
  have Yu:zs.length=(nt.work r wy k).cq.length:=KN.1
  have Jp:=Hi.trans rY.fr
  have NO:=gF.step bf hw (k:=k)
  have NP:∀a c,some (nt.ev r wy)=some (a,c)->0<=a/\a < nt.ms.length/\1<=c/\c<=((r.step nt wy k).mm a.toNat).hr.length:=AE bf gF hw
  refine⟨_,rfl,.inl ⟨⟨_,aP.of Sm⟩,jq (K:=K) (xs:=zs) (λi σ H'=>(∃NQ NR,σ=[some (V.ref x),some (V.int ((wy:Nat):Int)),some (V.int ((k:Nat):Int)),some a,some (V.int ((nt.goal wy:Nat):Int)),some (V.int ((nt.place wy:Nat):Int)),some (V.ref mch),some yT,some (V.ref O1),some (V.ref KI),some (V.ref ev),some (V.ref lo),NQ,NR])/\Fr (FP nt.n ad) Sl H'/\cE C CN CR F H' x bA nt ((r.step nt wy k).send (nt.outs (nt.goal wy)) (nt.ev r wy) ((nt.work r wy k).cq.take i)) ad) ?_ ?_ ?_ ?_⟩⟩
  ·exact⟨⟨_,_,rfl⟩,Fr.refl,Yt⟩
  ·rintro i σ H' hi ⟨_,fi,_⟩
   exact aP.of (fi.at Sm Ft)
  ·intro i z σ H' hz iV
   nofun
   obtain⟨⟨NQ,NR,rfl⟩,fi,Ct⟩:=iV
   have sI:i < zs.length:=(List.getElem?_eq_some_iff.mp hz).1
   have NS:i < (nt.work r wy k).cq.length:=by omega
   have Cu:(nt.work r wy k).cq[i]?=some (nt.work r wy k).cq[i]:=cA NS
   have Yv:=Yd _ (List.getElem_mem NS)
   have Fv:=(KN.2 i z _ hz Cu).aI fi.aQ
   have Jq:(r.step nt wy k).send (nt.outs (nt.goal wy)) (nt.ev r wy) ((nt.work r wy k).cq.take (i + 1))=((r.step nt wy k).send (nt.outs (nt.goal wy)) (nt.ev r wy) ((nt.work r wy k).cq.take i)).send (nt.outs (nt.goal wy)) (nt.ev r wy) [(nt.work r wy k).cq[i]]:=by
    rw[List.take_succ,Cu]
    exact oT _
   generalize (nt.work r wy k).cq[i]=p at *
   obtain⟨pj,px⟩:=p
   obtain⟨tz,u1,u2,kz,rfl,zR,y1,y2⟩:=cy Fv
   obtain rfl:=y1.bS
   obtain rfl:=y2.bS
   ac_rfl
   refine wb (bJ.of zR) ?_
   have Sn:=fi.at Ys nlo
   left
   refine bx _ (.inl ⟨_,aP.of Sn,rfl⟩) ?_
   left
   have hlen:((rA nt 0 (nt.goal wy)).map λi=>V.int ((i:Nat):Int)).length=(nt.outs (nt.goal wy)).length:=by rw[List.length_map];rfl
   rw[hlen]
   have hj:pj.toNat=pj.toNat:=rfl
   have ej:((pj.toNat:Nat):Int)=pj:=Int.toNat_of_nonneg Yv
   by_cases kf:pj < ((nt.outs (nt.goal wy)).length:Nat)
   ·rw[if_pos (by simpa using kf)]
    have Kl:pj.toNat < (nt.outs (nt.goal wy)).length:=by omega
    have qt:(nt.outs (nt.goal wy)).getD pj.toNat 0 < nt.ws.length:=by
     have:=getD_mem (d:=0) Kl
     unfold NT.outs at this ⊢
     rw[List.mem_filter,List.mem_range] at this
     exact this.1
    left
    obtain⟨Cm,o',Kj,mW⟩:=Ct.ins
    refine dP Kj (dS (by decide +kernel)) ?_
    refine bu Sn (show gB _ pj=some (.int (((nt.outs (nt.goal wy)).getD pj.toNat 0:Nat):Int)) from by
     rw[<-ej]
     refine ax ?_
     rw[List.getElem?_map]
     show Option.map _ (nt.outs (nt.goal wy))[_]?=_
     rw[Int.toNat_natCast,bz (d:=0) Kl];rfl) ?_
    have yW:=(RS.rW.send (outs:=nt.outs (nt.goal wy)) (ev:=nt.ev r wy) ((nt.work r wy k).cq.take i) NO NP).mono (show _<=19999 by simp;omega)
    refine⟨F,x,bA,nt,_,ad,_,px,.ref ev,some (nt.ev r wy),rfl,Ct,oR.fr (Jp.trans fi) hR.cH.rD,qt,(KL.aI fi.aQ).mono (by decide),yW,λH'' f2 Yw=>?_⟩
    left
    refine gK ⟨_,_,rfl,rfl⟩ (fi.trans f2) ?_
    rw[Jq]
    show cE C CN CR F H'' x bA nt (if pj.toNat < _ then _ else _) ad
    rw[if_pos Kl]
    exact Yw
   ·rw[if_neg (by simpa using kf)]
    left
    refine gK ⟨_,_,rfl,rfl⟩ fi ?_
    rw[Jq]
    show cE C CN CR F H' x bA nt (if pj.toNat < _ then _ else _) ad
    rw[if_neg (by omega)]
    exact Ct
  ·intro σ H' iW
   nofun
   obtain⟨⟨NQ,NR,rfl⟩,fi,Ct⟩:=iW
   ac_rfl
   left
   rw[Yu,List.take_length] at Ct
   exact q _ _ (Jp.trans fi) Ct (KL.aI fi.aQ)
def _root_.DD.RS.jE(r:RS)(w:Nat):List Nat:=(List.range (r.ww w).say.length).filter λk=>((r.ww w).jN.getD k none).isNone
def p7 (r:RS)(w:Nat)(ks:List Nat):List DV:=ks.map λ(k:Nat)=>pairD (((k:Nat):Int),(r.ww w).say.getD k 0)
theorem dU {p:Nat->Bool}{i:Nat}:(List.range (i + 1)).filter p=(List.range i).filter p++(if p i=true then[i] else[]):=by
 rw[List.range_succ,List.filter_append]
 congr 1
 cases h:p i <;> simp[h]
theorem Fw {F:Addr->Prop}{H:Hp}{n:Nat->Nat}{ad:Nat->Nat->Addr}{ct:Nat->Nat->CO}(Hs:Nat->Hp)(mono:∀t b,Hs t b≠none->Hs (t + 1) b≠none)(f0:∀t i,i < n t->Hs t (ad t i)=none)(f1:∀t i,i < n t->Hs (t + 1) (ad t i)≠none)
  (inj:∀t i j,i < n t->j < n t->ad t i=ad t j->i=j) (out:∀b,F b->Hs 0 b≠none) (Ck:∀t i,i < n t->∃o,H (ad t i)=some o/\OR (iL (λb=>F b\/FP n ad b) H) (ct t i) o):dO F H n ad ct:=by
 have up:∀(d t:Nat) (b:Addr),Hs t b≠none->Hs (t + d) b≠none:=by
  intro d
  induction d with
  | zero=>exact λt b h=>h
  | succ d ih=>exact λt b h=>mono _ _ (ih t b h)
 have lt:∀t i t' i',i < n t->i' < n t'->t < t'->ad t i≠ad t' i':=by
  intro t i t' i' h h' l e
  obtain⟨d,rfl⟩:∃d,t'=t + 1 + d:=⟨t' - (t + 1),by omega⟩
  exact up d (t + 1) _ (f1 t i h) (e ▸ f0 _ i' h')
 refine⟨λt i t' i' h h' e=>?_,λt i h z=>?_,Ck⟩
 ·rcases Nat.lt_trichotomy t t' with l | l | l
  ·exact absurd e (lt _ _ _ _ h h' l)
  ·subst l;exact⟨rfl,inj t i i' h h' e⟩
  ·exact absurd e.symm (lt _ _ _ _ h' h l)
 ·have:=up t 0 _ (out _ z)
  rw[Nat.zero_add] at this
  exact this (f0 t i h)
theorem Fx (hz:∀b,Z b->∃o,H b=some o/\soft o){m:Nat}{x:V}{d:DV}(g:HT H m x d):HD (iL Z H) m x d:=by
 refine HT.hd (g.aI λb xs e=>?_)
 rw[fZ (λz=>by
  obtain⟨o,e1,e2⟩:=hz b z
  rw[e] at e1;cases e1;exact e2)]
 exact e
structure r9 (H0 H':Hp)(D:Addr)(as:List Addr)(n:Nat)(ct:Nat->Hp->List V->Prop):Prop where
 len:as.length=n
 nd:as.Nodup
 new:∀a ∈ as,H0 a=none/\a≠D
 ins:∀(j:Nat) a,as[j]?=some a->∃vs,H' a=some (.lst vs)/\ct j H' vs
theorem r9.nil{ct:Nat->Hp->List V->Prop}:r9 H0 H' D [] 0 ct:=⟨rfl,List.nodup_nil,λa h=>by simp at h,λj a h=>by simp at h⟩
theorem r9.snoc{n:Nat}{ct:Nat->Hp->List V->Prop}(h:r9 H0 H1 D as n ct)(s0:av H0 H1)(hD:H1 D≠none)(ha:H1 a=none){vs:List V}(e:H' a=some (.lst vs))(c:ct n H' vs)(s:∀b o,b≠D->H1 b=some o->H' b=some o)(mono:∀j vs,ct j H1 vs->ct j H' vs):r9 H0 H' D (as++[a]) (n + 1) ct:=by
 refine⟨by simp[h.len],?_,λb hb=>?_,λj b hb=>?_⟩
 ·rw[List.nodup_append]
  refine gK h.nd (by simp) (λb hb c hc=>?_)
  simp at hc
  subst hc
  intro z
  subst z
  obtain⟨j,hj⟩:=List.getElem?_of_mem hb
  obtain⟨vs,e1,_⟩:=h.ins j b hj
  rw[ha] at e1;cases e1
 ·rcases List.mem_append.mp hb with hb | hb
  ·exact h.new b hb
  ·simp at hb
   subst hb
   refine⟨?_,λz=>hD (z ▸ ha)⟩
   cases e0:H0 b with
   | none=>rfl
   | some o=>rw[s0 _ _ e0] at ha;cases ha
 ·by_cases hj:j < as.length
  ·rw[List.getElem?_append_left hj] at hb
   obtain⟨vs,e1,c1⟩:=h.ins j b hb
   exact⟨vs,s _ _ (h.new b (List.mem_of_getElem? hb)).2 e1,mono _ _ c1⟩
  ·rw[List.getElem?_append_right (by omega)] at hb
   cases hk:j - as.length with
   | zero=>
    rw[hk] at hb
    simp at hb
    subst hb
    have:j=n:=by have:=h.len;omega
    subst this
    exact⟨vs,e,c⟩
   | succ k=>rw[hk] at hb;simp at hb
theorem r9.keep{n:Nat}{ct:Nat->Hp->List V->Prop}(h:r9 H0 H1 D as n ct)(s:∀(b:Addr) (vs:List V),H1 b=some (.lst vs)->H' b=some (.lst vs))(mono:∀j vs,ct j H1 vs->ct j H' vs):r9 H0 H' D as n ct:=
 ⟨h.len,h.nd,h.new,λj a e=>by
  obtain⟨vs,e1,c1⟩:=h.ins j a e
  exact⟨vs,s _ _ e1,mono _ _ c1⟩⟩
theorem kK {K:W.Frag}{ix:List (Option Nat)}{te:TE}{l:Addr}{xs vs:List V}(el:H l=some (.lst xs))(hD:H D=none)(hn:xs.length<=10)(hx:∀x,Ext (uJ ix σ) ((uJ ix σ).set 0 (some x)))(Yx:∀σ2 H3 (R:VK),(∀p,H3 p=none->R (.ref p) (upd H3 p (.lst vs)))->te σ2 H3 R)(q:∀as H1,H1 D=some (.lst (as.map V.ref))->av H H1->r9 H H1 D as xs.length (λ_ _ ws=>ws=vs)->Q (.ref D) H1):lU ix (qB K l) (gR 0) iJ te σ H Q D:=by
 refine aZ (n:=xs.length) (λi ys H'=>∃as:List Addr,ys=as.map V.ref/\av H H'/\r9 H H' D as i (λ_ _ ws=>ws=vs)) (Nat.le_of_lt (small (by omega))) ⟨[],rfl,av.new _ hD,r9.nil⟩ ?_ ?_ ?_ ?_
 ·rintro i ys H' hi ⟨_,_,s3,_⟩
  exact⟨_,xs[i],aP.of (s3 _ _ el),cA hi⟩
 ·rintro ys H' ⟨_,_,s3,_⟩
  exact⟨_,aP.of (s3 _ _ el),Nat.le_refl _⟩
 ·intro i ys H' hi bE hl iV xx H4 iW
  obtain⟨as,rfl,s3,hL⟩:=iV
  obtain⟨rfl,hy⟩:=iW
  refine⟨hx xx,?_⟩
  simp only[iJ,if_true]
  refine Yx _ _ _ λp hp=>?_
  have sN:=av.new (.lst vs) hp
  have nD:p≠D:=Ne.symm (aq bE hp)
  refine bP (sN _ _ bE) hl hi (Nat.le_of_lt (small (by omega))) ⟨as++[p],by simp,λb o e=>?_,?_⟩
  ·rw[ay (aq e hD)];exact sN _ _ (s3 _ _ e)
  ·refine hL.snoc s3 (by rw[bE];simp) hp (vs:=vs) ?_ rfl (λb o nb e=>?_) (λj vs e=>e)
   ·rw[ay nD];exact af
   ·rw[ay nb];exact sN _ _ e
 ·intro ys H1 bE hl mf
  obtain⟨as,rfl,s1,hL⟩:=mf
  exact q as H1 bE s1 hL
abbrev mC:Stmt:=(bW (top 14)).getD 9 (.Pass ⟨0,0,0,0⟩)
inductive Fy (C CN CR:Addr)(vs:List V)(H:Hp)(Q:VK):Prop
 | mk (F:Addr->Prop) (x bA:Addr) (nt:NT) (r:RS) (ad:Nat->Nat->Addr) (wy k:Nat) (h0:vs=[.ref x,.int (wy:Nat),.int (k:Nat)]) (h1:cE C CN CR F H x bA nt r ad) (h2:FS F H) (h3:r.Ok nt) (h4:r.R7 nt wy k) (h5:r.picks.length<=400) (h6:∀t H',Fr (FP nt.n ad) H H'->cE C CN CR F H' x bA nt (r.pick nt wy k) ad->HT H' 1 t (pairD (nt.ev r wy))->Q t H'):Fy C CN CR vs H Q
def Fz (C CN CR:Addr):Sp:=λvs H Q _=>Fy C CN CR vs H Q
theorem yX (D:gD K CR "pick" "Run.pick" mC ["self","way","number"])(T:Tx K mg C CN CR F FD)(jc:cB P w K mg base CR "pick_at" 6 ["self","way","number","at"] (AF C CN CR)):cB P w K mg base CR "pick" 7 ["self","way","number"] (Fz C CN CR):=by
 have sc:aD ["self","way","number"] ["self","way","number"] (az mC):=by walk_at "s"
 symm
 ·obtain⟨F,x,bA,nt,r,ad,wy,k,rfl,hR,oR,gF,hc,yM,q⟩:=h
  rfl
 ·nofun
  obtain⟨F,x,bA,nt,r,ad,wy,k,rfl,hR,oR,gF,hc,yM,q⟩:=h
  ac_rfl
  have hu:=hr.units
  refine⟨_,(ao (aE (dE jc T.aR hr (au 0) (ai (au 1) (ai (au 2) (ai ag aa)))))),?_⟩
  obtain⟨dx,o,hx,ho⟩:=hR.ins
  left
  refine dP hx (dS (by decide +kernel)) ?_
  exact⟨F,x,bA,nt,r,ad,wy,k,_,rfl,hR,oR,gF,hc,yM,q⟩
abbrev kL:Stmt:=(bW (top 14)).getD 13 (.Pass ⟨0,0,0,0⟩)
def KO (C CN CR:Addr):Sp:=λvs H Q _=>∃(F:Addr->Prop) (x bA:Addr) (nt:NT) (r:RS) (ad:Nat->Nat->Addr) (m:Nat),vs=[.ref x,.int m]/\cE C CN CR F H x bA nt r ad/\r.Ok nt/\r.picks.length<=400/\m < nt.ws.length/\∀l ys H',av H H'->H l=none->H' l=some (.lst ys)->c9 (iL (λb=>b=l) H') 1 ys (p7 r m (r.jE m))->Q (.ref l) H'
theorem xa (D:gD K CR "lying" "Run.lying" kL ["self","way"])(T:Tx K mg C CN CR F FD)(cF:cB P w K mg base CR "need_way" 3 ["self","way","at"] (Az C CN CR)):cB P w K mg base CR "lying" 4 ["self","way"] (KO C CN CR):=by
 have sc:aD ["self","way","workers"] ["self","way"] (az kL):=by walk_at "s"
 symm
 ·obtain⟨F,x,bA,nt,r,ad,m,rfl,hR,gF,yM,hm,q⟩:=h
  rfl
 ·nofun
  obtain⟨F,x,bA,nt,r,ad,m,rfl,hR,gF,yM,hm,q⟩:=h
  ac_rfl
  have hu:=hr.units
  refine⟨_,(aj (bY (dE cF T.aR hr (au 0) (ai (au 1) (ai ag aa))))
   (aj (ba (i:=2) sc.nd rfl (by grind) (ak hu (bI (au 0) rfl) (au 1)))
   (ao (aE (cW (N':=["number","said","workers"]) (ix:=[none,none,some 2]) (jI rfl T.dQ (ai (ak hu (bI (au 0) rfl) (au 1)) aa)) (λ_ _ _ _=>(jK (K:=K) rfl (i:=0) (j:=1) rfl (show(["number","said","workers"]:List Str).Nodup by decide +kernel) rfl rfl (by grind) (by grind))) (λ_ _ _ _=>(jH (aA yl (dC (K:=K) rfl hu (au 2) (au 0)) j9 (aC _)))) (λ_ _ _ _=>(bC (ai (au 0) (ai (au 1) aa))))))))),?_⟩
  nofun
  obtain⟨dx,o,hx,ho⟩:=hR.ins
  have l6:=(ho 6 (by decide) (by decide)).1
  have l4:=(ho 4 (by decide) (by decide)).1
  obtain⟨v6,e6,d6⟩:=hR.cH.lst (t:=6) (i:=m) hm rfl
  obtain⟨v4,e4,d4⟩:=hR.cH.lst (t:=4) (i:=m) hm rfl
  ac_rfl
  have z4:=d4.jM
  have hlk:=gF.lk m hm
  have Yy:=gF.bs m hm
  left
  refine dP hx (dS (by decide +kernel)) ?_
  refine⟨_,x,bA,nt,r,ad,m,_,rfl,hR,hm,?_⟩
  left
  refine eQ hx T.aR T.dg Ff ?_
  left
  refine bu l6 (aW hm) ?_
  left
  refine bF ?_
  left
  refine eQ hx T.aR T.bG yN ?_
  left
  refine bu l4 (aW hm) ?_
  left
  refine BC true v4 (Sq.l e4) (λD hD=>?_)
  have zl:v4.length=(r.ww m).say.length:=by rw[z4];simp
  refine aZ (J:=Im true K (ad 4 m)) (n:=v4.length) (λi ys H'=>av H H'/\c9 (iL (λb=>b=D) H') 1 ys (p7 r m ((List.range i).filter λk=>((r.ww m).jN.getD k none).isNone))) (Nat.le_of_lt (small (by omega))) ⟨av.new _ hD,show c9 _ 1 [] [] from c9.nil⟩ ?_ ?_ ?_ ?_
  ·rintro i ys H' hi ⟨s1,_⟩
   exact⟨v4,v4[i],Sq.l (s1 _ _ e4),cA hi⟩
  ·rintro ys H' ⟨s1,_⟩
   exact⟨v4,Sq.l (s1 _ _ e4),rfl⟩
  ·intro i ys H' hi bE hl oB xx H4 pW
   nofun
   obtain⟨s1,yc⟩:=oB
   obtain⟨t,ht,rfl,y⟩:=pW
   obtain⟨xw,ex,rfl⟩:=y v4 (Sq.l (s1 _ _ e4))
   have NS:i < (r.ww m).say.length:=by omega
   have exw:xw=.int ((r.ww m).say.getD i 0):=by
    rw[z4,List.getElem?_map,bz (d:=0) NS] at ex
    cases ex;rfl
   subst exw
   have s2:=av.new (.tup [.int (i:Nat),.int ((r.ww m).say.getD i 0)]) ht
   have kr:upd H' t (.tup [.int (i:Nat),.int ((r.ww m).say.getD i 0)]) t=some (.tup [.int (i:Nat),.int ((r.ww m).say.getD i 0)]):=af
   have p5:=s2 _ _ bE
   have qp:=s1.trans s2
   have So:c9 (iL (λb=>b=D) (upd H' t (.tup [.int (i:Nat),.int ((r.ww m).say.getD i 0)]))) 1 ys _:=yc.cv (Fr.iL s2.fr)
   generalize hG:upd H' t (.tup [.int (i:Nat),.int ((r.ww m).say.getD i 0)])=G at *
   ac_rfl
   refine wb (bJ.of kr) ⟨Ext.set (Ext.set (Ext.refl _) rfl) rfl,?_⟩
   left
   obtain⟨v,ev,dv⟩:=d6.get (i:=i) (d:=tN ((r.ww m).jN.getD i none)) (by rw[List.getElem?_map,bz (d:=none) (by omega)];rfl)
   refine bu (qp _ _ e6) (ax ev) ?_
   left
   cases hw:(r.ww m).jN.getD i none with
   | none=>
    rw[hw] at dv
    have:=yQ dv
    subst this
    left
    try rw[if_pos rfl]
    refine⟨cM,λt2 NU=>?_⟩
    have s3:=av.new (.tup [.int (i:Nat),.int ((r.ww m).say.getD i 0)]) NU
    have nD:t2≠D:=λz=>by rw[z,p5] at NU;cases NU
    refine bP (s3 _ _ p5) hl hi (Nat.le_of_lt (small (by omega))) ⟨λc o e=>?_,?_⟩
    ·rw[ay (aq e hD)];exact s3 _ _ (qp _ _ e)
    ·rw[Aa (Z:=λb=>b=D) rfl,dU,if_pos (by rw[hw];rfl)]
     unfold p7
     rw[List.map_append]
     refine(So.cv (Fr.iL s3.fr)).snoc ?_
     refine(dw (n:=0) ?_ (.int _) (.int _)).hd
     rw[fZ (Z:=λb=>b=D) nD];exact af
   | some e=>
    rw[hw] at dv
    nofun
    obtain⟨ae,rfl,QX⟩:=nH dv
    ac_rfl
    left
    try rw[if_neg (by decide)]
    exact⟨_,p5,by omega,qp,by rw[dU,if_neg (by rw[hw];simp),List.append_nil];exact So⟩
  ·rintro ys H' bE hl ⟨s1,yc⟩
   rw[zl] at yc
   exact q _ ys _ s1 hD bE yc
theorem ud {CR x dx:Addr}{C:Hp}{fs:List (Str×V)}(xB:List (Str×V))(s:av C H)(hx:H x=some (.ins CR dx fs)):∃G,upd H x (.ins CR dx xB)=G/\G x=some (.ins CR dx xB)/\(∀b o,b≠x->C b=some o->G b=some o)/\(∀b vs,H b=some (.lst vs)->G b=some (.lst vs))/\bQ H G:=⟨_,rfl,af,λb o n e=>by rw[ay n];exact s _ _ e,λb vs e=>by rw[ay (λz=>by rw[z,hx] at e;cases e)];exact e,λb vs e=>by rw[ay (λz=>by rw[z,hx] at e;cases e)];exact e⟩
theorem fJ {C:Hp}{d:Addr}(kv:List (Key×V))(s:av C H):∃G,upd H d (.dK kv)=G/\G d=some (.dK kv)/\(∀b o,b≠d->C b=some o->G b=some o)/\(∀b o,b≠d->H b=some o->G b=some o):=⟨_,rfl,af,λb o n e=>by rw[ay n];exact s _ _ e,λb o n e=>by rw[ay n];exact e⟩
theorem oU:∀(ps:List (Int×Int)) {r:RS} {p:Int×Int},r.oj (ps++[p])=(r.oj ps).put p.1.toNat p.2 none
 | [],r,p=>rfl
 | q::ps,r,p=>oU ps
theorem yY {nt:NT}(hn:nt.Ok):(RS.new nt).rW nt 0:=by
 refine⟨λm hm=>rfl,λm hm=>rfl,λm hm s hs=>?_,λm hm h hh=>?_,λv hv=>rfl,λv hv=>rfl,λv hv a c hs=>?_,λm hm=>Nat.le_refl _,λm hm u hu=>?_,λv hv=>Nat.le_refl _,λm hm u hu=>?_⟩
 ·have g:=hn.gd hm
  have hs:s ∈ [((nt.ms.getD m default).ns,(nt.ms.getD m default).row)]:=hs
  simp at hs
  subst hs
  exact⟨rfl,g.bn,g.U6⟩
 ·have hh:h ∈ ([]:List (List Int)):=hh
  simp at hh
 ·have hs:some (a,c) ∈ ([]:List (Option (Int×Int))):=hs
  simp at hs
 ·have hu:u ∈ ([[]]:List (List Int)):=hu
  simp at hu
  subst hu
  exact Nat.le_refl _
 ·have hu:u ∈ ([[]]:List (List Int)):=hu
  simp at hu
  subst hu
  exact List.nil_prefix
theorem qu {nt:NT}:∀(ps:List (Int×Int)) {r:RS} {B:Nat},r.rW nt B->(r.oj ps).rW nt (B + ps.length)
 | [],r,B,h=>h
 | p::ps,r,B,h=>by
  have e:B + (p::ps).length=B + 1 + ps.length:=by simp;omega
  rw[e]
  exact qu ps (h.put (λa c z=>by cases z))
theorem rL:∀(ps:List (Int×Int)) {r:RS},(r.oj ps).picks=r.picks
 | [],r=>rfl
 | p::ps,r=>rL ps
theorem FA {nt:NT}(hn:nt.Ok){ls:List (Int×Int)}(h:ls.length<=20):(RS.begin nt ls).Ok nt/\(RS.begin nt ls).picks=[]:=by
 have e:(RS.begin nt ls).picks=[]:=rL ls
 refine⟨(qu ls (yY hn)).ok ?_,e⟩
 show 0 + ls.length<=20 + 24 * (RS.begin nt ls).picks.length
 rw[e];simp;omega
abbrev FC:Stmt:=(bW (top 14)).getD 0 (.Pass ⟨0,0,0,0⟩)
inductive FE (C CN CR:Addr)(vs:List V)(H:Hp)(Q:VK):Prop
 | mk (x dx bA:Addr) (nt:NT) (ls:List (Int×Int)) (ms:List Addr) (wv lv:List V) (h0:vs=[.ref x,.ref bA]) (h1:H x=some (.ins CR dx [])) (h2:u9 C CN H bA nt) (h3:oO CN H bA ms wv lv) (h4:gh H 1 lv (ls.map mh)) (h5:ls.length<=20) (h6:∀l ∈ ls,0<=l.1/\l.1 < nt.ws.length) (h7:∀ad H',(∀b o,b≠x->H b=some o->H' b=some o)->(∀b,FP nt.n ad b->H b=none)->cE C CN CR (λ_=>False) H' x bA nt (RS.begin nt ls) ad->Q .bR H'):FE C CN CR vs H Q
def AJ (C CN CR:Addr):Sp:=λvs H Q _=>FE C CN CR vs H Q
theorem Sr (D:Bw K mg "Run" CR "Run.__init__" FC ["self","net"])(T:Tx K mg C CN CR F FD)(eA:cB P w K mg base C "first_state" 1 ["self"] (EM C))(je:cB P w K mg base CN "letters" 1 ["self"] (pL CN))(cN:cB P w K mg base CN "machines" 1 ["self"] (jV CN))(di:cB P w K mg base CN "ways" 1 ["self"] (nB CN))(cZ:cB P w K mg base CR "put_letter" 1 ["self","way","said","sender"] (rE C CN CR)):vV P w K mg base "Run" CR 2 ["self","net"] (AJ C CN CR):=by
 have sc:aD ["self","net","way","said"] ["self","net"] (az FC):=by walk_at "s"
 symm
 ·obtain⟨x,dx,bA,nt,ls,ms0,wv0,lv,rfl,hx,hn,hf0,He,uZ,tH,q⟩:=h
  rfl
 ·nofun
  obtain⟨x,dx,bA,nt,ls,ms0,wv0,lv,rfl,hx,hn,hf0,He,uZ,tH,q⟩:=h
  ac_rfl
  have hu:=hr.units
  refine⟨_,(aj (fB (au 0) (au 1) (gy rfl))
   (aj (fB (au 0) (bN aa) (gy rfl))
   (aj (fB (au 0) (cW (N':=["machine"]) (ix:=[none]) (bU (fF cN T.df hr (au 1))) (λ_ _ _ _=>(aU (i:=0) (show(["machine"]:List Str).Nodup by decide +kernel) rfl (by grind))) lC (λ_ _ _ _=>(bN (ai (fF eA T.cP hr (au 0)) aa)))) rfl)
   (aj (fB (au 0) (cW (N':=["machine"]) (ix:=[none]) (bU (fF cN T.df hr (au 1))) (λ_ _ _ _=>(aU (i:=0) (show(["machine"]:List Str).Nodup by decide +kernel) rfl (by grind))) lC (λ_ _ _ _=>(bN (ai ag aa)))) rfl)
   (aj (fB (au 0) (cW (N':=["machine"]) (ix:=[none]) (bU (fF cN T.df hr (au 1))) (λ_ _ _ _=>(aU (i:=0) (show(["machine"]:List Str).Nodup by decide +kernel) rfl (by grind))) lC (λ_ _ _ _=>(bN aa))) rfl)
   (aj (fB (au 0) (cW (N':=["way"]) (ix:=[none]) (bU (fF di T.df hr (au 1))) (λ_ _ _ _=>(aU (i:=0) (show(["way"]:List Str).Nodup by decide +kernel) rfl (by grind))) lC (λ_ _ _ _=>(bN aa))) rfl)
   (aj (fB (au 0) (cW (N':=["way"]) (ix:=[none]) (bU (fF di T.df hr (au 1))) (λ_ _ _ _=>(aU (i:=0) (show(["way"]:List Str).Nodup by decide +kernel) rfl (by grind))) lC (λ_ _ _ _=>(bN aa))) rfl)
   (aj (fB (au 0) (cW (N':=["way"]) (ix:=[none]) (bU (fF di T.df hr (au 1))) (λ_ _ _ _=>(aU (i:=0) (show(["way"]:List Str).Nodup by decide +kernel) rfl (by grind))) lC (λ_ _ _ _=>(bN aa))) rfl)
   (ao (eZ PassesOwn.never rfl (bU (fF je T.df hr (au 1))) (iU (i:=2) (j:=3) rfl sc.nd rfl rfl (by grind) (by grind))
   (ao (bY (dE cZ T.aR hr (au 0) (ai (au 2) (ai (au 3) (ai j9 aa)))))))))))))))),?_⟩
  have bf:=hn.ok
  nofun
  obtain⟨⟨ms,wv,xI,hf,lN,xH,KG⟩,_⟩:=id hn
  obtain⟨dn,a1,b1,c1,g1,g2,g3,g4⟩:=id hf
  obtain⟨dn',a1',b1',c1',g1',g2',g3',g4'⟩:=id hf0
  have MP:xI=lv:=by
   rw[g1] at g1'
   cases g1'
   rw[g4] at g4'
   cases g4'
   rfl
  subst MP
  ac_rfl
  have EO:(ms.map V.ref).length<=5:=by simp[lN];exact bf.U9
  have fQ:wv.length=nt.ws.length:=by simpa using KG.1
  have sG:wv.length<=10:=by rw[fQ];exact bf.BB
  have mD:bA≠x:=λz=>by rw[z,hx] at g1;cases g1
  have KP:a1≠x:=λz=>by rw[z,hx] at g2;cases g2
  have KQ:b1≠x:=λz=>by rw[z,hx] at g3;cases g3
  have Cw:c1≠x:=λz=>by rw[z,hx] at g4;cases g4
  left
  refine pV x CR dx _ rfl hx T.aR T.cQ (by decide) ?_
  have hxa:upd H x (.ins CR dx (bo "own_net" (.ref bA) [])) x=some (.ins CR dx (bo "own_net" (.ref bA) [])):=af
  have nxa:∀b o,b≠x->H b=some o->upd H x (.ins CR dx (bo "own_net" (.ref bA) [])) b=some o:=λb o n e=>by rw[ay n];exact e
  generalize hGa:upd H x (.ins CR dx (bo "own_net" (.ref bA) []))=Ga at *
  left
  refine⟨Nat.zero_le _,λp hp=>?_⟩
  have sp0:=av.new (.lst []) hp
  have ep0:upd Ga p (.lst []) p=some (.lst []):=af
  generalize hGb:upd Ga p (.lst [])=Gb at *
  left
  refine pV x CR dx _ rfl (sp0 _ _ hxa) T.aR T.cX (bX (n:=999) (by decide)) ?_
  have Yz:upd Gb x (.ins CR dx (bo "picks_done" (.ref p) (bo "own_net" (.ref bA) []))) x=some (.ins CR dx (bo "picks_done" (.ref p) (bo "own_net" (.ref bA) []))):=af
  have ka:∀b o,b≠x->Ga b=some o->upd Gb x (.ins CR dx (bo "picks_done" (.ref p) (bo "own_net" (.ref bA) []))) b=some o:=λb o n e=>by rw[ay n];exact sp0 _ _ e
  have npx:p≠x:=Ne.symm (aq hxa hp)
  have ep:upd Gb x (.ins CR dx (bo "picks_done" (.ref p) (bo "own_net" (.ref bA) []))) p=some (.lst []):=by rw[ay npx];exact ep0
  generalize hG0:upd Gb x (.ins CR dx (bo "picks_done" (.ref p) (bo "own_net" (.ref bA) [])))=G0 at *
  have KR:∀b o,b≠x->H b=some o->G0 b=some o:=λb o n e=>ka b o n (nxa b o n e)
  left
  refine bF ?_
  left
  refine dP (KR _ _ mD g1) (eG (by decide +kernel) (by decide +kernel) (by decide +kernel)) ?_
  refine fK bA ms wv xI rfl ⟨dn,a1,b1,c1,KR _ _ mD g1,KR _ _ KP g2,KR _ _ KQ g3,KR _ _ Cw g4⟩ (λVk YA=>?_)
  have NV:=av.new (.lst (ms.map V.ref)) YA
  have BZ:upd G0 Vk (.lst (ms.map V.ref)) Vk=some (.lst (ms.map V.ref)):=af
  generalize aex:upd G0 Vk (.lst (ms.map V.ref))=O6 at *
  left
  refine .inl ⟨⟨_,aP.of BZ⟩,λD1 BV=>?_⟩
  refine aZ (J:=qB K Vk) (n:=(ms.map V.ref).length) (λi ys H'=>∃as:List Addr,ys=as.map V.ref/\av O6 H'/\r9 O6 H' D1 as i (λj H' vs=>∃v,vs=[v]/\HT H' 2 v (vo (nt.ms.getD j default).ns (nt.ms.getD j default).row))) (Nat.le_of_lt (small (by omega))) ⟨[],rfl,av.new _ BV,r9.nil⟩ ?_ ?_ ?_ ?_
  ·rintro i ys H' hi ⟨_,_,s3,_⟩
   exact⟨_,(ms.map V.ref)[i],aP.of (s3 _ _ BZ),cA hi⟩
  ·rintro ys H' ⟨_,_,s3,_⟩
   exact⟨_,aP.of (s3 _ _ BZ),Nat.le_refl _⟩
  ·intro i ys H' hi bE hl iV xx H4 iW
   nofun
   obtain⟨as,rfl,s3,hL⟩:=iV
   obtain⟨rfl,hy⟩:=iW
   ac_rfl
   have ex:=hy _ (aP.of (s3 _ _ BZ))
   walk_at "xf"
   left
   try rw[if_pos trivial]
   have YB:i < ms.length:=by simpa using hi
   have exm:xx=.ref ms[i]:=by
    rw[List.getElem?_map,cA YB] at ex
    cases ex;rfl
   nofun
   subst exm
   have Jr:i < nt.ms.length:=by omega
   have nmx:ms[i]≠x:=λz=>by
    nofun
    obtain⟨d1,s1,d2,w1,_⟩:=xH i ms[i] _ (cA YB) (bz (d:=default) Jr)
    ac_rfl
    rw[z,hx] at w1;cases w1
   have O7:OP C H4 ms[i] (nt.ms.getD i default):=by
    nofun
    obtain⟨d1,s1,d2,w1,w2,w3⟩:=xH i ms[i] _ (cA YB) (bz (d:=default) Jr)
    ac_rfl
    have tt:bQ H H4:=λb xs e=>s3 _ _ (NV _ _ (KR b _ (λz=>by rw[z,hx] at e;cases e) e))
    exact⟨d1,s1,d2,s3 _ _ (NV _ _ (KR _ _ nmx w1)),w2.aI tt,w3.aI tt⟩
   obtain⟨d1,s1,d2,w1,w2,w3⟩:=id O7
   ac_rfl
   refine mth w1 (Al (by decide +kernel) (by decide +kernel) (by decide +kernel)) ?_
   refine⟨ms[i],_,_,_,_,rfl,O7,λst qA=>?_⟩
   left
   refine⟨Nat.le_of_lt (small (by simp)),λp hp=>?_⟩
   have sN:=av.new (.lst [st]) hp
   have nD:p≠D1:=Ne.symm (aq bE hp)
   refine bP (sN _ _ bE) hl hi (Nat.le_of_lt (small (by omega))) ⟨as++[p],by simp,λb o e=>?_,?_⟩
   ·rw[ay (aq e BV)];exact sN _ _ (s3 _ _ e)
   ·refine hL.snoc s3 (by rw[bE];simp) hp (vs:=[st]) ?_ ⟨st,rfl,qA.aI (λb xs e=>by rw[ay (λz=>by rw[z,bE] at e;cases e)];exact sN _ _ e)⟩ (λb o nb e=>?_) (λj vs ⟨v,e,h⟩=>⟨v,e,h.aI (λb xs e=>by rw[ay (λz=>by rw[z,bE] at e;cases e)];exact sN _ _ e)⟩)
    ·rw[ay nD];exact af
    ·rw[ay nb];exact sN _ _ e
  intro ys H1 bE hl mf
  nofun
  obtain⟨A1,rfl,O8,Vl⟩:=mf
  ac_rfl
  have Ss:=O8 _ _ (NV _ _ Yz)
  left
  refine pV x CR dx _ rfl Ss T.aR T.cp (bX (n:=999) (bX (n:=998) (by decide))) ?_
  nofun
  obtain⟨G1,Vg,qi,Vm,Su,YC⟩:=ud (bo "states_had" (.ref D1) (bo "picks_done" (.ref p) (bo "own_net" (.ref bA) []))) O8 Ss
  ac_rfl
  rw[Vg]
  have Sv:=Su _ _ bE
  clear Vg
  have kg1:∀b o,b≠x->G0 b=some o->G1 b=some o:=λb o n e=>Vm b o n (NV _ _ e)
  have O9:∀b o,b≠x->H b=some o->G1 b=some o:=λb o n e=>kg1 b o n (KR b o n e)
  have Vn:O6 D1=none:=BV
  clear bE
  left
  refine bF ?_
  left
  refine dP (O9 _ _ mD g1) (eG (by decide +kernel) (by decide +kernel) (by decide +kernel)) ?_
  refine fK bA ms wv xI rfl ⟨dn,a1,b1,c1,O9 _ _ mD g1,O9 _ _ KP g2,O9 _ _ KQ g3,O9 _ _ Cw g4⟩ (λYD YE=>?_)
  have Pa:=av.new (.lst (ms.map V.ref)) YE
  have sT:upd G1 YD (.lst (ms.map V.ref)) YD=some (.lst (ms.map V.ref)):=af
  generalize aeA:upd G1 YD (.lst (ms.map V.ref))=Vo at *
  left
  refine .inl ⟨⟨_,aP.of sT⟩,λD2 Ao=>?_⟩
  refine kK (vs:=[V.int 0]) sT Ao (by omega) (λ_=>Ext.set (Ext.refl _) rfl) (λ_ _ _ r=>And.intro (by decide) r) ?_
  intro A2 H2 bE NW Vp
  have Sw:=NW _ _ (Pa _ _ qi)
  left
  refine pV x CR dx _ rfl Sw T.aR T.dZ (bX (n:=999) (bX (n:=998) (bX (n:=997) (by decide)))) ?_
  nofun
  obtain⟨G2,Ku,BN,Pb,Sx,aeB⟩:=ud (bo "words_had" (.ref D2) (bo "states_had" (.ref D1) (bo "picks_done" (.ref p) (bo "own_net" (.ref bA) [])))) NW Sw
  ac_rfl
  rw[Ku]
  have Pc:=Sx _ _ bE
  clear Ku
  have kg2:∀b o,b≠x->G1 b=some o->G2 b=some o:=λb o n e=>Pb b o n (Pa _ _ e)
  have Pd:∀b o,b≠x->H b=some o->G2 b=some o:=λb o n e=>kg2 b o n (O9 b o n e)
  have OT:Vo D2=none:=Ao
  clear bE
  left
  refine bF ?_
  left
  refine dP (Pd _ _ mD g1) (eG (by decide +kernel) (by decide +kernel) (by decide +kernel)) ?_
  refine fK bA ms wv xI rfl ⟨dn,a1,b1,c1,Pd _ _ mD g1,Pd _ _ KP g2,Pd _ _ KQ g3,Pd _ _ Cw g4⟩ (λYF YG=>?_)
  have Pe:=av.new (.lst (ms.map V.ref)) YG
  have Sy:upd G2 YF (.lst (ms.map V.ref)) YF=some (.lst (ms.map V.ref)):=af
  generalize aeC:upd G2 YF (.lst (ms.map V.ref))=Vq at *
  left
  refine .inl ⟨⟨_,aP.of Sy⟩,λD3 BR=>?_⟩
  refine kK (vs:=[]) Sy BR (by omega) (λ_=>Ext.set (Ext.refl _) rfl) (λ_ _ _ r=>And.intro (by decide) r) ?_
  intro A3 H3 bE NX Vr
  have Sz:=NX _ _ (Pe _ _ BN)
  left
  refine pV x CR dx _ rfl Sz T.aR T.cK (bX (n:=999) (bX (n:=998) (bX (n:=997) (bX (n:=996) (by decide))))) ?_
  nofun
  obtain⟨G3,OZ,yK,Pf,SA,aeD⟩:=ud (bo "words_said" (.ref D3) (bo "words_had" (.ref D2) (bo "states_had" (.ref D1) (bo "picks_done" (.ref p) (bo "own_net" (.ref bA) []))))) NX Sz
  ac_rfl
  rw[OZ]
  have KS:=SA _ _ bE
  clear OZ
  have kg3:∀b o,b≠x->G2 b=some o->G3 b=some o:=λb o n e=>Pf b o n (Pe _ _ e)
  have Pg:∀b o,b≠x->H b=some o->G3 b=some o:=λb o n e=>kg3 b o n (Pd b o n e)
  have OU:Vq D3=none:=BR
  clear bE
  left
  refine bF ?_
  left
  refine dP (Pg _ _ mD g1) (eG (by decide +kernel) (by decide +kernel) (by decide +kernel)) ?_
  refine fK bA ms wv xI rfl ⟨dn,a1,b1,c1,Pg _ _ mD g1,Pg _ _ KP g2,Pg _ _ KQ g3,Pg _ _ Cw g4⟩ (λYH YI=>?_)
  have Ph:=av.new (.lst wv) YI
  have SD:upd G3 YH (.lst wv) YH=some (.lst wv):=af
  generalize aeE:upd G3 YH (.lst wv)=Vs at *
  left
  refine .inl ⟨⟨_,aP.of SD⟩,λD4 Js=>?_⟩
  refine kK (vs:=[]) SD Js (by omega) (λ_=>Ext.set (Ext.refl _) rfl) (λ_ _ _ r=>And.intro (by decide) r) ?_
  intro A4 H4 bE KU Vt
  have SE:=KU _ _ (Ph _ _ yK)
  left
  refine pV x CR dx _ rfl SE T.aR T.bG (bX (n:=999) (bX (n:=998) (bX (n:=997) (bX (n:=996) (bX (n:=995) (by decide)))))) ?_
  nofun
  obtain⟨G4,O0,NB,Pj,SG,aeF⟩:=ud (bo "letters_say" (.ref D4) (bo "words_said" (.ref D3) (bo "words_had" (.ref D2) (bo "states_had" (.ref D1) (bo "picks_done" (.ref p) (bo "own_net" (.ref bA) [])))))) KU SE
  ac_rfl
  rw[O0]
  have Pk:=SG _ _ bE
  clear O0
  have kg4:∀b o,b≠x->G3 b=some o->G4 b=some o:=λb o n e=>Pj b o n (Ph _ _ e)
  have Pl:∀b o,b≠x->H b=some o->G4 b=some o:=λb o n e=>kg4 b o n (Pg b o n e)
  have Vu:Vs D4=none:=Js
  clear bE
  left
  refine bF ?_
  left
  refine dP (Pl _ _ mD g1) (eG (by decide +kernel) (by decide +kernel) (by decide +kernel)) ?_
  refine fK bA ms wv xI rfl ⟨dn,a1,b1,c1,Pl _ _ mD g1,Pl _ _ KP g2,Pl _ _ KQ g3,Pl _ _ Cw g4⟩ (λYJ YK=>?_)
  have Pm:=av.new (.lst wv) YK
  have SH:upd G4 YJ (.lst wv) YJ=some (.lst wv):=af
  generalize aeG:upd G4 YJ (.lst wv)=Vv at *
  left
  refine .inl ⟨⟨_,aP.of SH⟩,λD5 tS=>?_⟩
  refine kK (vs:=[]) SH tS (by omega) (λ_=>Ext.set (Ext.refl _) rfl) (λ_ _ _ r=>And.intro (by decide) r) ?_
  intro A5 H5 bE KW Vw
  have SI:=KW _ _ (Pm _ _ NB)
  left
  refine pV x CR dx _ rfl SI T.aR T.fc (bX (n:=999) (bX (n:=998) (bX (n:=997) (bX (n:=996) (bX (n:=995) (bX (n:=994) (by decide))))))) ?_
  nofun
  obtain⟨G5,NC,rm,Pn,SJ,aeH⟩:=ud (bo "senders" (.ref D5) (bo "letters_say" (.ref D4) (bo "words_said" (.ref D3) (bo "words_had" (.ref D2) (bo "states_had" (.ref D1) (bo "picks_done" (.ref p) (bo "own_net" (.ref bA) []))))))) KW SI
  ac_rfl
  rw[NC]
  have Po:=SJ _ _ bE
  clear NC
  have kg5:∀b o,b≠x->G4 b=some o->G5 b=some o:=λb o n e=>Pn b o n (Pm _ _ e)
  have Pp:∀b o,b≠x->H b=some o->G5 b=some o:=λb o n e=>kg5 b o n (Pl b o n e)
  have Vx:Vv D5=none:=tS
  clear bE
  left
  refine bF ?_
  left
  refine dP (Pp _ _ mD g1) (eG (by decide +kernel) (by decide +kernel) (by decide +kernel)) ?_
  refine fK bA ms wv xI rfl ⟨dn,a1,b1,c1,Pp _ _ mD g1,Pp _ _ KP g2,Pp _ _ KQ g3,Pp _ _ Cw g4⟩ (λYL YM=>?_)
  have Pq:=av.new (.lst wv) YM
  have SK:upd G5 YL (.lst wv) YL=some (.lst wv):=af
  generalize aeI:upd G5 YL (.lst wv)=Vy at *
  left
  refine .inl ⟨⟨_,aP.of SK⟩,λD6 SM=>?_⟩
  refine kK (vs:=[]) SK SM (by omega) (λ_=>Ext.set (Ext.refl _) rfl) (λ_ _ _ r=>And.intro (by decide) r) ?_
  intro A6 H6 bE NY Vz
  have SN:=NY _ _ (Pq _ _ rm)
  left
  refine pV x CR dx _ rfl SN T.aR T.dg (bX (n:=999) (bX (n:=998) (bX (n:=997) (bX (n:=996) (bX (n:=995) (bX (n:=994) (bX (n:=993) (by decide)))))))) ?_
  nofun
  obtain⟨G6,IQ,Fb,NZ,SO,aeJ⟩:=ud (bo "workers" (.ref D6) (bo "senders" (.ref D5) (bo "letters_say" (.ref D4) (bo "words_said" (.ref D3) (bo "words_had" (.ref D2) (bo "states_had" (.ref D1) (bo "picks_done" (.ref p) (bo "own_net" (.ref bA) [])))))))) NY SN
  ac_rfl
  rw[IQ]
  have Pr:=SO _ _ bE
  clear IQ
  have kg6:∀b o,b≠x->G5 b=some o->G6 b=some o:=λb o n e=>NZ b o n (Pq _ _ e)
  have yZ:∀b o,b≠x->H b=some o->G6 b=some o:=λb o n e=>kg6 b o n (Pp b o n e)
  have VA:Vy D6=none:=SM
  clear bE
  have lift:∀(G G':Hp),(∀b o,b≠x->G b=some o->G' b=some o)->(∃fs,G x=some (.ins CR dx fs))->(∀b vs,G b=some (.lst vs)->G' b=some (.lst vs))/\bQ G G':=λG G' h ⟨fs,e⟩=>⟨λb vs e'=>h b _ (λz=>by rw[z,e] at e';cases e') e',λb vs e'=>h b _ (λz=>by rw[z,e] at e';cases e') e'⟩
  have Jt:=kg6
  have KY:∀b o,b≠x->G4 b=some o->G6 b=some o:=λb o n e=>Jt b o n (kg5 b o n e)
  have KZ:∀b o,b≠x->G3 b=some o->G6 b=some o:=λb o n e=>KY b o n (kg4 b o n e)
  have N0:∀b o,b≠x->G2 b=some o->G6 b=some o:=λb o n e=>KZ b o n (kg3 b o n e)
  have SQ:∀b o,b≠x->G1 b=some o->G6 b=some o:=λb o n e=>N0 b o n (kg2 b o n e)
  have kc0:∀b o,b≠x->G0 b=some o->G6 b=some o:=λb o n e=>SQ b o n (kg1 b o n e)
  have N4:r9 O6 G1 D1 A1 (ms.map V.ref).length (λj H' vs=>∃v,vs=[v]/\HT H' 2 v (vo (nt.ms.getD j default).ns (nt.ms.getD j default).row)):=Vl.keep Su (λj vs ⟨v,e,h⟩=>⟨v,e,h.aI YC⟩)
  have va:=N4.keep (lift _ _ SQ ⟨_,qi⟩).1 (λj vs ⟨v,e,h⟩=>⟨v,e,h.aI (lift _ _ SQ ⟨_,qi⟩).2⟩)
  have K0:=(lift _ _ SQ ⟨_,qi⟩).1 _ _ Sv
  have N5:r9 Vo G2 D2 A2 (ms.map V.ref).length (λ_ _ vs=>vs=[V.int 0]):=Vp.keep Sx (λj vs e=>e)
  have vb:=N5.keep (lift _ _ N0 ⟨_,BN⟩).1 (λj vs e=>e)
  have K1:=(lift _ _ N0 ⟨_,BN⟩).1 _ _ Pc
  have N6:r9 Vq G3 D3 A3 (ms.map V.ref).length (λ_ _ vs=>vs=[]):=Vr.keep SA (λj vs e=>e)
  have vc:=N6.keep (lift _ _ KZ ⟨_,yK⟩).1 (λj vs e=>e)
  have K2:=(lift _ _ KZ ⟨_,yK⟩).1 _ _ KS
  have N7:r9 Vs G4 D4 A4 wv.length (λ_ _ vs=>vs=[]):=Vt.keep SG (λj vs e=>e)
  have vd:=N7.keep (lift _ _ KY ⟨_,NB⟩).1 (λj vs e=>e)
  have K3:=(lift _ _ KY ⟨_,NB⟩).1 _ _ Pk
  have N8:r9 Vv G5 D5 A5 wv.length (λ_ _ vs=>vs=[]):=Vw.keep SJ (λj vs e=>e)
  have oV:=N8.keep (lift _ _ Jt ⟨_,rm⟩).1 (λj vs e=>e)
  have ue:=(lift _ _ Jt ⟨_,rm⟩).1 _ _ Po
  have sU:r9 Vy G6 D6 A6 wv.length (λ_ _ vs=>vs=[]):=Vz.keep SO (λj vs e=>e)
  have N9:=(lift _ _ kc0 ⟨_,Yz⟩).1 _ _ ep
  have B0:(ms.map V.ref).length=nt.ms.length:=by simp[lN]
  rw[B0] at va
  rw[B0] at vb
  rw[B0] at vc
  rw[fQ] at vd
  rw[fQ] at oV
  rw[fQ] at sU
  have YN:∃ad:Nat->Nat->Addr,ad 0=(λ_=>p)/\(∀i,ad 1 i=A1.getD i 0)/\(∀i,ad 2 i=A2.getD i 0)/\(∀i,ad 3 i=A3.getD i 0)/\(∀i,ad 4 i=A4.getD i 0)/\(∀i,ad 5 i=A5.getD i 0)/\(∀i,ad 6 i=A6.getD i 0):=
   ⟨λt i=>match t with
    | 0=>p
    | 1=>A1.getD i 0
    | 2=>A2.getD i 0
    | 3=>A3.getD i 0
    | 4=>A4.getD i 0
    | 5=>A5.getD i 0
    | _=>A6.getD i 0,rfl,λ_=>rfl,λ_=>rfl,λ_=>rfl,λ_=>rfl,λ_=>rfl,λ_=>rfl⟩
  nofun
  obtain⟨ad,K4,eY,gH,xb,xc,xf,xg⟩:=YN
  have B1:∀i,ad 0 i=p:=λi=>by rw[K4]
  have YO:∃Hs:Nat->Hp,Hs 0=Ga/\Hs 1=O6/\Hs 2=Vo/\Hs 3=Vq/\Hs 4=Vs/\Hs 5=Vv/\Hs 6=Vy/\∀t,Hs (t + 7)=G6:=
   ⟨λt=>match t with
    | 0=>Ga
    | 1=>O6
    | 2=>Vo
    | 3=>Vq
    | 4=>Vs
    | 5=>Vv
    | 6=>Vy
    | _=>G6,rfl,rfl,rfl,rfl,rfl,rfl,rfl,λ_=>rfl⟩
  obtain⟨Hs,q0,q1,q2,q3,q4,q5,q6,q7⟩:=YO
  have pz:∀(A B:Hp),(∀b o,b≠x->A b=some o->B b=some o)->(∃o,B x=some o)->∀b,A b≠none->B b≠none:=λA B h ⟨o,e⟩ b hb=>by
   by_cases z:b=x
   ·rw[z,e];simp
   ·cases e1:A b with
    | none=>exact absurd e1 hb
    | some u=>rw[h b u z e1];simp
  have gx:∀{A:List Addr} {H0 H':Hp} {D:Addr} {n:Nat} {ct:Nat->Hp->List V->Prop},r9 H0 H' D A n ct->∀i,i < n->A[i]?=some (A.getD i 0)/\H0 (A.getD i 0)=none/\∃vs,H' (A.getD i 0)=some (.lst vs)/\ct i H' vs:=λ{A H0 H' D n ct} h i hi=>by
   have e:=bz (l:=A) (i:=i) (d:=0) (by rw[h.len];exact hi)
   exact⟨e,(h.new _ (List.mem_of_getElem? e)).1,h.ins i _ e⟩
  have oW:∀{A:List Addr} {H0 H':Hp} {D:Addr} {n:Nat} {ct:Nat->Hp->List V->Prop},r9 H0 H' D A n ct->∀i j,i < n->j < n->A.getD i 0=A.getD j 0->i=j:=λ{A H0 H' D n ct} h i j hi hj e=>by
   have e1:=(gx h i hi).1
   have e2:=(gx h j hj).1
   rw[e] at e1
   exact(List.getElem?_inj (by rw[h.len];exact hi) h.nd).mp (e1.trans e2.symm)
  have fp:∀b,FP nt.n ad b->b≠x/\(∃vs,G6 b=some (.lst vs))/\∃t,t<=6/\Hs t b=none:=by
   intro b oB
   nofun
   obtain⟨t,i,hi,rfl⟩:=oB
   ac_rfl
   match t,hi with
   | 0,hi=>exact⟨by rw[B1];exact npx,⟨_,by rw[B1];exact N9⟩,0,by decide,by rw[q0,B1];exact hp⟩
   | 1,hi=>
    nofun
    obtain⟨_,e0,vs,e1,_⟩:=gx va i hi
    ac_rfl
    rw[eY]
    exact⟨λz=>(by rw[z,Fb] at e1;cases e1),⟨vs,e1⟩,1,by decide,by rw[q1];exact e0⟩
   | 2,hi=>
    nofun
    obtain⟨_,e0,vs,e1,_⟩:=gx vb i hi
    ac_rfl
    rw[gH]
    exact⟨λz=>(by rw[z,Fb] at e1;cases e1),⟨vs,e1⟩,2,by decide,by rw[q2];exact e0⟩
   | 3,hi=>
    nofun
    obtain⟨_,e0,vs,e1,_⟩:=gx vc i hi
    ac_rfl
    rw[xb]
    exact⟨λz=>(by rw[z,Fb] at e1;cases e1),⟨vs,e1⟩,3,by decide,by rw[q3];exact e0⟩
   | 4,hi=>
    nofun
    obtain⟨_,e0,vs,e1,_⟩:=gx vd i hi
    ac_rfl
    rw[xc]
    exact⟨λz=>(by rw[z,Fb] at e1;cases e1),⟨vs,e1⟩,4,by decide,by rw[q4];exact e0⟩
   | 5,hi=>
    nofun
    obtain⟨_,e0,vs,e1,_⟩:=gx oV i hi
    ac_rfl
    rw[xf]
    exact⟨λz=>(by rw[z,Fb] at e1;cases e1),⟨vs,e1⟩,5,by decide,by rw[q5];exact e0⟩
   | 6,hi=>
    nofun
    obtain⟨_,e0,vs,e1,_⟩:=gx sU i hi
    ac_rfl
    rw[xg]
    exact⟨λz=>(by rw[z,Fb] at e1;cases e1),⟨vs,e1⟩,6,by decide,by rw[q6];exact e0⟩
   | (t + 7),hi=>exact absurd hi (Nat.not_lt_zero i)
  have mono:∀t b,Hs t b≠none->Hs (t + 1) b≠none:=by
   intro t
   match t with
   | 0=>rw[q0,q1];exact pz _ _ (λb o n e=>NV _ _ (ka b o n e)) ⟨_,NV _ _ Yz⟩
   | 1=>rw[q1,q2];exact pz _ _ (λb o n e=>Pa _ _ (Vm b o n e)) ⟨_,Pa _ _ qi⟩
   | 2=>rw[q2,q3];exact pz _ _ (λb o n e=>Pe _ _ (Pb b o n e)) ⟨_,Pe _ _ BN⟩
   | 3=>rw[q3,q4];exact pz _ _ (λb o n e=>Ph _ _ (Pf b o n e)) ⟨_,Ph _ _ yK⟩
   | 4=>rw[q4,q5];exact pz _ _ (λb o n e=>Pm _ _ (Pj b o n e)) ⟨_,Pm _ _ NB⟩
   | 5=>rw[q5,q6];exact pz _ _ (λb o n e=>Pq _ _ (Pn b o n e)) ⟨_,Pq _ _ rm⟩
   | 6=>rw[q6,q7 0];exact pz _ _ NZ ⟨_,Fb⟩
   | (t + 7)=>rw[q7,show t + 7 + 1=(t + 1) + 7 by omega,q7];exact λb h=>h
  have up6:∀t,t<=6->∀b,Hs t b≠none->G6 b≠none:=by
   intro t ht b h
   have up:∀(d t:Nat) (b:Addr),Hs t b≠none->Hs (t + d) b≠none:=by
    intro d
    induction d with
    | zero=>exact λt b h=>h
    | succ d ih=>exact λt b h=>mono _ _ (ih t b h)
   have:=up (7 - t) t b h
   rw[show t + (7 - t)=0 + 7 by omega,q7] at this
   exact this
  have fresh:∀b,FP nt.n ad b->H b=none:=by
   intro b hb
   nofun
   obtain⟨nb,_,t,ht,e⟩:=fp b hb
   ac_rfl
   cases e0:H b with
   | none=>rfl
   | some o=>
    exfalso
    have a0:Hs 0 b≠none:=by rw[q0,nxa b o nb e0];simp
    have up:∀(d t:Nat) (b:Addr),Hs t b≠none->Hs (t + d) b≠none:=by
     intro d
     induction d with
     | zero=>exact λt b h=>h
     | succ d ih=>exact λt b h=>mono _ _ (ih t b h)
    have:=up t 0 b a0
    rw[Nat.zero_add] at this
    exact this e
  have hz:∀b,(False\/FP nt.n ad b)->∃o,G6 b=some o/\soft o:=by
   rintro b (h | h)
   ·exact h.elim
   ·obtain⟨_,⟨vs,e⟩,_⟩:=fp b h
    exact⟨_,e,trivial⟩
  have F0:∀t i,i < nt.n t->Hs t (ad t i)=none:=by
    intro t i hi
    match t,hi with
    | 0,hi=>rw[q0,B1];exact hp
    | 1,hi=>rw[q1,eY];exact(gx va i hi).2.1
    | 2,hi=>rw[q2,gH];exact(gx vb i hi).2.1
    | 3,hi=>rw[q3,xb];exact(gx vc i hi).2.1
    | 4,hi=>rw[q4,xc];exact(gx vd i hi).2.1
    | 5,hi=>rw[q5,xf];exact(gx oV i hi).2.1
    | 6,hi=>rw[q6,xg];exact(gx sU i hi).2.1
    | (t + 7),hi=>exact absurd hi (Nat.not_lt_zero i)
  have F1:∀t i,i < nt.n t->Hs (t + 1) (ad t i)≠none:=by
    intro t i hi
    match t,hi with
    | 0,hi=>rw[q1,B1,NV _ _ ep];simp
    | 1,hi=>
     rw[q2,eY]
     nofun
     obtain⟨_,_,vs,e,_⟩:=gx N4 i (by rw[B0];exact hi)
     ac_rfl
     rw[Pa _ _ e];simp
    | 2,hi=>
     rw[q3,gH]
     nofun
     obtain⟨_,_,vs,e,_⟩:=gx N5 i (by rw[B0];exact hi)
     ac_rfl
     rw[Pe _ _ e];simp
    | 3,hi=>
     rw[q4,xb]
     nofun
     obtain⟨_,_,vs,e,_⟩:=gx N6 i (by rw[B0];exact hi)
     ac_rfl
     rw[Ph _ _ e];simp
    | 4,hi=>
     rw[q5,xc]
     nofun
     obtain⟨_,_,vs,e,_⟩:=gx N7 i (by rw[fQ];exact hi)
     ac_rfl
     rw[Pm _ _ e];simp
    | 5,hi=>
     rw[q6,xf]
     nofun
     obtain⟨_,_,vs,e,_⟩:=gx N8 i (by rw[fQ];exact hi)
     ac_rfl
     rw[Pq _ _ e];simp
    | 6,hi=>
     rw[q7 0,xg]
     nofun
     obtain⟨_,_,vs,e,_⟩:=gx sU i hi
     ac_rfl
     rw[e];simp
    | (t + 7),hi=>exact absurd hi (Nat.not_lt_zero i)
  have cH:dO (λ_=>False) G6 nt.n ad (RS.new nt).ct:=by
   refine Fw Hs mono F0 F1 ?_ (λb h=>h.elim) ?_
   ·intro t i j hi hj e
    match t,hi,hj with
    | 0,hi,hj=>
     have h1:i < 1:=hi
     have h2:j < 1:=hj
     omega
    | 1,hi,hj=>rw[eY,eY] at e;exact oW va i j hi hj e
    | 2,hi,hj=>rw[gH,gH] at e;exact oW vb i j hi hj e
    | 3,hi,hj=>rw[xb,xb] at e;exact oW vc i j hi hj e
    | 4,hi,hj=>rw[xc,xc] at e;exact oW vd i j hi hj e
    | 5,hi,hj=>rw[xf,xf] at e;exact oW oV i j hi hj e
    | 6,hi,hj=>rw[xg,xg] at e;exact oW sU i j hi hj e
    | (t + 7),hi,_=>exact absurd hi (Nat.not_lt_zero i)
   ·intro t i hi
    match t,hi with
    | 0,hi=>exact⟨.lst [],by rw[B1];exact N9,(c9.nil:c9 _ 4 [] [])⟩
    | 1,hi=>
     nofun
     obtain⟨_,_,vs,e,v,rfl,hv⟩:=gx va i hi
     ac_rfl
     exact⟨.lst [v],by rw[eY];exact e,(c9.one ((Fx hz hv).mono (by decide)):c9 _ 4 [v] [_])⟩
    | 2,hi=>
     nofun
     obtain⟨_,_,vs,e,rfl⟩:=gx vb i hi
     ac_rfl
     exact⟨.lst [.int 0],by rw[gH];exact e,(c9.one (.int 0):c9 _ 4 [.int 0] [.int 0])⟩
    | 3,hi=>
     nofun
     obtain⟨_,_,vs,e,rfl⟩:=gx vc i hi
     ac_rfl
     exact⟨.lst [],by rw[xb];exact e,(c9.nil:c9 _ 4 [] [])⟩
    | 4,hi=>
     nofun
     obtain⟨_,_,vs,e,rfl⟩:=gx vd i hi
     ac_rfl
     exact⟨.lst [],by rw[xc];exact e,(c9.nil:c9 _ 4 [] [])⟩
    | 5,hi=>
     nofun
     obtain⟨_,_,vs,e,rfl⟩:=gx oV i hi
     ac_rfl
     exact⟨.lst [],by rw[xf];exact e,(c9.nil:c9 _ 4 [] [])⟩
    | 6,hi=>
     nofun
     obtain⟨_,_,vs,e,rfl⟩:=gx sU i hi
     ac_rfl
     exact⟨.lst [],by rw[xg];exact e,(c9.nil:c9 _ 4 [] [])⟩
    | (t + 7),hi=>exact absurd hi (Nat.not_lt_zero i)
  have oE:∃o:Nat->Addr,o 1=D1/\o 2=D2/\o 3=D3/\o 4=D4/\o 5=D5/\o 6=D6:=
   ⟨λt=>match t with
    | 1=>D1
    | 2=>D2
    | 3=>D3
    | 4=>D4
    | 5=>D5
    | _=>D6,rfl,rfl,rfl,rfl,rfl,rfl⟩
  obtain⟨o,o1,o2,o3,o4,o5,o6⟩:=oE
  ac_rfl
  have rf:∀{A:List Addr} {n:Nat} {H0 H':Hp} {D:Addr} {ct:Nat->Hp->List V->Prop} (t:Nat),r9 H0 H' D A n ct->nt.n t=n->(∀i,ad t i=A.getD i 0)->A.map V.ref=j4 nt.n ad t:=λ{A n H0 H' D ct} t h e1 e2=>by
   unfold j4
   rw[e1]
   apply List.ext_getElem (by simp[h.len])
   intro j h1 h2
   have hj:j < A.length:=by simpa using h1
   simp only[List.getElem_map,List.getElem_range,e2]
   congr 1
   exact(getD_at (cA hj)).symm
  have up:∀(d t:Nat) (b:Addr),Hs t b≠none->Hs (t + d) b≠none:=by
   intro d
   induction d with
   | zero=>exact λt b h=>h
   | succ d ih=>exact λt b h=>mono _ _ (ih t b h)
  have Ju:∀(t:Nat) (D:Addr),Hs t D=none->Hs (t + 1) D≠none->(∀i,i < nt.n t->ad t i≠D)->¬FP nt.n ad D:=by
   intro t D h0 h1 pS pW
   nofun
   obtain⟨t',i,hi,rfl⟩:=pW
   ac_rfl
   rcases Nat.lt_trichotomy t t' with l | l | l
   ·obtain⟨d,rfl⟩:∃d,t'=t + 1 + d:=⟨t' - (t + 1),by omega⟩
    exact up d _ _ h1 (F0 _ i hi)
   ·subst l;exact pS i hi rfl
   ·obtain⟨d,rfl⟩:∃d,t=t' + 1 + d:=⟨t - (t' + 1),by omega⟩
    exact up d _ _ (F1 _ i hi) h0
  have hR:cE C CN CR (λ_=>False) G6 x bA nt (RS.new nt) ad:=by
   refine⟨⟨dx,o,?_,?_⟩,cH,?_⟩
   ·rw[Fb,K4,Cs,o1,o2,o3,o4,o5,o6]
    congr 2
   ·intro t sE YQ
    match t,sE,YQ with
    | 1,_,_=>exact⟨by rw[o1,K0,rf 1 va rfl eY],id,by rw[o1];exact Ju 1 _ (by rw[q1];exact Vn) (by rw[q2,Pa _ _ Sv];simp) (λi hi z=>(va.new _ (List.mem_of_getElem? (gx va i hi).1)).2 (by rw[<-eY];exact z))⟩
    | 2,_,_=>exact⟨by rw[o2,K1,rf 2 vb rfl gH],id,by rw[o2];exact Ju 2 _ (by rw[q2];exact OT) (by rw[q3,Pe _ _ Pc];simp) (λi hi z=>(vb.new _ (List.mem_of_getElem? (gx vb i hi).1)).2 (by rw[<-gH];exact z))⟩
    | 3,_,_=>exact⟨by rw[o3,K2,rf 3 vc rfl xb],id,by rw[o3];exact Ju 3 _ (by rw[q3];exact OU) (by rw[q4,Ph _ _ KS];simp) (λi hi z=>(vc.new _ (List.mem_of_getElem? (gx vc i hi).1)).2 (by rw[<-xb];exact z))⟩
    | 4,_,_=>exact⟨by rw[o4,K3,rf 4 vd rfl xc],id,by rw[o4];exact Ju 4 _ (by rw[q4];exact Vu) (by rw[q5,Pm _ _ Pk];simp) (λi hi z=>(vd.new _ (List.mem_of_getElem? (gx vd i hi).1)).2 (by rw[<-xc];exact z))⟩
    | 5,_,_=>exact⟨by rw[o5,ue,rf 5 oV rfl xf],id,by rw[o5];exact Ju 5 _ (by rw[q5];exact Vx) (by rw[q6,Pq _ _ Po];simp) (λi hi z=>(oV.new _ (List.mem_of_getElem? (gx oV i hi).1)).2 (by rw[<-xf];exact z))⟩
    | 6,_,_=>exact⟨by rw[o6,Pr,rf 6 sU rfl xg],id,by rw[o6];exact Ju 6 _ (by rw[q6];exact VA) (by rw[q7 0,Pr];simp) (λi hi z=>(sU.new _ (List.mem_of_getElem? (gx sU i hi).1)).2 (by rw[<-xg];exact z))⟩
    | (t + 7),_,h=>exact absurd h (by omega)
   ·refine⟨⟨ms,wv,xI,⟨dn,a1,b1,c1,yZ _ _ mD g1,yZ _ _ KP g2,yZ _ _ KQ g3,yZ _ _ Cw g4⟩,lN,λi m d e1 e2=>?_,KG.aI (lift _ _ yZ ⟨_,hx⟩).2⟩,bf⟩
    nofun
    obtain⟨d1,s1,d2,w1,w2,w3⟩:=xH i m d e1 e2
    ac_rfl
    have nm:m≠x:=λz=>by rw[z,hx] at w1;cases w1
    exact⟨d1,s1,d2,yZ _ _ nm w1,w2.aI (lift _ _ yZ ⟨_,hx⟩).2,w3.aI (lift _ _ yZ ⟨_,hx⟩).2⟩
  have YR:=He.aI (lift _ _ yZ ⟨_,hx⟩).2
  clear N4 va N5 vb N6 vc N7 vd N8 oV sU K0 K1 K2 K3 ue Sv Vl Pc Vp KS Vr Pk Vt Po Vw Pr Vz N9 kc0 SQ N0 KZ KY Jt
  left
  refine⟨bA,dn,_,rfl,yZ _ _ mD g1,eG (by decide +kernel) (by decide +kernel) (by decide +kernel),bA,ms,wv,xI,rfl,⟨dn,a1,b1,c1,yZ _ _ mD g1,yZ _ _ KP g2,yZ _ _ KQ g3,yZ _ _ Cw g4⟩,λll wG=>?_⟩
  have s7:=av.new (.lst xI) wG
  have Oa:upd G6 ll (.lst xI) ll=some (.lst xI):=af
  generalize O2:upd G6 ll (.lst xI)=G7 at *
  have nll:¬FP nt.n ad ll:=λz=>by
   obtain⟨_,⟨vs,e⟩,_⟩:=fp ll z
   rw[wG] at e;cases e
  have Pt:=hR.same s7
  have SR:=YR.aI s7.aQ
  have SS:xI.length=ls.length:=by simpa using SR.1
  refine .inl ⟨⟨_,aP.of Oa⟩,jq (K:=K) (xs:=xI) (λi σ H'=>(∃z2 z3,σ=[some (V.ref x),some (V.ref bA),z2,z3])/\Fr (FP nt.n ad) G7 H'/\cE C CN CR (λ_=>False) H' x bA nt ((RS.new nt).oj (ls.take i)) ad) ?_ ?_ ?_ ?_⟩
  ·exact⟨⟨_,_,rfl⟩,Fr.refl,Pt⟩
  ·rintro i σ H' hi ⟨_,fi,_⟩
   exact aP.of (fi.at Oa nll)
  ·intro i z σ H' hz uW
   nofun
   obtain⟨⟨z2,z3,rfl⟩,fi,Ct⟩:=uW
   have sI:i < ls.length:=by rw[<-SS];exact(List.getElem?_eq_some_iff.mp hz).1
   have Cu:ls[i]?=some ls[i]:=cA sI
   have Fv:=(SR.2 i z (mh ls[i]) hz (by rw[List.getElem?_map,Cu];rfl)).aI fi.aQ
   have FF:=tH _ (List.getElem_mem sI)
   have Jq:(RS.new nt).oj (ls.take (i + 1))=((RS.new nt).oj (ls.take i)).put ls[i].1.toNat ls[i].2 none:=by
    rw[List.take_succ,Cu]
    exact oU _
   generalize ls[i]=p at *
   obtain⟨pj,px⟩:=p
   obtain⟨tz,u1,u2,kz,rfl,zR,y1,y2⟩:=cy Fv
   obtain rfl:=y1.bS
   obtain rfl:=y2.bS
   ac_rfl
   refine wb (bJ.of zR) ?_
   left
   obtain⟨Cm,o',Kj,mW⟩:=Ct.ins
   refine dP Kj (dS (by decide +kernel)) ?_
   have ej:((pj.toNat:Nat):Int)=pj:=Int.toNat_of_nonneg FF.1
   refine⟨λ_=>False,x,bA,nt,_,ad,pj.toNat,px,.bR,none,by rw[ej],Ct,λb h=>h.elim,by have:=FF.2;show pj.toNat < _;simp at this;omega,.bR,(qu (ls.take i) (yY bf)).mono (by simp;omega),λH'' f2 Yw=>?_⟩
   left
   refine gK ⟨_,_,rfl,rfl⟩ (fi.trans f2) ?_
   rw[Jq]
   exact Yw
  ·rintro σ H' ⟨_,fi,Ct⟩
   rw[SS,List.take_length] at Ct
   refine q ad _ (λb o n e=>?_) fresh Ct
   refine fi.at (s7 _ _ (yZ b o n e)) λz=>?_
   rw[fresh b z] at e;cases e
def fM (H:Hp)(x:V)(M:Int)(ns row:List Int)(ds:List bH):Prop:=∃t ln lr ld xs,x=.ref t/\H t=some (.tup [.int M,.ref ln,.ref lr,.ref ld])/\H ln=some (.lst (ns.map V.int))/\H lr=some (.lst (row.map V.int))/\H ld=some (.lst xs)/\gh H 2 xs (ds.map bH.dv)
theorem fM.cv{x:V}{M:Int}{ds:List bH}(s:Cv H H')(h:fM H x M ns row ds):fM H' x M ns row ds:=by
 obtain⟨t,ln,lr,ld,xs,e,h1,h2,h3,h4,h5⟩:=h
 exact⟨t,ln,lr,ld,xs,e,s _ _ h1 (λk z=>by cases z),s _ _ h2 (λk z=>by cases z),s _ _ h3 (λk z=>by cases z),s _ _ h4 (λk z=>by cases z),h5.aI s.aQ⟩
def ve (H:Hp)(mv:List V)(eO:List MD):Prop:=mv.length=eO.length/\∀(i:Nat) v d,mv[i]?=some v->eO[i]?=some d->fM H v d.M d.ns d.row d.ds
theorem ve.cv(s:Cv H H')(h:ve H mv eO):ve H' mv eO:=⟨h.1,λi v d a b=>(h.2 i v d a b).cv s⟩
def ToldN (H:Hp)(x:V)(eO:List MD)(ws:List (Int×Int×Str))(ls:List (Int×Int)):Prop:=∃t am aw al mv wv lv,x=.ref t/\H t=some (.tup [.ref am,.ref aw,.ref al])/\H am=some (.lst mv)/\H aw=some (.lst wv)/\H al=some (.lst lv)/\ve H mv eO/\gh H 1 wv (ws.map ku)/\gh H 1 lv (ls.map mh)
theorem ToldN.cv{x:V}(s:Cv H H')(h:ToldN H x eO ws ls):ToldN H' x eO ws ls:=by
 obtain⟨t,am,aw,al,mv,wv,lv,e,h1,h2,h3,h4,h5,h6,h7⟩:=h
 exact⟨t,am,aw,al,mv,wv,lv,e,s _ _ h1 (λk z=>by cases z),s _ _ h2 (λk z=>by cases z),s _ _ h3 (λk z=>by cases z),s _ _ h4 (λk z=>by cases z),h5.cv s,h6.aI s.aQ,h7.aI s.aQ⟩
def Hk (tn:V)(ev:Addr)(o:Nat->Addr):List (Key×V):=[(.inr "net",tn),(.inr "put",.ref (o 4)),(.inr "sender",.ref (o 5)),(.inr "worker",.ref (o 6)),(.inr "states",.ref (o 1)),(.inr "words",.ref (o 2)),(.inr "heard",.ref (o 3)),(.inr "events",.ref ev)]
section
variable {H:Hp}{d:Addr}{tn:V}{ev:Addr}{o:Nat->Addr}
theorem xh (h:H d=some (.dK (Hk tn ev o))):jw H d (.str "net") (some tn):=.inl ⟨_,.inr "net",.inl h,rfl,by kernel_rfl⟩
theorem y0 (h:H d=some (.dK (Hk tn ev o))):jw H d (.str "put") (some (.ref (o 4))):=.inl ⟨_,.inr "put",.inl h,rfl,by kernel_rfl⟩
theorem Jv (h:H d=some (.dK (Hk tn ev o))):jw H d (.str "sender") (some (.ref (o 5))):=.inl ⟨_,.inr "sender",.inl h,rfl,by kernel_rfl⟩
theorem SU (h:H d=some (.dK (Hk tn ev o))):jw H d (.str "worker") (some (.ref (o 6))):=.inl ⟨_,.inr "worker",.inl h,rfl,by kernel_rfl⟩
theorem Jw (h:H d=some (.dK (Hk tn ev o))):jw H d (.str "states") (some (.ref (o 1))):=.inl ⟨_,.inr "states",.inl h,rfl,by kernel_rfl⟩
theorem Jx (h:H d=some (.dK (Hk tn ev o))):jw H d (.str "words") (some (.ref (o 2))):=.inl ⟨_,.inr "words",.inl h,rfl,by kernel_rfl⟩
theorem FG (h:H d=some (.dK (Hk tn ev o))):jw H d (.str "heard") (some (.ref (o 3))):=.inl ⟨_,.inr "heard",.inl h,rfl,by kernel_rfl⟩
theorem Ob (h:H d=some (.dK (Hk tn ev o))):jw H d (.str "events") (some (.ref ev)):=.inl ⟨_,.inr "events",.inl h,rfl,by kernel_rfl⟩
end
def _root_.DD.RS.tv(r:RS):Nat->Nat->CO
 | 0,_=>.l (r.picks.map pairD)
 | 1,m=>.l ((r.mm m).gE.map pU)
 | 2,m=>.l ((r.mm m).wp.map λw=>.lst (w.map .int))
 | 3,m=>.l ((r.mm m).hr.map λw=>.lst (w.map .int))
 | 4,w=>.l ((r.ww w).say.map .int)
 | 5,w=>.l ((r.ww w).snd.map tN)
 | _,w=>.d (kn (r.ww w).jN) ((r.ww w).jN.countP Option.isSome)
theorem count_set {e:Int×Int}:∀{l:List (Option (Int×Int))} {k:Nat},l[k]?=some none->(l.set k (some e)).countP Option.isSome=l.countP Option.isSome + 1
 | [],k,h=>by simp at h
 | a::r,0,h=>by simp at h;subst h;simp
 | a::r,k + 1,h=>by
  have ih:=count_set (e:=e) (l:=r) (k:=k) (by simpa using h)
  simp only[List.set_cons_succ,List.countP_cons]
  rw[ih]
  omega
theorem FH {l:List (Option (Int×Int))}{k:Nat}(h:k < l.length)(j:Int):kn (l.set k (some e)) j=if j=((k:Nat):Int) then some (pairD e) else kn l j:=by
 unfold kn
 by_cases hj:0<=j
 ·rw[if_pos hj,if_pos hj]
  by_cases z:j=((k:Nat):Int)
  ·subst z
   rw[if_pos rfl,Int.toNat_natCast,List.getD_eq_getElem?_getD,List.getElem?_set]
   simp[h]
  ·rw[if_neg z,List.getD_eq_getElem?_getD,List.getElem?_set,if_neg (by omega),<-List.getD_eq_getElem?_getD]
 ·rw[if_neg hj,if_neg hj,if_neg (by omega)]
theorem B2 {l:List (Option (Int×Int))}:kn (l++[none])=kn l:=by
 funext j
 unfold kn
 split
 ·congr 1
  rw[List.getD_eq_getElem?_getD,List.getD_eq_getElem?_getD,List.getElem?_append]
  split
  ·rfl
  ·next z=>
   rw[List.getElem?_eq_none (l:=l) (by omega)]
   cases hh:j.toNat - l.length with
   | zero=>rfl
   | succ n=>rfl
 ·rfl
structure cV (F:Addr->Prop)(H:Hp)(d:Addr)(tn:V)(nt:NT)(r:RS)(ad:Nat->Nat->Addr):Prop where
 dk:∃o,H d=some (.dK (Hk tn (ad 0 0) o))/\¬F d/\¬FP nt.n ad d/\∀t,1<=t->t<=6->H (o t)=some (.lst (j4 nt.n ad t))/\¬F (o t)/\¬FP nt.n ad (o t)
 cH:dO F H nt.n ad r.tv
 told:∃ls,ToldN (iL (λb=>F b\/FP nt.n ad b) H) tn nt.ms nt.ws ls
 ok:nt.Ok
section
variable {F:Addr->Prop}{H H':Hp}{d:Addr}{tn:V}{nt:NT}{r:RS}{ad:Nat->Nat->Addr}
theorem cV.keep(h:cV F H d tn nt r ad)(f:Fr F H H'):cV F H' d tn nt r ad:=by
 obtain⟨⟨o,h1,h2,h3,h4⟩,h5,⟨ls,h6⟩,h7⟩:=h
 exact⟨⟨o,f.at h1 h2,h2,h3,λt a b=>⟨f.at (h4 t a b).1 (h4 t a b).2.1,(h4 t a b).2⟩⟩,h5.keep f,⟨ls,h6.cv (f.mono λb z=>.inl z).iL⟩,h7⟩
theorem cV.same(h:cV F H d tn nt r ad)(s:av H H'):cV F H' d tn nt r ad:=h.keep s.fr
theorem cV.own{r':RS}(h:cV F H d tn nt r ad)(f:Fr (FP nt.n ad) H H')(b:dO F H' nt.n ad r'.tv):cV F H' d tn nt r' ad:=by
 obtain⟨⟨o,h1,h2,h3,h4⟩,h5,⟨ls,h6⟩,h7⟩:=h
 exact⟨⟨o,f.at h1 h3,h2,h3,λt a b=>⟨f.at (h4 t a b).1 (h4 t a b).2.2,(h4 t a b).2⟩⟩,b,⟨ls,h6.cv (f.mono λb z=>.inr z).iL⟩,h7⟩
end
theorem B3 {l:List (Option (Int×Int))}{k:Nat}:(kn l ((k:Nat):Int)).isSome= !(l.getD k none).isNone:=by
 unfold kn
 rw[if_pos (by omega),Int.toNat_natCast]
 cases l.getD k none <;> rfl
theorem B4 {H0 H:Hp}{a:Addr}{bc:List (Key×V)}{g:Int->Option DV}{N:Nat}(e:H a=some (.dK bc))(h:OR H0 (.d g N) (.dK bc))(k:Int):∃o,jw H a (.int k) o/\o.isSome=(g k).isSome:=by
 refine bx _ (jw.k (k:=Sum.inl k) e) ?_
 have:=h.2 k
 revert this
 cases g k with
 | none=>intro h;rw[h];rfl
 | some d=>intro⟨v,h,_⟩;rw[h];rfl
abbrev kM:Stmt:=top 57
def y6:Sp:=λvs H Q _=>∃(F:Addr->Prop) (d:Addr) (tn:V) (nt:NT) (r:RS) (ad:Nat->Nat->Addr) (m:Nat),vs=[.ref d,.int m]/\cV F H d tn nt r ad/\r.Ok nt/\r.picks.length<=400/\m < nt.ws.length/\∀l H',av H H'->H l=none->H' l=some (.lst ((r.jE m).map λk=>.int (k:Nat)))->Q (.ref l) H'
theorem xi (D:dH K mg "_law_lying" "_law_lying" kM ["_law_run","_law_way"])(T:Tx K mg C CN CR F FD):Def P w K mg base "_law_lying" 1 ["_law_run","_law_way"] y6:=by
 have sc:aD ["_law_run","_law_way"] ["_law_run","_law_way"] (az kM):=by walk_at "s"
 symm
 ·obtain⟨F,d,tn,nt,r,ad,m,rfl,hT,gF,yM,hm,q⟩:=h
  rfl
 ·nofun
  obtain⟨F,d,tn,nt,r,ad,m,rfl,hT,gF,yM,hm,q⟩:=h
  ac_rfl
  have hu:=hr.units
  have EJ:=Xe hu
  refine⟨_,(ao (aE (cW (N':=["_law_k","_law_way","_law_run"]) (ix:=[none,some 1,some 0]) (cY rfl T.eF (ai (aT aM rfl T.cm PySem.boot_len (ai (ak hu (ak hu (au 0) aB) (au 1)) aa)) aa)) (λ_ _ _ _=>(aU (i:=0) (show(["_law_k","_law_way","_law_run"]:List Str).Nodup by decide +kernel) rfl (by grind))) (λ_ _ _ _=>(jH (LO (Bm EJ (au 0) (dC (K:=K) rfl hu (dC (K:=K) rfl hu (au 2) aB) (au 1)))))) (λ_ _ _ _=>(au 0))))),?_⟩
  nofun
  obtain⟨o,hd,nF,nP,ho⟩:=hT.dk
  have l4:=(ho 4 (by decide) (by decide)).1
  have l6:=(ho 6 (by decide) (by decide)).1
  obtain⟨v4,e4,d4⟩:=hT.cH.lst (t:=4) (i:=m) hm rfl
  obtain⟨VB,e6,d6⟩:=hT.cH.dct (t:=6) (i:=m) hm rfl
  ac_rfl
  have z4:v4.length=(r.ww m).say.length:=by simpa using d4.1
  have Yy:=gF.bs m hm
  left
  refine bF ?_
  left
  refine bx _ (y0 hd) ?_
  left
  refine bu l4 (aW hm) ?_
  refine bx _ (.inl ⟨_,aP.of e4,rfl⟩) ?_
  left
  rw[z4]
  refine gK (by omega) (by omega) (λD hD=>?_)
  rw[Int.toNat_natCast]
  refine aZ (J:=xP 0 (r.ww m).say.length) (n:=(r.ww m).say.length) (λi ys H'=>av H H'/\ys=((List.range i).filter λk=>((r.ww m).jN.getD k none).isNone).map λk=>V.int (k:Nat)) (Nat.le_of_lt (small (by omega))) ⟨av.new _ hD,rfl⟩ (λi ys H' hi _=>hi) (λys H' _=>Nat.le_refl _) ?_ ?_
  ·intro i ys H' hi bE hl iV x H2 iW
   nofun
   obtain⟨s1,rfl⟩:=iV
   obtain⟨rfl,rfl⟩:=iW
   ac_rfl
   walk_at "xf"
   left
   refine bx _ (SU (s1 _ _ hd)) ?_
   left
   refine bu (s1 _ _ l6) (aW hm) ?_
   rw[Int.zero_add]
   obtain⟨o6,g6,i6⟩:=B4 (s1 _ _ e6) d6 ((i:Nat):Int)
   refine⟨ad 6 m,o6,rfl,g6,?_⟩
   rw[i6,B3,Bool.not_not]
   left
   by_cases z:((r.ww m).jN.getD i none).isNone=true
   ·rw[z]
    try rw[if_pos rfl]
    refine bP bE hl hi (Nat.le_of_lt (small (by omega))) ⟨λc o e=>by rw[ay (aq e hD)];exact s1 _ _ e,?_⟩
    rw[dU,if_pos z,List.map_append];rfl
   ·rw[Bool.not_eq_true] at z
    rw[z]
    try rw[if_neg (by decide)]
    exact⟨_,bE,by omega,s1,by rw[dU,if_neg (by rw[z];decide),List.append_nil]⟩
  ·rintro ys H' bE hl ⟨s1,rfl⟩
   exact q _ _ s1 hD bE
def fv (nt:NT)(r:RS)(w:Nat):List Nat:=if (nt.w w).2.2="row" then(r.jE w).take 1 else r.jE w
def j5 (nt:NT)(r:RS)(n:Nat):List (Nat×Nat):=(List.range n).flatMap λw=>(fv nt r w).map λk=>(w,k)
theorem mE {nt:NT}{n:Nat}:j5 nt r (n + 1)=j5 nt r n++(fv nt r n).map λk=>(n,k):=by
 unfold j5
 rw[List.range_succ,List.flatMap_append]
 simp
theorem gh.app{n:Nat}{vs us:List V}{ds:List DV}(h:gh H n vs ds)(g:gh H n us es):gh H n (vs++us) (ds++es):=by
 refine⟨by simp[h.1,g.1],λi v d a b=>?_⟩
 by_cases hi:i < vs.length
 ·rw[List.getElem?_append_left hi] at a
  rw[List.getElem?_append_left (by rw[<-h.1];exact hi)] at b
  exact h.2 i _ _ a b
 ·rw[List.getElem?_append_right (by omega)] at a
  rw[List.getElem?_append_right (by rw[<-h.1];omega),<-h.1] at b
  exact g.2 _ _ _ a b
theorem qv {w:Nat}:(r.jE w).length<=(r.ww w).say.length:=by
 unfold RS.jE
 exact Nat.le_trans (List.length_filter_le _ _) (by simp)
theorem uf {nt:NT}{w:Nat}:(fv nt r w).length<=(r.ww w).say.length:=by
 unfold fv
 split
 ·rw[List.length_take];have:=qv (r:=r) (w:=w);omega
 ·exact qv
theorem oX {nt:NT}{r:RS}{B:Nat}:∀n,(∀w,w < n->(r.ww w).say.length<=B)->(j5 nt r n).length<=n * B
 | 0,_=>by simp[j5]
 | n + 1,h=>by
  rw[mE,List.length_append,List.length_map]
  have h1:=oX (nt:=nt) n (λw hw=>h w (by omega))
  have h2:=h n (by omega)
  have h3:=uf (nt:=nt) (r:=r) (w:=n)
  rw[Nat.succ_mul]
  omega
def VC (p:Nat×Nat):DV:=pairD (((p.1:Nat):Int),((p.2:Nat):Int))
theorem B5 {r:RS}{w k:Nat}(h:k ∈ (r.jE w).take 1):∀j,j < k->((r.ww w).jN.getD j none).isNone=false:=by
 unfold RS.jE at h
 generalize hl:(List.range (r.ww w).say.length).filter (λk=>((r.ww w).jN.getD k none).isNone)=l at h
 cases l with
 | nil=>simp at h
 | cons a t=>
  simp at h
  subst h
  intro j hj
  have hs:(List.range (r.ww w).say.length).Pairwise (· < ·):=List.pairwise_lt_range
  have hf:=hs.filter (λk=>((r.ww w).jN.getD k none).isNone)
  rw[hl] at hf
  have ha:k ∈ (List.range (r.ww w).say.length).filter (λk=>((r.ww w).jN.getD k none).isNone):=by rw[hl];simp
  rw[List.mem_filter,List.mem_range] at ha
  cases z:((r.ww w).jN.getD j none).isNone with
  | false=>rfl
  | true=>
   exfalso
   have xF:j ∈ (List.range (r.ww w).say.length).filter (λk=>((r.ww w).jN.getD k none).isNone):=by
    rw[List.mem_filter,List.mem_range];exact⟨by omega,z⟩
   rw[hl] at xF
   rcases List.mem_cons.mp xF with e | e
   ·omega
   ·have:=(List.pairwise_cons.mp hf).1 j e
    omega
theorem FI {nt:NT}(h:r.Ok nt){w k:Nat}(hm:(w,k) ∈ j5 nt r nt.ws.length):r.R7 nt w k:=by
 unfold j5 at hm
 rw[List.mem_flatMap] at hm
 obtain⟨w',YS,hm⟩:=hm
 rw[List.mem_range] at YS
 rw[List.mem_map] at hm
 obtain⟨k',B6,e⟩:=hm
 cases e
 have hk:k ∈ r.jE w:=by
  unfold fv at B6
  split at B6
  ·exact List.mem_of_mem_take B6
  ·exact B6
 have hk2:k < (r.ww w).say.length/\((r.ww w).jN.getD k none).isNone=true:=by
  unfold RS.jE at hk
  rw[List.mem_filter,List.mem_range] at hk
  exact hk
 have hlk:=h.lk w YS
 refine⟨YS,?_,λgU h0=>?_⟩
 ·rw[bz (d:=none) (by omega)]
  cases z:(r.ww w).jN.getD k none with
  | none=>rfl
  | some e=>rw[z] at hk2;simp at hk2
 ·unfold fv at B6
  rw[if_pos gU] at B6
  have:=B5 B6 (k - 1) (by omega)
  rw[bz (d:=none) (show k - 1 < (r.ww w).jN.length by omega)]
  cases z:(r.ww w).jN.getD (k - 1) none with
  | none=>rw[z] at this;simp at this
  | some e=>exact⟨e,rfl⟩
theorem FJ {xs:List V}:cI xs none (some 1)=xs.take 1:=by
 unfold cI
 have e0:HT.d9 xs.length 0 none=0:=rfl
 rw[e0]
 cases xs with
 | nil=>simp
 | cons a r=>
  have e2:HT.d9 (a::r).length (a::r).length (some 1)=1:=by
   unfold HT.d9
   simp
  rw[e2]
  simp
abbrev mF:Stmt:=top 58
def FK:Sp:=λvs H Q _=>∃(F:Addr->Prop) (d:Addr) (tn:V) (nt:NT) (r:RS) (ad:Nat->Nat->Addr),vs=[.ref d]/\cV F H d tn nt r ad/\r.Ok nt/\r.picks.length<=400/\∀l ys H',av H H'->H l=none->H' l=some (.lst ys)->gh H' 1 ys ((j5 nt r nt.ws.length).map VC)->Q (.ref l) H'
theorem y7 (D:dH K mg "_law_free" "_law_free" mF ["_law_run"])(T:Tx K mg C CN CR F FD)(fw:Def P w K mg base "_law_lying" 1 ["_law_run","_law_way"] y6):Def P w K mg base "_law_free" 2 ["_law_run"] FK:=by
 have sc:aD ["_law_run","_law_free_here","_law_way","_law_told","_law_numbers"] ["_law_run"] (az mF):=by walk_at "s"
 symm
 ·obtain⟨F,d,tn,nt,r,ad,rfl,hT,gF,yM,q⟩:=h
  rfl
 ·nofun
  obtain⟨F,d,tn,nt,r,ad,rfl,hT,gF,yM,q⟩:=h
  ac_rfl
  have hu:=hr.units
  refine⟨_,(aj (ba (i:=1) sc.nd rfl (by grind) (bN aa))
   (aj (eZ PassesOwn.never rfl (jI rfl T.dQ (ai (ak hu (ak hu (au 0) aB) ag) aa)) (iU (i:=2) (j:=3) rfl sc.nd rfl rfl (by grind) (by grind))
   (aj (ba (i:=4) sc.nd rfl (by grind) (aN fw hr (ai (au 0) (ai (au 2) aa))))
   (aj (aS (aA (aV hu) (ak hu (au 3) ag) aB (aC _)) (ao (ba (i:=4) sc.nd rfl (by grind) (jJ (au 4) iI (eW ag)))) aG)
   (ao (ba (i:=1) sc.nd rfl (by grind) (aY da (au 1) (cW (N':=["_law_number","_law_way"]) (ix:=[none,some 2]) (bU (pv 4)) (λ_ _ _ _=>(aU (i:=0) (show(["_law_number","_law_way"]:List Str).Nodup by decide +kernel) rfl (by grind))) lC (λ_ _ _ _=>(bC (ai (au 1) (ai (au 0) aa)))))))))))
   (ao (aE (au 1))))),?_⟩
  nofun
  obtain⟨o,hd,nF,nP,ho⟩:=hT.dk
  obtain⟨ls,t,am,aw,al,mv,wv,lv,rfl,h1,h2,h3,h4,h5,h6,h7⟩:=hT.told
  have g1:=(cS h1 (λk z=>by cases z)).2
  have g3:=(cS h3 (λk z=>by cases z)).2
  replace h6:=h6.aI dW.aQ
  ac_rfl
  have fQ:wv.length=nt.ws.length:=by simpa using h6.1
  have sG:wv.length<=10:=by rw[fQ];exact hT.ok.BB
  have hB:∀w,w < nt.ws.length->(r.ww w).say.length<=9620:=λw hw=>by have:=gF.bs w hw;omega
  left
  refine⟨Nat.zero_le _,λl0 Nz=>?_⟩
  have s0:=av.new (.lst []) Nz
  have VD:upd H l0 (.lst []) l0=some (.lst []):=af
  generalize hG0:upd H l0 (.lst [])=G0 at *
  left
  refine xh (s0 _ _ hd) |> λh=>⟨_,h,?_⟩
  refine cJ (s0 _ _ g1) (ax (j:=1) rfl) ⟨true,wv,Sq.l (s0 _ _ g3),nh (xs:=wv) (λi σ H'=>∃z2 z3 z4 lf ys,σ=[some (V.ref d),some (V.ref lf),z2,z3,z4]/\av H H'/\H lf=none/\H' lf=some (.lst ys)/\gh H' 1 ys ((j5 nt r i).map VC)) ?_ ?_ ?_ ?_⟩
  ·exact⟨_,_,_,l0,[],rfl,s0,Nz,VD,show gh _ 1 [] [] from gh.nil⟩
  ·intro i σ H' mf
   nofun
   obtain⟨_,_,_,_,_,_,s1,_⟩:=mf
   ac_rfl
   exact Sq.l (s1 _ _ g3)
  ·intro i x σ H' tt hx oB R4
   nofun
   obtain⟨z2,z3,z4,lf,ys,rfl,s1,flf,VE,bE⟩:=oB
   have Co:i < nt.ws.length:=by rw[<-fQ];exact(List.getElem?_eq_some_iff.mp hx).1
   have s2:=av.new (.tup [.int (i:Nat),x]) R4
   have YT:upd H' tt (.tup [.int (i:Nat),x]) tt=some (.tup [.int (i:Nat),x]):=af
   have yP:=(h6.2 i x (ku (nt.w i)) hx (by rw[List.getElem?_map,show nt.ws[i]?=some (nt.w i) from bz Co];rfl)).aI (s1.trans s2).aQ
   generalize Ku:upd H' tt (.tup [.int (i:Nat),x])=G2 at *
   obtain⟨ta,u1,u2,u3,kk,rfl,ub,y1,y2,y3⟩:=b4 yP
   obtain rfl:=y1.bS
   obtain rfl:=y2.bS
   obtain rfl:=y3.bM
   ac_rfl
   refine wb (bJ.of YT) ?_
   left
   refine⟨F,d,_,nt,r,ad,i,rfl,(hT.same s1).same s2,gF,yM,Co,λln H3 s3 fln AK=>?_⟩
   have rY:av H' H3:=s2.trans s3
   have hly:=qv (r:=r) (w:=i)
   have hfw:=uf (nt:=nt) (r:=r) (w:=i)
   have hBi:=hB i Co
   left
   refine cJ (s3 _ _ ub) (ax (j:=2) rfl) ?_
   left
   by_cases gU:(nt.w i).2.2="row"
   ·rw[if_pos (by simp[gU])]
    left
    refine .inl ⟨_,AK,λl2 yg=>?_⟩
    rw[FJ]
    have s4:=av.new (.lst (((r.jE i).map λk=>V.int ((k:Nat):Int)).take 1)) yg
    have Oc:upd H3 l2 (.lst (((r.jE i).map λk=>V.int ((k:Nat):Int)).take 1)) l2=some (.lst ((fv nt r i).map λk=>V.int ((k:Nat):Int))):=by
     unfold fv
     rw[af,if_pos gU,List.map_take]
    generalize O0:upd H3 l2 (.lst (((r.jE i).map λk=>V.int ((k:Nat):Int)).take 1))=H5 at *
    have E3:=rY.trans s4
    clear AK
    have AK:=Oc
    left
    refine bF ?_
    left
    refine .inl ⟨⟨_,aP.of AK⟩,λD hD=>?_⟩
    refine aZ (J:=qB K l2) (n:=(fv nt r i).length) (λj vn H'=>av H5 H'/\gh H' 1 vn (((fv nt r i).take j).map λk=>VC (i,k))) (Nat.le_of_lt (small (by omega))) ⟨av.new _ hD,show gh _ 1 [] [] from gh.nil⟩ ?_ ?_ ?_ ?_
    ·rintro j vn H' hj ⟨s5,_⟩
     exact⟨_,_,aP.of (s5 _ _ AK),by rw[List.getElem?_map,cA hj];rfl⟩
    ·rintro vn H' ⟨s5,_⟩
     exact⟨_,aP.of (s5 _ _ AK),by simp⟩
    ·intro j vn H' hj lG gV pW xx H4 uW
     nofun
     obtain⟨s5,FL⟩:=pW
     obtain⟨rfl,hy⟩:=uW
     have ex:=hy _ (aP.of (s5 _ _ AK))
     rw[List.getElem?_map,cA hj] at ex
     obtain rfl:=Option.some.inj ex
     ac_rfl
     walk_at "xf"
     left
     try rw[if_pos trivial]
     refine⟨cM,λt2 kr=>?_⟩
     have s6:=av.new (.tup [.int ((i:Nat):Int),.int (((fv nt r i)[j]:Nat):Int)]) kr
     have rM:=s6 _ _ lG
     refine bP rM gV hj (Nat.le_of_lt (small (by omega))) ⟨λc o e=>by rw[ay (aq e hD)];exact s6 _ _ (s5 _ _ e),?_⟩
     have tu:bQ (upd H4 t2 (.tup [.int ((i:Nat):Int),.int (((fv nt r i)[j]:Nat):Int)])) (upd (upd H4 t2 (.tup [.int ((i:Nat):Int),.int (((fv nt r i)[j]:Nat):Int)])) D (.lst (vn++[.ref t2]))):=(bQ.refl _).upd λzs e=>by rw[rM] at e;cases e
     rw[List.take_succ,cA hj,List.map_append]
     exact((FL.aI s6.aQ).snoc (dw (n:=0) af (.int _) (.int _))).aI tu
    rintro vn H6 lG gV ⟨s5,FL⟩
    rw[List.take_length] at FL
    have Jy:av H' H6:=E3.trans s5
    left
    refine .inl ⟨_,_,Jy _ _ VE,lG,?_,λYU FN=>?_⟩
    ·have a1:=bE.1
     have a2:=FL.1
     have a3:=oX (nt:=nt) (r:=r) (B:=9620) i (λw hw=>hB w (by omega))
     simp at a1 a2
     rw[sizeLine_eq]
     have a5:i<=9:=by omega
     have a4:i * 9620<=9 * 9620:=Nat.mul_le_mul_right _ a5
     omega
    have s7:=av.new (.lst (ys++vn)) FN
    left
    refine Rk _ _ _ YU _ ⟨rfl,rfl,rfl,rfl⟩ (s1.trans (Jy.trans s7)) ((s1.trans Jy).free FN) af ?_
    rw[mE,List.map_append]
    refine((bE.aI Jy.aQ).app ?_).aI s7.aQ
    rw[List.map_map]
    exact FL
   ·rw[if_neg (by simp[gU])]
    have Oc:H3 ln=some (.lst ((fv nt r i).map λk=>V.int ((k:Nat):Int))):=by
     unfold fv
     rw[if_neg gU];exact AK
    clear AK
    have AK:=Oc
    left
    refine bF ?_
    left
    refine .inl ⟨⟨_,aP.of AK⟩,λD hD=>?_⟩
    refine aZ (J:=qB K ln) (n:=(fv nt r i).length) (λj vn H'=>av H3 H'/\gh H' 1 vn (((fv nt r i).take j).map λk=>VC (i,k))) (Nat.le_of_lt (small (by omega))) ⟨av.new _ hD,show gh _ 1 [] [] from gh.nil⟩ ?_ ?_ ?_ ?_
    ·rintro j vn H' hj ⟨s5,_⟩
     exact⟨_,_,aP.of (s5 _ _ AK),by rw[List.getElem?_map,cA hj];rfl⟩
    ·rintro vn H' ⟨s5,_⟩
     exact⟨_,aP.of (s5 _ _ AK),by simp⟩
    ·intro j vn H' hj lG gV ET xx H4 Jf
     nofun
     obtain⟨s5,FL⟩:=ET
     obtain⟨rfl,hy⟩:=Jf
     have ex:=hy _ (aP.of (s5 _ _ AK))
     rw[List.getElem?_map,cA hj] at ex
     obtain rfl:=Option.some.inj ex
     ac_rfl
     walk_at "xf"
     left
     try rw[if_pos trivial]
     refine⟨cM,λt2 kr=>?_⟩
     have s6:=av.new (.tup [.int ((i:Nat):Int),.int (((fv nt r i)[j]:Nat):Int)]) kr
     have rM:=s6 _ _ lG
     refine bP rM gV hj (Nat.le_of_lt (small (by omega))) ⟨λc o e=>by rw[ay (aq e hD)];exact s6 _ _ (s5 _ _ e),?_⟩
     have tu:bQ (upd H4 t2 (.tup [.int ((i:Nat):Int),.int (((fv nt r i)[j]:Nat):Int)])) (upd (upd H4 t2 (.tup [.int ((i:Nat):Int),.int (((fv nt r i)[j]:Nat):Int)])) D (.lst (vn++[.ref t2]))):=(bQ.refl _).upd λzs e=>by rw[rM] at e;cases e
     rw[List.take_succ,cA hj,List.map_append]
     exact((FL.aI s6.aQ).snoc (dw (n:=0) af (.int _) (.int _))).aI tu
    rintro vn H6 lG gV ⟨s5,FL⟩
    rw[List.take_length] at FL
    have Jy:av H' H6:=rY.trans s5
    left
    refine .inl ⟨_,_,Jy _ _ VE,lG,?_,λYU FN=>?_⟩
    ·have a1:=bE.1
     have a2:=FL.1
     have a3:=oX (nt:=nt) (r:=r) (B:=9620) i (λw hw=>hB w (by omega))
     simp at a1 a2
     rw[sizeLine_eq]
     have a5:i<=9:=by omega
     have a4:i * 9620<=9 * 9620:=Nat.mul_le_mul_right _ a5
     omega
    have s7:=av.new (.lst (ys++vn)) FN
    left
    refine Rk _ _ _ YU _ ⟨rfl,rfl,rfl,rfl⟩ (s1.trans (Jy.trans s7)) ((s1.trans Jy).free FN) af ?_
    rw[mE,List.map_append]
    refine((bE.aI Jy.aQ).app ?_).aI s7.aQ
    rw[List.map_map]
    exact FL
  ·intro σ H' Jh
   nofun
   obtain⟨z2,z3,z4,lf,ys,rfl,s1,flf,VE,bE⟩:=Jh
   ac_rfl
   rw[fQ] at bE
   left
   exact q _ _ _ s1 flf VE bE
def B7 (H H':Hp):Prop:=∀b o,H b=some o->(∀k,o≠.own k)->H' b=some o
theorem B7.aQ(h:B7 H H'):bQ H H':=λb xs e=>h b _ e (λk z=>by cases z)
theorem _root_.L2.av.Hl(s:av H H'):B7 H H':=λb o e _=>s b o e
theorem B7.trans(a:B7 H H1)(b:B7 H1 H2):B7 H H2:=λc o e n=>b c o (a c o e n) n
theorem fM.Hl{x:V}{M:Int}{ds:List bH}(s:B7 H H')(h:fM H x M ns row ds):fM H' x M ns row ds:=by
 obtain⟨t,ln,lr,ld,xs,e,h1,h2,h3,h4,h5⟩:=h
 exact⟨t,ln,lr,ld,xs,e,s _ _ h1 (λk z=>by cases z),s _ _ h2 (λk z=>by cases z),s _ _ h3 (λk z=>by cases z),s _ _ h4 (λk z=>by cases z),h5.aI s.aQ⟩
theorem ve.Hl(s:B7 H H')(h:ve H mv eO):ve H' mv eO:=⟨h.1,λi v d a b=>(h.2 i v d a b).Hl s⟩
theorem ve.nil:ve H [] []:=⟨rfl,λi v d a=>by simp at a⟩
theorem ve.snoc{v:V}{d:MD}(h:ve H mv eO)(g:fM H v d.M d.ns d.row d.ds):ve H (mv++[v]) (eO++[d]):=by
 refine⟨by simp[h.1],λi y e a b=>?_⟩
 by_cases hi:i < mv.length
 ·rw[List.getElem?_append_left hi] at a
  rw[List.getElem?_append_left (by rw[<-h.1];exact hi)] at b
  exact h.2 i _ _ a b
 ·rw[List.getElem?_append_right (by omega)] at a
  rw[List.getElem?_append_right (by rw[<-h.1];omega),<-h.1] at b
  cases hj:i - mv.length with
  | zero=>rw[hj] at a b;cases a;cases b;exact g
  | succ k=>rw[hj] at a;simp at a
def mask (a b c:Addr)(H:Hp):Hp:=λx=>if x=a\/x=b\/x=c then some (.own 0) else H x
theorem nJ {x:Addr}(h1:x≠a)(h2:x≠b)(h3:x≠c):mask a b c H x=H x:=by unfold mask;rw[if_neg (by simp[h1,h2,h3])]
theorem ug {x:Addr}(h:mask a b c H x=some o)(ho:∀k,o≠.own k):x≠a/\x≠b/\x≠c/\H x=some o:=by
 unfold mask at h
 split at h
 ·cases h;exact absurd rfl (ho 0)
 ·rename_i hn
  simp only[not_or] at hn
  exact⟨hn.1,hn.2.1,hn.2.2,h⟩
theorem FO:B7 (mask a b c H) H:=λx o e n=>(ug e n).2.2.2
theorem xj (h:∀x o,x≠a->x≠b->x≠c->H x=some o->H' x=some o):B7 (mask a b c H) (mask a b c H'):=λx o e n=>by
 obtain⟨h1,h2,h3,h4⟩:=ug e n
 rw[nJ h1 h2 h3]
 exact h x o h1 h2 h3 h4
theorem B8 {t ln lr ld:Addr}{xs:List V}{M:Int}{ds:List bH}(h1:H t=some (.tup [.int M,.ref ln,.ref lr,.ref ld]))(h2:H ln=some (.lst (ns.map V.int)))(h3:H lr=some (.lst (row.map V.int)))(h4:H ld=some (.lst xs))(h5:gh H 2 xs (ds.map bH.dv))
  (l1:∃ys,H a=some (.lst ys)) (l2:∃ys,H b=some (.lst ys)) (l3:∃ys,H c=some (.lst ys)) (n1:ln≠a/\ln≠b/\ln≠c) (n2:lr≠a/\lr≠b/\lr≠c) (n3:ld≠a/\ld≠b/\ld≠c):fM (mask a b c H) (.ref t) M ns row ds:=by
 obtain⟨y1,l1⟩:=l1
 obtain⟨y2,l2⟩:=l2
 obtain⟨y3,l3⟩:=l3
 have tk:bQ H (mask a b c H):=λx ys e=>by
  rw[nJ (λz=>by rw[z,l1] at e;cases e) (λz=>by rw[z,l2] at e;cases e) (λz=>by rw[z,l3] at e;cases e)]
  exact e
 exact⟨t,ln,lr,ld,xs,rfl,tk _ _ h1,by rw[nJ n1.1 n1.2.1 n1.2.2];exact h2,by rw[nJ n2.1 n2.2.1 n2.2.2];exact h3,by rw[nJ n3.1 n3.2.1 n3.2.2];exact h4,h5.aI tk⟩
structure uh (eO:List MD)(ws:List (Int×Int×Str))(ls:List (Int×Int)):Prop where
 m1:1<=eO.length
 m5:eO.length<=5
 OG:ws.length<=10
 Od:ls.length<=20
 mg:∀d ∈ eO,d.good
 wo:∀w ∈ ws,tU eO.length w
 lo:∀l ∈ ls,tW ws.length l
theorem uh.nt(h:uh eO ws ls):(NT.mk eO ws).Ok:=⟨h.m5,h.m1,h.OG,h.mg,h.wo⟩
abbrev oY:Stmt:=top 53
def AL (K:W.Frag):Sp:=λvs H Q _=>∃(a:Addr) (ns:List Int),vs=[.ref a]/\aP K H a (ns.map V.int)/\ns.length<=63/\∀t am aw al mv wv lv eO ws ls H',av H H'->H' t=some (.tup [.ref am,.ref aw,.ref al])->H' am=some (.lst mv)->H' aw=some (.lst wv)->H' al=some (.lst lv)->ve H' mv eO->gh H' 1 wv (ws.map ku)->gh H' 1 lv (ls.map mh)->uh eO ws ls->Q (.ref t) H'
theorem B9 (D:dH K mg "_law_net" "_law_net" oY ["_law_script"])(T:Tx K mg C CN CR F FD)(ee:Def P w K mg base "_law_at" 1 ["_law_script","_law_k"] (EG K))(aL:Def P w K mg base "_law_digit" 1 ["_law_pot_here","_law_many"] jz)(jf:Def P w K mg base "_law_machine" 4 ["_law_pot_here","_law_great"] wF)(jB:Def P w K mg base "_law_pot" 1 ["_law_cell"] EI):Def P w K mg base "_law_net" 5 ["_law_script"] (AL K):=by
 have sc:aD ["_law_script","_law_many","_law_great","_law_machines","_law_pot_here","_law_ways","_law_k","_law_letters","_law_said"] ["_law_script"] (az oY):=by walk_at "s"
 symm
 ·obtain⟨a,ns,rfl,hS,VF,q⟩:=h
  rfl
 ·nofun
  obtain⟨a,ns,rfl,hS,VF,q⟩:=h
  ac_rfl
  have hu:=hr.units
  refine⟨_,(aj (ba (i:=1) sc.nd rfl (by grind) (aY da ag (aY dj (aN ee hr (ai (au 0) (ai ag aa))) ag)))
   (aj (ba (i:=2) sc.nd rfl (by grind) (dB nZ rfl T.wc Uy (ai (gT (aV hu) (aY dj (aY gC (aN ee hr (ai (au 0) (ai ag aa))) ag) ag) ag (aC _)) aa)))
   (aj (fC (i:=3) sc.nd rfl (by grind) (N':=["_law_k","_law_great","_law_script"]) (ix:=[none,some 2,some 0]) (cY rfl T.eF (ai (au 1) aa)) (λ_ _ _ _=>(aU (i:=0) (show(["_law_k","_law_great","_law_script"]:List Str).Nodup by decide +kernel) rfl (by grind))) lC (λ_ _ _ _=>(aN jf hr (ai (aN jB hr (ai (aN ee hr (ai (au 2) (ai (aY da ag (au 0)) aa))) aa)) (ai (au 1) aa)))))
   (aj (ba (i:=4) sc.nd rfl (by grind) (aN jB hr (ai (aN ee hr (ai (au 0) (ai ag aa))) aa)))
   (aj (ba (i:=5) sc.nd rfl (by grind) (bN aa))
   (aj (eZ PassesOwn.never rfl (cY rfl T.eF (ai (aN aL hr (ai (au 4) (ai ag aa))) aa)) (aU (i:=6) sc.nd rfl (by grind))
   (ao (bY (du lO nQ nR bV (au 5) (ai (bC (ai (aN aL hr (ai (au 4) (ai (au 1) aa))) (ai (aN aL hr (ai (au 4) (ai (au 1) aa))) (ai (ak hu (bN (ai aB (ai aB aa))) (aN aL hr (ai (au 4) (ai ag aa)))) aa)))) aa)))))
   (aj (ba (i:=4) sc.nd rfl (by grind) (aN jB hr (ai (aN ee hr (ai (au 0) (ai ag aa))) aa)))
   (aj (ba (i:=7) sc.nd rfl (by grind) (bN aa))
   (aj (eZ PassesOwn.never rfl (cY rfl T.eF (ai (aN aL hr (ai (au 4) (ai (ak hu (bN (ai ag (ai ag aa))) (au 2)) aa))) aa)) (aU (i:=6) sc.nd rfl (by grind))
   (ao (aS (aA (dG hu) (au 5) (bN aa) (aC _)) (aj (ba (i:=8) sc.nd rfl (by grind) (ak hu (bN (ai (aN aL hr (ai (au 4) (ai ag aa))) (ai (aN aL hr (ai (au 4) (ai (aY qj ag ag) aa))) aa))) (aN aL hr (ai (au 4) (ai ag aa)))))
   (ao (bY (du lO nQ nR bV (au 7) (ai (bC (ai (aN aL hr (ai (au 4) (ai (aT aM rfl T.cm PySem.boot_len (ai (au 5) aa)) aa))) (ai (au 8) aa))) aa))))) aG)))
   (ao (aE (bC (ai (au 3) (ai (au 5) (ai (au 7) aa))))))))))))))),?_⟩
  right
  refine⟨a,ns,_,rfl,hS,by omega,λc0=>⟨(by decide:(0:Int) < 5),?_⟩⟩
  have hc0:=Int.emod_nonneg c0 (b:=5) (by decide)
  have hc5:=Int.emod_lt_of_pos c0 (b:=5) (by decide)
  right
  refine⟨a,ns,_,rfl,hS,by omega,λc8=>⟨⟨by decide,by decide⟩,(by decide:(0:Int) < 8),?_⟩⟩
  right
  refine .inr ?_
  have hgE:∃gr:Int,gr=(if decide (c8 / 6 % 8=5)=true then 1 else 0)/\0<=gr/\gr<=1:=⟨_,rfl,by split <;> decide,by split <;> decide⟩
  obtain⟨gr,egr,Xx,Xy⟩:=hgE
  rw[<-egr]
  right
  refine bF ?_
  right
  refine gK (by omega) (by omega) (λD hD=>?_)
  refine aZ (J:=xP 0 (1 + c0 % 5).toNat) (n:=(1 + c0 % 5).toNat) (λi ys H'=>av H H'/\∃eO,eO.length=i/\ve (mask D D D H') ys eO/\∀d ∈ eO,d.good) (Nat.le_of_lt (aH (by omega))) ⟨av.new _ hD,[],rfl,ve.nil,λd hd=>by simp at hd⟩ (λi ys H' hi _=>hi) (λys H' _=>Nat.le_refl _) ?_ ?_
  ·intro i ys H1 hi bE hl iV x H2 iW
   nofun
   obtain⟨s1,eO,lN,hM,YV⟩:=iV
   obtain⟨rfl,rfl⟩:=iW
   ac_rfl
   walk_at "xf"
   right
   rw[if_pos trivial]
   refine⟨a,ns,_,rfl,s1.seq hS,by omega,λc1=>⟨c1,rfl,λp Pu hp qi=>⟨p,gr,rfl,⟨_,af,qi⟩,Xx,Xy,λt ln lr ld xs M mns row ds H3 st h1 h2 h3 h4 h5 f1 f2 f3 hg=>?_⟩⟩⟩
   have q3:∀b o,H2 b=some o->H3 b=some o:=λb o e=>st.rest b o ((av.new _ hp) _ _ e) (aq e hp)
   have VG:=q3 _ _ bE
   have p1:=(av.new (.lst (Pu.map V.int)) hp) _ _ bE
   have nD:∀{b:Addr},upd H2 p (.lst (Pu.map V.int)) b=none->b≠D:=λf=>Ne.symm (aq p1 f)
   refine bP VG hl hi (Nat.le_of_lt (aH (by omega))) ⟨λb o e=>by rw[ay (aq e hD)];exact q3 _ _ (s1 _ _ e),eO++[⟨M,mns,row,ds⟩],by simp[lN],?_,λd hd=>?_⟩
   ·have c4:B7 (mask D D D H2) (mask D D D (upd H3 D (.lst (ys++[.ref t])))):=xj λb o b1 b2 b3 e=>by rw[ay b1];exact q3 _ _ e
    have c5:B7 (mask D D D H3) (mask D D D (upd H3 D (.lst (ys++[.ref t])))):=xj λb o b1 b2 b3 e=>by rw[ay b1];exact e
    exact(hM.Hl c4).snoc (fM.Hl c5 (B8 h1 h2 h3 h4 h5 ⟨_,VG⟩ ⟨_,VG⟩ ⟨_,VG⟩ ⟨nD f1,nD f1,nD f1⟩ ⟨nD f2,nD f2,nD f2⟩ ⟨nD f3,nD f3,nD f3⟩))
   ·rcases List.mem_append.mp hd with hd | hd
    ·exact YV d hd
    ·simp only[List.mem_singleton] at hd;subst hd;exact hg
  intro mv H1 SV hl mf
  nofun
  obtain⟨s1,eO,lN,hM0,YV⟩:=mf
  have hM:=hM0.Hl FO
  generalize hDa:D=am at *
  ac_rfl
  right
  refine⟨a,ns,_,rfl,s1.seq hS,by omega,λc6=>⟨c6,rfl,λp Pu hp qi=>?_⟩⟩
  have s2:=av.new (.lst (Pu.map V.int)) hp
  have GU:eE (upd H1 p (.lst (Pu.map V.int))) p:=⟨_,af,qi⟩
  generalize Ku:upd H1 p (.lst (Pu.map V.int))=G2 at *
  right
  refine⟨Nat.zero_le _,λaw mi=>?_⟩
  have s3:=av.new (.lst []) mi
  have RZ:aw≠p:=Step.ne GU mi
  have hp3:=GU.same s3
  have eaw:upd G2 aw (.lst []) aw=some (.lst []):=af
  have faw:H1 aw=none:=s2.free mi
  have rY:=s2.trans s3
  generalize OZ:upd G2 aw (.lst [])=G3 at *
  refine lZ p 11 rfl hp3 (by decide) (by decide +kernel) (λd4 H4 rX hd1 qm=>?_)
  refine⟨d4,rfl,by omega,by omega,jr (n:=d4.toNat) (λi σ H'=>(∃z5,σ=[some (.ref a),some (.int (1 + c0 % 5)),some (.int gr),some (.ref am),some (.ref p),some (.ref aw),z5,none,none])/\eE H' p/\av H1 H'/\∃(wv:List V) (ws:List (Int×Int×Str)),H' aw=some (.lst wv)/\gh H' 1 wv (ws.map ku)/\ws.length=i/\∀w ∈ ws,tU (1 + c0 % 5) w) ?_ ?_ ?_⟩
  ·exact⟨⟨_,rfl⟩,qm.fR,qm.over rY hp,[],[],qm.rest _ _ eaw RZ,gh.nil,rfl,λw hw=>by simp at hw⟩
  ·intro i σ H5 hi oB
   nofun
   obtain⟨⟨z5,rfl⟩,YW,s5,wv,ws,Jz,hW,fQ,IT⟩:=oB
   ac_rfl
   have FQ:wv.length=i:=by have:=hW.1;simp at this;omega
   right
   refine⟨.inl ⟨rfl,_,aP.of Jz⟩,?_⟩
   have l5:(1 + c0 % 5).natAbs.log2 < 9000:=by
    have:1 + c0 % 5=1\/1 + c0 % 5=2\/1 + c0 % 5=3\/1 + c0 % 5=4\/1 + c0 % 5=5:=by omega
    rcases this with e | e | e | e | e <;> (rw[e];decide +kernel)
   refine dig YW (by omega) l5 λe1 H6 h60 h61 Kv=>?_
   right
   refine dig Kv.fR (by omega) l5 λe2 H7 h70 h71 Nq=>?_
   have SW:=Kv.trans Nq
   right
   refine⟨cM,λl hl=>?_⟩
   have Hb:=SW.new (o:=.lst [.str "row",.str "heap"]) hl
   have OQ:l≠p:=Step.ne SW.fR hl
   refine dig Hb.fR (by decide) (by decide +kernel) λk H9 Xz Vd Hc=>?_
   have YX:=Hb.trans Hc
   obtain⟨w3,ew3,hw3⟩:∃w3:Str,gB [V.str "row",V.str "heap"] k=some (.str w3)/\(w3="row"\/w3="heap"):=by
    have:k=0\/k=1:=by omega
    rcases this with rfl | rfl
    ·exact⟨_,ax (j:=0) rfl,.inl rfl⟩
    ·exact⟨_,ax (j:=1) rfl,.inr rfl⟩
   right
   refine bu (Hc.rest _ _ af OQ) ew3 ?_
   right
   refine⟨by show 3<=sizeLine;decide,λt ht=>?_⟩
   have JA:=YX.new (o:=.tup [.int e1,.int e2,.str w3]) ht
   have SX:=JA.rest _ _ Jz RZ
   have eT:upd H9 t (.tup [.int e1,.int e2,.str w3]) t=some (.tup [.int e1,.int e2,.str w3]):=af
   have YY:=JA.fR
   have tA:=JA.aQ YW
   have sA:av H1 (upd H9 t (.tup [.int e1,.int e2,.str w3])):=JA.over s5 hp
   generalize hGA:upd H9 t (.tup [.int e1,.int e2,.str w3])=GA at *
   have tB:bQ GA (upd GA aw (.lst (wv++[.ref t]))):=(bQ.refl _).upd λys e=>by rw[SX] at e;cases e
   refine⟨_,SX,aH (by omega),⟨_,rfl⟩,YY.upd (Ne.symm RZ),λb o e=>by rw[ay (aq e faw)];exact sA _ _ e,wv++[.ref t],ws++[(e1,e2,w3)],af,?_,by simp[fQ],λw hw=>?_⟩
   ·have h6:=((hW.aI tA).snoc (lY (n:=0) eT (.int e1) (.int e2) (.str w3))).aI tB
    simpa[ku] using h6
   ·rcases List.mem_append.mp hw with hw | hw
    ·exact IT w hw
    ·simp only[List.mem_singleton] at hw;subst hw;exact⟨h60,h61,h70,h71,hw3⟩
  intro σ H5 pW
  nofun
  obtain⟨⟨z5,rfl⟩,YW,s5,wv,ws,Jz,hW,fQ,IT⟩:=pW
  ac_rfl
  have FQ:wv.length=ws.length:=by have:=hW.1;simpa using this
  have EO:=s5 _ _ SV
  have hM5:=hM.Hl s5.Hl
  right
  refine⟨a,ns,_,rfl,(s1.trans s5).seq hS,by omega,λc7=>⟨c7,rfl,λp' YZ GY Y0=>?_⟩⟩
  have s6:=av.new (.lst (YZ.map V.int)) GY
  have hp6:eE (upd H5 p' (.lst (YZ.map V.int))) p':=⟨_,af,Y0⟩
  generalize IQ:upd H5 p' (.lst (YZ.map V.int))=G6 at *
  right
  refine⟨Nat.zero_le _,λal Cn=>?_⟩
  have s7:=av.new (.lst []) Cn
  have NA:al≠p':=Step.ne hp6 Cn
  have Y1:=hp6.same s7
  have Y2:upd G6 al (.lst []) al=some (.lst []):=af
  have fal:H5 al=none:=s6.free Cn
  have Y3:=s6.trans s7
  nofun
  generalize O2:upd G6 al (.lst [])=G7 at *
  have Kh:∃z:Int,gB [V.int 13,V.int 21] gr=some (.int z)/\0 < z/\z<=21:=by
   have:gr=0\/gr=1:=by omega
   rcases this with rfl | rfl
   ·exact⟨_,ax (j:=0) rfl,by decide,by decide⟩
   ·exact⟨_,ax (j:=1) rfl,by decide,by decide⟩
  obtain⟨z8,XA,ES,XB⟩:=Kh
  ac_rfl
  refine⟨cM,λlg Jd=>bu af XA ?_⟩
  have Y4:=av.new (.lst [.int 13,.int 21]) Jd
  nofun
  replace Y1:=Y1.same Y4
  replace Y2:=Y4 _ _ Y2
  replace Y3:=Y3.trans Y4
  generalize ae0:upd G7 lg (.lst [.int 13,.int 21])=G7g at *
  ac_rfl
  refine lZ p' z8 rfl Y1 ES (wD ES (by omega)) (λd8 H8 ae1 ae2 Hb=>?_)
  refine⟨d8,rfl,by omega,by omega,jr (n:=d8.toNat) (λi σ H'=>(∃z5 z8,σ=[some (.ref a),some (.int (1 + c0 % 5)),some (.int gr),some (.ref am),some (.ref p'),some (.ref aw),z5,some (.ref al),z8])/\eE H' p'/\av H5 H'/\∃(lv:List V) (ls:List (Int×Int)),H' al=some (.lst lv)/\gh H' 1 lv (ls.map mh)/\ls.length<=i/\∀l ∈ ls,tW ws.length l) ?_ ?_ ?_⟩
  ·exact⟨⟨_,_,rfl⟩,Hb.fR,Hb.over Y3 GY,[],[],Hb.rest _ _ Y2 NA,gh.nil,Nat.le_refl _,λw hw=>by simp at hw⟩
  ·intro i σ H9 hi uW
   nofun
   obtain⟨⟨z5,z8,rfl⟩,hp9,s9,lv,ls,He,hL,wG,tH⟩:=uW
   ac_rfl
   have Y5:lv.length=ls.length:=by have:=hL.1;simpa using this
   have Y6:=s9 _ _ Jz
   right
   refine⟨Nat.zero_le _,λl0 Nz=>?_⟩
   have vp:=av.new (.lst []) Nz
   have FT:=vp _ _ Y6
   have VD:upd H9 l0 (.lst []) l0=some (.lst []):=af
   have FU:=vp _ _ He
   have Oe:=hp9.same vp
   have xk:=s9.trans vp
   have SY:=hL.aI vp.aQ
   generalize Se:upd H9 l0 (.lst [])=G10 at *
   cases ws with
   | nil=>
    have ua:wv=[]:=by simpa using FQ
    subst ua
    refine .inl ⟨.inr ⟨_,_,_,_,rfl,rfl,.inr ⟨aP.of FT,aP.of VD⟩,rfl,λj u v hu=>by simp at hu⟩,?_⟩
    right
    try rw[if_neg Bool.false_ne_true]
    exact⟨⟨_,_,rfl,rfl⟩,Oe,xk,lv,ls,FU,SY,by omega,tH⟩
   | cons w0 wr=>
    have hwp:0 < (wv.length:Int):=by rw[FQ];simp
    have ae3:wv.length<=10:=by omega
    refine .inr ⟨⟨_,_,by simp[FQ],.inl ⟨aP.of FT,aP.of VD⟩⟩,?_⟩
    right
    try rw[if_pos trivial]
    have lw:((wv.length:Nat):Int).natAbs.log2 < 9000:=wD hwp (by omega)
    refine dig Oe (by decide) (by decide +kernel) λe2 BY ae4 ae5 S0=>?_
    right
    refine⟨yA,dig S0.fR Ng Nh λe3 Fu ae6 Y7 Y8=>?_⟩
    have FV:=S0.trans Y8
    right
    refine⟨cM,λls0 S8=>?_⟩
    have S9:=FV.new (o:=.lst [.int e2,.int e3]) S8
    have Y9:ls0≠p':=Step.ne FV.fR S8
    refine dig S9.fR (by decide) (by decide +kernel) λk VH Xz Vd BQ=>?_
    have vf:=S9.trans BQ
    have e60:(10:Int) ^ Int.toNat 60=1000000000000000000000000000000000000000000000000000000000000:=by decide +kernel
    rw[e60] at Y7
    obtain⟨z,ez,Np,Cg⟩:∃z:Int,gB [V.int e2,V.int e3] k=some (.int z)/\1 - 1000000000000000000000000000000000000000000000000000000000000<=z/\z < 1000000000000000000000000000000000000000000000000000000000000:=by
     have:k=0\/k=1:=by omega
     rcases this with rfl | rfl
     ·exact⟨_,ax (j:=0) rfl,by omega,by omega⟩
     ·exact⟨_,ax (j:=1) rfl,by omega,by omega⟩
    right
    refine bu (BQ.rest _ _ af Y9) ez ?_
    right
    have Ta:=vf.rest _ _ FU NA
    have Tb:=vf.rest _ _ FT (λz=>by rw[z,GY] at Jz;cases Jz)
    refine⟨.inl ⟨rfl,_,aP.of Ta⟩,?_⟩
    refine bx _ (.inl ⟨_,aP.of Tb,rfl⟩) ?_
    refine dig vf.fR hwp lw λe1 K5 Za Zb ER=>?_
    have Of:=vf.trans ER
    right
    refine⟨cM,λt ht=>?_⟩
    have JA:=Of.new (o:=.tup [.int e1,.int z]) ht
    have Tc:=JA.rest _ _ FU NA
    have eT:upd K5 t (.tup [.int e1,.int z]) t=some (.tup [.int e1,.int z]):=af
    have YY:=JA.fR
    have tA:=JA.aQ Oe
    have sA:av H5 (upd K5 t (.tup [.int e1,.int z])):=JA.over xk GY
    generalize hGA:upd K5 t (.tup [.int e1,.int z])=GA at *
    have tB:bQ GA (upd GA al (.lst (lv++[.ref t]))):=(bQ.refl _).upd λys e=>by rw[Tc] at e;cases e
    refine⟨_,Tc,aH (by omega),⟨_,_,rfl,rfl⟩,YY.upd (Ne.symm NA),λb o e=>by rw[ay (aq e fal)];exact sA _ _ e,lv++[.ref t],ls++[(e1,z)],af,?_,by simp;omega,λl hl=>?_⟩
    ·have h6:=((SY.aI tA).snoc (dw (n:=0) eT (.int e1) (.int z))).aI tB
     simpa[mh] using h6
    ·rcases List.mem_append.mp hl with hl | hl
     ·exact tH l hl
     ·simp only[List.mem_singleton] at hl;subst hl;exact⟨Za,by have:=Zb;rw[FQ] at this;exact this,Np,Cg⟩
  intro σ H9 ET
  nofun
  obtain⟨⟨z5,z8,rfl⟩,hp9,s9,lv,ls,He,hL,wG,tH⟩:=ET
  ac_rfl
  right
  refine⟨by show 3<=sizeLine;decide,λt ht=>?_⟩
  have vp:=av.new (.tup [.ref am,.ref aw,.ref al]) ht
  refine q t am aw al mv wv lv eO ws ls _ (s1.trans (s5.trans (s9.trans vp))) af (vp _ _ (s9 _ _ EO)) (vp _ _ (s9 _ _ Jz)) (vp _ _ He) (hM5.Hl (s9.trans vp).Hl) (hW.aI (s9.trans vp).aQ) (hL.aI vp.aQ) ⟨by omega,by omega,by omega,by omega,YV,λw hw=>?_,tH⟩
  have e:((eO.length:Nat):Int)=1 + c0 % 5:=by omega
  rw[e]
  exact IT w hw
def Pw (M:Int)(ns row:List Int)(ds:List bH):DV:=.tup [.int M,.lst (ns.map .int),.lst (row.map .int),.lst (ds.map bH.dv)]
theorem iN (v:Val):rV v.dv:=by
 cases v <;> (refine .tup λe he=>?_;simp at he) <;> first | (rcases he with rfl | rfl;exact .str _;exact .int _) | (subst he;exact .str _)
theorem FW (d:bH):rV d.dv:=by
 cases d with
 | set i v=>refine .tup λe he=>?_;simp at he;rcases he with rfl | rfl | rfl;exact .str _;exact .int _;exact iN v
 | add i v=>refine .tup λe he=>?_;simp at he;rcases he with rfl | rfl | rfl;exact .str _;exact .int _;exact iN v
 | times i v=>refine .tup λe he=>?_;simp at he;rcases he with rfl | rfl | rfl;exact .str _;exact .int _;exact iN v
 | put v=>refine .tup λe he=>?_;simp at he;rcases he with rfl | rfl;exact .str _;exact iN v
 | drop=>refine .tup λe he=>?_;simp at he;subst he;exact .str _
 | send j v=>refine .tup λe he=>?_;simp at he;rcases he with rfl | rfl | rfl;exact .str _;exact .int _;exact iN v
 | say v=>refine .tup λe he=>?_;simp at he;rcases he with rfl | rfl;exact .str _;exact iN v
 | skip v w k=>refine .tup λe he=>?_;simp at he;rcases he with rfl | rfl | rfl | rfl;exact .str _;exact iN v;exact iN w;exact .int _
theorem jC:rV (.lst (ns.map .int)):=.lst λe he=>by
 obtain⟨z,_,rfl⟩:=List.mem_map.mp he
 exact .int z
theorem ui {ds:List bH}:rV (.lst (ds.map bH.dv)):=.lst λe he=>by
 obtain⟨z,_,rfl⟩:=List.mem_map.mp he
 exact FW z
theorem eB {n:Nat}{vs:List V}{ds:List DV}(e:H a=some (.lst vs))(h:c9 H n vs ds):HD H (n + 1) (.ref a) (.lst ds):=.lst e h.1 h.2
theorem gh.yc{n:Nat}{vs:List V}{ds:List DV}(h:gh H n vs ds):c9 H n vs ds:=⟨h.1,λi v d a b=>(h.2 i v d a b).hd⟩
theorem JB {K:W.Frag}{d d':MD}(h:fM H (.ref a) d.M d.ns d.row d.ds)(h':fM H (.ref c) d'.M d'.ns d'.row d'.ds):∃b,U5 K H 19 a c b/\(b=true->Pw d.M d.ns d.row d.ds=Pw d'.M d'.ns d'.row d'.ds):=by
 obtain⟨t,ln,lr,ld,xs,e,h1,h2,h3,h4,h5⟩:=h
 obtain⟨t',ln',lr',ld',xs',e',h1',h2',h3',Xv,Og⟩:=h'
 cases e
 cases e'
 obtain⟨b0,a0,c0⟩:=uT (K:=K) (H:=H) 4 (x:=.int d.M) (y:=.int d'.M) (m:=4) (.int _) (.int _) (.int _) (.int _)
 obtain⟨b1,a1,c1⟩:=uT (K:=K) (H:=H) 4 (m:=4) (eB h2 (c9.ints d.ns)) (eB h2' (c9.ints d'.ns)) jC jC
 obtain⟨b2,a2,c2⟩:=uT (K:=K) (H:=H) 4 (m:=4) (eB h3 (c9.ints d.row)) (eB h3' (c9.ints d'.row)) jC jC
 obtain⟨b3,a3,c3⟩:=uT (K:=K) (H:=H) 4 (m:=4) (eB h4 ((h5.yc).mono (by decide))) (eB Xv ((Og.yc).mono (by decide))) ui ui
 refine⟨_,⟨_,_,λi=>match i with
  | 0=>b0
  | 1=>b1
  | 2=>b2
  | _=>b3,.inl ⟨bJ.of h1,bJ.of h1'⟩,λi u v hu hv=>?_,rfl⟩,λhb=>?_⟩
 ·match i,hu,hv with
  | 0,hu,hv=>simp at hu hv;subst hu hv;exact a0.mono (by decide)
  | 1,hu,hv=>simp at hu hv;subst hu hv;exact a1.mono (by decide)
  | 2,hu,hv=>simp at hu hv;subst hu hv;exact a2.mono (by decide)
  | 3,hu,hv=>simp at hu hv;subst hu hv;exact a3.mono (by decide)
  | (n + 4),hu,hv=>simp at hu
 ·simp[List.range_succ] at hb
  obtain⟨x0,x1,x2,x3⟩:=hb
  unfold Pw
  rw[c0.mp x0,c1.mp x1,c2.mp x2,c3.mp x3]
theorem JC {C:Addr}{M M':Int}{Zc Oh:List Int}{ds Cj:List bH}(e:Pw M ns row ds=Pw M' Zc Oh Cj)(h:hV C H m M ns row ds):hV C H m M' Zc Oh Cj:=by
 unfold Pw at e
 simp only[DV.tup.injEq,List.cons.injEq,DV.int.injEq,DV.lst.injEq,and_true] at e
 obtain⟨e1,e2,e3,e4⟩:=e
 obtain⟨dx,st,dd,h1,h2,h3⟩:=h
 subst e1
 refine⟨dx,st,dd,h1,?_,?_⟩
 ·show HT H 2 st (.tup [.tup (Zc.map .int),.tup (Oh.map .int)])
  rw[<-e2,<-e3];exact h2
 ·rw[<-e4];exact h3
theorem jY {C:Addr}{M:Int}{ds:List bH}(t:bQ H H')(i:∀b c d e,H b=some (.ins c d e)->H' b=some (.ins c d e))(h:hV C H m M ns row ds):hV C H' m M ns row ds:=by
 obtain⟨dx,st,dd,h1,h2,h3⟩:=h
 exact⟨dx,st,dd,i _ _ _ _ h1,h2.aI t,h3.aI t⟩
abbrev ik:Stmt:=top 60
inductive xl (C CN:Addr)(vs:List V)(H:Hp)(Q:VK):Prop
 | mk (x:V) (eO:List MD) (ws:List (Int×Int×Str)) (ls:List (Int×Int)) (h0:vs=[x]) (h1:ToldN H x eO ws ls) (h2:uh eO ws ls) (h3:∀n ms wv lv H',av H H'->u9 C CN H' n ⟨eO,ws⟩->oO CN H' n ms wv lv->gh H' 1 lv (ls.map mh)->Q (.ref n) H'):xl C CN vs H Q
def uj (C CN:Addr):Sp:=λvs H Q _=>xl C CN vs H Q
theorem rN (D:dH K mg "_law_net_made" "_law_net_made" ik ["_law_net_here"])(T:Tx K mg C CN CR F FD)(oZ:vV P w K mg base "Machine" C 7 ["self","modulus","numbers","row","deeds"] (Am C))(FX:vV P w K mg base "Net" CN 7 ["self","machines","ways","letters"] (wV C CN)):Def P w K mg base "_law_net_made" 9 ["_law_net_here"] (uj C CN):=by
 have sc:aD ["_law_net_here","_law_machines","_law_k","_law_one"] ["_law_net_here"] (az ik):=by walk_at "s"
 symm
 ·obtain⟨x,eO,ws,ls,rfl,hT,g,q⟩:=h
  rfl
 ·nofun
  obtain⟨x,eO,ws,ls,rfl,hT,g,q⟩:=h
  ac_rfl
  have hu:=hr.units
  refine⟨_,(aj (ba (i:=1) sc.nd rfl (by grind) (bN aa))
   (aj (eZ PassesOwn.never rfl (jI rfl T.dQ (ai (ak hu (au 0) ag) aa)) (iU (i:=2) (j:=3) rfl sc.nd rfl rfl (by grind) (by grind))
   (ao (aS (PW.pt (pw_and (aA lV (au 2) ag (aC _)) (pw_and1 (aA (IC hu) (au 3) (ak hu (ak hu (au 0) ag) ag) (aC _))))) (ao (bY (du lO nQ nR bV (au 1) (ai (ak hu (au 1) ag) aa)))) (ao (bY (du lO nQ nR bV (au 1) (ai (Ek oZ hr (ai (ak hu (au 3) ag) (ai (dB cC rfl T.dI um (ai (ak hu (au 3) ag) aa)) (ai (dB cC rfl T.dI um (ai (ak hu (au 3) ag) aa)) (ai (dB cC rfl T.dI um (ai (ak hu (au 3) ag) aa)) aa))))) aa)))))))
   (ao (aE (Ek FX hr (ai (au 1) (ai (dB cC rfl T.dI um (ai (ak hu (au 0) ag) aa)) (ai (dB cC rfl T.dI um (ai (ak hu (au 0) ag) aa)) aa)))))))),?_⟩
  nofun
  obtain⟨t,am,aw,al,mv,wv,lv,rfl,ht,SV,Jz,He,hM,hW,hL⟩:=id hT
  ac_rfl
  have afc:mv.length<=5:=by have:=hM.1;have:=g.m5;omega
  left
  refine⟨Nat.zero_le _,λlm Zd=>?_⟩
  have s0:=av.new (.lst []) Zd
  have elm:upd H lm (.lst []) lm=some (.lst []):=af
  generalize hG0:upd H lm (.lst [])=G0 at *
  left
  refine cJ (s0 _ _ ht) (ax (j:=0) rfl) ⟨true,mv,Sq.l (s0 _ _ SV),nh (xs:=mv) (λi σ H'=>∃(z2 z3:Option V) (ms:List Addr),σ=[some (V.ref t),some (V.ref lm),z2,z3]/\av H H'/\H' lm=some (.lst (ms.map V.ref))/\ms.length=i/\(∀(j:Nat) m d,ms[j]?=some m->eO[j]?=some d->OP C H' m d)) ?_ ?_ ?_ ?_⟩
  ·exact⟨_,_,[],rfl,s0,elm,rfl,λj m d e=>by simp at e⟩
  ·intro i σ H' iV
   nofun
   obtain⟨_,_,_,_,s1,_⟩:=iV
   ac_rfl
   exact Sq.l (s1 _ _ SV)
  ·intro i x σ H' tt hx iW R4
   nofun
   obtain⟨z2,z3,ms,rfl,s1,BZ,O7,xH⟩:=iW
   have hiv:i < mv.length:=(List.getElem?_eq_some_iff.mp hx).1
   have iL:i < eO.length:=by have:=hM.1;omega
   have hg:=g.mg _ (List.getElem_mem iL)
   have s2:=av.new (.tup [.int (i:Nat),x]) R4
   have YT:upd H' tt (.tup [.int (i:Nat),x]) tt=some (.tup [.int (i:Nat),x]):=af
   generalize Ku:upd H' tt (.tup [.int (i:Nat),x])=G2 at *
   ac_rfl
   have qp:=s1.trans s2
   have K6:=(hM.2 i x eO[i] hx (cA iL)).cv qp.cv
   have sT:=s2 _ _ BZ
   refine wb (bJ.of YT) ?_
   nofun
   obtain⟨ta,ln,lr,ld,xs,rfl,h1,h2,h3,h4,h5⟩:=id K6
   ac_rfl
   left
   rename_i T2 U2 Io VI
   have mk:U2 [some (V.ref t),some (V.ref lm),some (V.int ((i:Nat):Int)),some (V.ref ta)] G2:=by
    clear Io T2
    generalize hmd:eO[i]=md at *
    left
    refine⟨.inl ⟨rfl,_,aP.of sT⟩,?_⟩
    refine cJ h1 (ax (j:=0) rfl) ?_
    refine cJ h1 (ax (j:=1) rfl) ?_
    left
    refine bx _ (.inl (aP.of h2)) (λl1 wq=>?_)
    have s4:=av.new (.lst (md.ns.map V.int)) wq
    refine cJ (s4 _ _ h1) (ax (j:=2) rfl) ?_
    left
    refine bx _ (.inl (aP.of (s4 _ _ h3))) (λl2 yg=>?_)
    have VJ:=av.new (.lst (md.row.map V.int)) yg
    refine cJ (VJ _ _ (s4 _ _ h1)) (ax (j:=3) rfl) ?_
    left
    refine bx _ (.inl (aP.of (VJ _ _ (s4 _ _ h4)))) (λl3 Cr=>?_)
    have s6:=av.new (.lst xs) Cr
    have s46:=s4.trans (VJ.trans s6)
    have e1:=s6 _ _ (VJ _ _ (af (H:=G2) (a:=l1) (o:=.lst (md.ns.map V.int))))
    have e2:=s6 _ _ (af (H:=upd G2 l1 (.lst (md.ns.map V.int))) (a:=l2) (o:=.lst (md.row.map V.int)))
    have e3:upd (upd (upd G2 l1 (.lst (md.ns.map V.int))) l2 (.lst (md.row.map V.int))) l3 (.lst xs) l3=some (.lst xs):=af
    generalize IQ:upd (upd (upd G2 l1 (.lst (md.ns.map V.int))) l2 (.lst (md.row.map V.int))) l3 (.lst xs)=G6 at *
    intro m dx Kj Nu Td
    have s7:av G6 (upd (upd G6 dx (.own m)) m (.ins C dx [])):=λb o e=>by rw[ay (aq e Kj),ay (aq e Nu)];exact e
    have Te:=s46.trans s7
    refine⟨m,dx,md.M,l1,l2,l3,md.ns,md.row,xs,md.ds,2,rfl,af,hg.m2,hg.Xb,.inl (s7 _ _ e1),.inl (s7 _ _ e2),.inl (s7 _ _ e3),hg.l1,hg.l4,hg.U6,hg.bn,hg.br,(h5.aI Te.aQ).dl,by decide,hg.U7,hg.ok,λH8 AG hk=>⟨rfl,?_⟩⟩
    have Ze:av G2 H8:=λb o e=>hk b o (aq (s46 _ _ e) Kj) (Te _ _ e)
    have Oi:=Ze _ _ sT
    left
    refine gc _ Oi (aH (by simp;omega)) ?_
    have t7:bQ H8 (upd H8 lm (.lst (ms.map V.ref++[.ref m]))):=(bQ.refl _).upd λzs e=>by rw[Oi] at e;cases e
    have i7:∀b c d e,H8 b=some (.ins c d e)->upd H8 lm (.lst (ms.map V.ref++[.ref m])) b=some (.ins c d e):=λb c d e h=>by
     rw[ay (λz=>by subst z;rw[Oi] at h;cases h)];exact h
    left
    refine⟨_,_,ms++[m],⟨rfl,rfl⟩,λb o e=>?_,by rw[List.map_append];exact af,by simp[O7],λj m' d e1 e2=>?_⟩
    ·rw[ay (aq e Zd)];exact Ze _ _ (qp _ _ e)
    ·by_cases hj:j < ms.length
     ·rw[List.getElem?_append_left hj] at e1
      exact jY t7 i7 ((xH j m' d e1 e2).same (s2.trans Ze))
     ·rw[List.getElem?_append_right (by omega)] at e1
      cases B6:j - ms.length with
      | succ k=>rw[B6] at e1;simp at e1
      | zero=>
       rw[B6] at e1
       nofun
       obtain rfl:=Option.some.inj e1
       have OL:j=i:=by omega
       subst OL
       rw[cA iL,hmd] at e2
       obtain rfl:=Option.some.inj e2
       ac_rfl
       exact jY t7 i7 AG
   by_cases h0:0 < i
   ·rw[if_pos (by simpa using h0)]
    have Tf:0 < eO.length:=by omega
    have Tg:0 < mv.length:=by omega
    have y8:=(hM.2 0 mv[0] eO[0] (cA Tg) (cA Tf)).cv qp.cv
    have ht0:∃c,mv[0]=.ref c:=by
     nofun
     obtain⟨c,_,_,_,_,e,_⟩:=y8
     ac_rfl
     exact⟨c,e⟩
    obtain⟨c,ec⟩:=ht0
    rw[ec] at y8
    refine cJ (qp _ _ ht) (ax (j:=0) rfl) ?_
    refine bu (qp _ _ SV) (ax (j:=0) (v:=.ref c) (by rw[<-ec];exact cA Tg)) ?_
    obtain⟨b,XD,OV⟩:=JB (K:=K) K6 y8
    refine Xj ta c b rfl rfl XD ?_
    cases b with
    | false=>rw[if_neg (by decide)];exact mk
    | true=>
     have OV:=OV rfl
     rw[if_pos rfl]
     clear mk
     left
     refine⟨.inl ⟨rfl,_,aP.of sT⟩,?_⟩
     have RC:0 < ms.length:=by omega
     refine bu sT (ax (j:=0) (v:=.ref ms[0]) (by rw[List.getElem?_map,cA RC];rfl)) ?_
     left
     refine gc _ sT (aH (by simp;omega)) ?_
     have t7:bQ G2 (upd G2 lm (.lst (ms.map V.ref++[.ref ms[0]]))):=(bQ.refl _).upd λzs e=>by rw[sT] at e;cases e
     have i7:∀b c d e,G2 b=some (.ins c d e)->upd G2 lm (.lst (ms.map V.ref++[.ref ms[0]])) b=some (.ins c d e):=λb c d e h=>by
      rw[ay (λz=>by subst z;rw[sT] at h;cases h)];exact h
     left
     refine⟨_,_,ms++[ms[0]],⟨rfl,rfl⟩,λb o e=>?_,by rw[List.map_append];exact af,by simp[O7],λj m' d e1 e2=>?_⟩
     ·rw[ay (aq e Zd)];exact qp _ _ e
     ·by_cases hj:j < ms.length
      ·rw[List.getElem?_append_left hj] at e1
       exact jY t7 i7 ((xH j m' d e1 e2).same s2)
      ·rw[List.getElem?_append_right (by omega)] at e1
       cases B6:j - ms.length with
       | succ k=>rw[B6] at e1;simp at e1
       | zero=>
        rw[B6] at e1
        nofun
        obtain rfl:=Option.some.inj e1
        have OL:j=i:=by omega
        subst OL
        rw[cA iL] at e2
        obtain rfl:=Option.some.inj e2
        ac_rfl
        exact JC OV.symm (jY t7 i7 ((xH 0 ms[0] eO[0] (cA RC) (cA Tf)).same s2))
   ·rw[if_neg (by simpa using h0),if_neg (by decide)]
    exact mk
  ·intro σ H4 mf
   nofun
   obtain⟨z2,z3,ms,rfl,s5,bE,O7,xH⟩:=mf
   ac_rfl
   have lN:ms.length=eO.length:=by have:=hM.1;omega
   have yE:=s5 _ _ ht
   left
   refine cJ yE (ax (j:=1) rfl) ?_
   left
   refine bx _ (.inl (aP.of (s5 _ _ Jz))) (λl1 wq=>?_)
   have s6:=av.new (.lst wv) wq
   refine cJ (s6 _ _ yE) (ax (j:=2) rfl) ?_
   left
   refine bx _ (.inl (aP.of (s6 _ _ (s5 _ _ He)))) (λl2 yg=>?_)
   have s7:=av.new (.lst lv) yg
   have e1:=s7 _ _ (af (H:=H4) (a:=l1) (o:=.lst wv))
   have e2:upd (upd H4 l1 (.lst wv)) l2 (.lst lv) l2=some (.lst lv):=af
   have rZ:=s6.trans s7
   generalize O2:upd (upd H4 l1 (.lst wv)) l2 (.lst lv)=G7 at *
   have fQ:wv.length=ws.length:=by have:=hW.1;simpa using this
   have wG:lv.length=ls.length:=by have:=hL.1;simpa using this
   intro x dx hx Nu Td
   have s8:av G7 (upd (upd G7 dx (.own x)) x (.ins CN dx [])):=λb o e=>by rw[ay (aq e hx),ay (aq e Nu)];exact e
   have s58:=s5.trans (rZ.trans s8)
   have hgm:=g.m1
   have afg:=g.m5
   have hgw:=g.OG
   have yJ:=g.Od
   refine⟨x,dx,lm,l1,l2,ms,wv,lv,ws,ls,rfl,af,s8 _ _ (rZ _ _ bE),s8 _ _ e1,s8 _ _ e2,by omega,by omega,by omega,by omega,λm hm=>?_,hW.aI s58.aQ,hL.aI s58.aQ,λw hw=>by rw[lN];exact g.wo w hw,λl hl=>by rw[fQ];exact g.lo l hl,λH9 hn9 hk9=>⟨rfl,?_⟩⟩
   ·nofun
    obtain⟨j,hj,rfl⟩:=List.getElem_of_mem hm
    obtain⟨Cm,CT,J6,h1,_,_⟩:=(xH j _ eO[j] (cA hj) (cA (by omega))).same (rZ.trans s8)
    ac_rfl
    exact⟨_,_,h1⟩
   ·have Px:av H4 H9:=λb o e=>hk9 b o (aq (rZ _ _ e) hx) (s8 _ _ (rZ _ _ e))
    have Zf:=s5.trans Px
    exact q x ms wv lv H9 Zf ⟨⟨ms,wv,lv,hn9,lN,λj m d a b=>(xH j m d a b).same Px,hW.aI Zf.aQ⟩,g.nt⟩ hn9 (hL.aI Zf.aQ)
def nK (n:NT)(r:RS)(w k:Nat):List Int:=match (r.ww w).snd.getD k none with
 | none=>(r.mm (n.goal w)).hr.bg (List.replicate n.ms.length 0)
 | some (s,c)=>List.zipWith max ((r.mm (n.goal w)).hr.bg (List.replicate n.ms.length 0)) ((r.mm s.toNat).hr.getD (c - 1).toNat [])
theorem JD {n:NT}{w k:Nat}:n.gU r w k=(nK n r w k).set (n.goal w) (n.ev r w).2:=rfl
theorem JE {l:List Int}{m:Nat}{c:Int}{n:Nat}(hl:l.length=n)(hm:m < n):((List.range n).map λj=>V.int (l.getD j 0 + (if decide (((j:Nat):Int)=((m:Nat):Int))=true then 1 else 0))).set m (.int c)=(l.set m c).map V.int:=by
 apply List.ext_getElem (by simp[hl])
 intro j h1 h2
 have hj:j < n:=by simpa using h1
 simp only[List.getElem_map,List.getElem_set,List.getElem_range]
 by_cases z:m=j
 ·rw[if_pos z,if_pos z]
 ·rw[if_neg z,if_neg z,if_neg (by simp;omega),getD_at (cA (by omega)),Int.add_zero]
theorem Oj {l:List (Option (Int×Int))}{k:Nat}{bc:List (Key×V)}{v:V}(h:OR H0 (.d (kn l) (l.countP Option.isSome)) (.dK bc))(hk:l[k]?=some none)(hv:HD H0 4 v (pairD e)):OR H0 (.d (kn (l.set k (some e))) ((l.set k (some e)).countP Option.isSome)) (.dK (putK bc (Sum.inl ((k:Nat):Int)) v)):=by
 have Fh:k < l.length:=(List.getElem?_eq_some_iff.mp hk).1
 have OE:gI bc (Sum.inl ((k:Nat):Int))=none:=by
  have:=h.2 ((k:Nat):Int)
  have e1:kn l ((k:Nat):Int)=none:=by
   unfold kn
   rw[if_pos (by omega),Int.toNat_natCast,getD_at hk];rfl
  rw[e1] at this
  exact this
 refine⟨?_,λj=>?_⟩
 ·rw[Dr v OE,count_set hk,List.length_append,List.length_singleton]
  have:=h.1
  omega
 ·rw[FH Fh,Dq]
  by_cases z:j=((k:Nat):Int)
  ·rw[if_pos z,if_pos (by rw[z])]
   exact⟨v,rfl,hv⟩
  ·rw[if_neg z,if_neg (λq=>z (Sum.inl.inj q))]
   exact h.2 j
theorem JF {r:RS}{n:NT}{w k:Nat}:∀t i,i < n.n t->setC (setC (setC (setC (setC r.tv 3 (n.goal w) (.l (((r.mm (n.goal w)).hr.map λu=>DV.lst (u.map .int))++[.lst ((n.gU r w k).map .int)]))) 6 w (.d (kn ((r.ww w).jN.set k (some (n.ev r w)))) (((r.ww w).jN.set k (some (n.ev r w))).countP Option.isSome))) 1 (n.goal w) (.l ((r.mm (n.goal w)).gE.map pU++[pU ((n.work r w k).ns,(n.work r w k).row)]))) 2 (n.goal w) (.l (((r.mm (n.goal w)).wp.map λu=>DV.lst (u.map .int))++[.lst (((r.mm (n.goal w)).wp.bg []++(n.work r w k).words).map .int)]))) 0 0 (.l (r.picks.map pairD++[pairD ((w:Int),(k:Int))])) t i=(r.step n w k).tv t i:=by
 intro t i hi
 unfold setC
 match t,hi with
 | 0,hi=>
  have:i=0:=by have:i < 1:=hi;omega
  subst this
  simp[RS.tv,RS.step]
 | 1,_=>by_cases e:i=n.goal w <;> simp[RS.tv,RS.step,e]
 | 2,_=>by_cases e:i=n.goal w <;> simp[RS.tv,RS.step,e]
 | 3,_=>by_cases e:i=n.goal w <;> simp[RS.tv,RS.step,e]
 | 4,_=>by_cases e:i=w <;> simp[RS.tv,RS.step,e]
 | 5,_=>by_cases e:i=w <;> simp[RS.tv,RS.step,e]
 | 6,_=>by_cases e:i=w <;> simp[RS.tv,RS.step,e]
 | (t + 7),hi=>exact absurd hi (Nat.not_lt_zero i)
theorem FY {r:RS}{n:NT}{w:Nat}{x:Int}{s:Option (Int×Int)}:∀t i,i < n.n t->setC (setC r.tv 4 w (.l ((r.ww w).say.map .int++[.int x]))) 5 w (.l ((r.ww w).snd.map tN++[tN s])) t i=(r.put w x s).tv t i:=by
 intro t i hi
 unfold setC
 match t,hi with
 | 0,_=>simp[RS.tv,RS.put]
 | 1,_=>simp[RS.tv,RS.put]
 | 2,_=>simp[RS.tv,RS.put]
 | 3,_=>simp[RS.tv,RS.put]
 | 4,_=>by_cases e:i=w <;> simp[RS.tv,RS.put,e]
 | 5,_=>by_cases e:i=w <;> simp[RS.tv,RS.put,e]
 | 6,_=>by_cases e:i=w <;> simp[RS.tv,RS.put,e,B2]
 | (t + 7),hi=>exact absurd hi (Nat.not_lt_zero i)
theorem qw {H:Hp}{n:Nat}{v:V}{ns:List Int}(h:HD H n v (.lst (ns.map .int))):∃a,v=.ref a/\H a=some (.lst (ns.map V.int)):=by
 cases h with
 | @lst n a xs _ e l i=>exact⟨a,rfl,by rw[e,show xs=ns.map V.int from c9.jM ⟨l,i⟩]⟩
theorem FZ {x y:HO}(h:a≠b):upd (upd H a x) b y=upd (upd H b y) a x:=by
 funext c
 by_cases h1:c=a
 ·subst h1;rw[ay h,af,af]
 ·by_cases h2:c=b
  ·subst h2;rw[af,ay h1,af]
  ·rw[ay h2,ay h1,ay h1,ay h2]
abbrev mG:Stmt:=top 59
inductive y9 (vs:List V)(H:Hp)(Q:VK):Prop
 | mk (F:Addr->Prop) (d:Addr) (tn:V) (nt:NT) (r:RS) (ad:Nat->Nat->Addr) (wy k:Nat) (h0:vs=[.ref d,.int (wy:Nat),.int (k:Nat)]) (h1:cV F H d tn nt r ad) (h2:FS F H) (h3:r.Ok nt) (h4:r.R7 nt wy k) (h5:r.picks.length<=400) (h6:∀t H',Fr (FP nt.n ad) H H'->cV F H' d tn nt (r.pick nt wy k) ad->HT H' 1 t (pairD (nt.ev r wy))->Q t H'):y9 vs H Q
def AM:Sp:=λvs H Q _=>y9 vs H Q
theorem za (D:dH K mg "_law_pick" "_law_pick" mG ["_law_run","_law_way","_law_number"])(T:Tx K mg C CN CR F FD)(jZ:Def P w K mg base "_law_worked" 2 ["_law_machine_here","_law_state","_law_way","_law_said"] (Aw K)):Def P w K mg base "_law_pick" 3 ["_law_run","_law_way","_law_number"] AM:=by
 have sc:aD ["_law_run","_law_way","_law_number","_law_m","_law_place","_law_outs","_law_event","_law_state","_law_sent","_law_words","_law_row","_law_source","_law_c","_law_j","_law_said"] ["_law_run","_law_way","_law_number"] (az mG):=by walk_at "s"
 symm
 ·obtain⟨F,d,tn,nt,r,ad,wy,k,rfl,hT,oR,gF,hc,yM,q⟩:=h
  rfl
 ·nofun
  obtain⟨F,d,tn,nt,r,ad,wy,k,rfl,hT,oR,gF,hc,yM,q⟩:=h
  ac_rfl
  have hu:=hr.units
  have EJ:=Xe hu
  refine⟨_,(aj (ba (i:=3) sc.nd rfl (by grind) (ak hu (ak hu (ak hu (ak hu (au 0) aB) ag) (au 1)) ag))
   (aj (ba (i:=4) sc.nd rfl (by grind) (du lO PySem.F.slot_list_index PySem.F.type_list_index tO (cW (N':=["_law_k","_law_told","_law_m"]) (ix:=[none,none,some 3]) (jI rfl T.dQ (ai (ak hu (ak hu (au 0) aB) ag) aa)) (λ_ _ _ _=>(jK (K:=K) rfl (i:=0) (j:=1) rfl (show(["_law_k","_law_told","_law_m"]:List Str).Nodup by decide +kernel) rfl rfl (by grind) (by grind))) (λ_ _ _ _=>(jH (aA (nr (K:=K) rfl hu) (dC (K:=K) rfl hu (au 1) ag) (au 2) (aC _)))) (λ_ _ _ _=>(au 0))) (ai (au 1) aa)))
   (aj (fC (i:=5) sc.nd rfl (by grind) (N':=["_law_k","_law_told","_law_m"]) (ix:=[none,none,some 3]) (jI rfl T.dQ (ai (ak hu (ak hu (au 0) aB) ag) aa)) (λ_ _ _ _=>(jK (K:=K) rfl (i:=0) (j:=1) rfl (show(["_law_k","_law_told","_law_m"]:List Str).Nodup by decide +kernel) rfl rfl (by grind) (by grind))) (λ_ _ _ _=>(jH (aA (nr (K:=K) rfl hu) (dC (K:=K) rfl hu (au 1) ag) (au 2) (aC _)))) (λ_ _ _ _=>(au 0)))
   (aj (ba (i:=6) sc.nd rfl (by grind) (bC (ai (au 3) (ai (aT aM rfl T.cm PySem.boot_len (ai (ak hu (ak hu (au 0) aB) (au 3)) aa)) aa))))
   (aj (fA (aN jZ hr (ai (ak hu (ak hu (ak hu (au 0) aB) ag) (au 3)) (ai (ak hu (ak hu (ak hu (au 0) aB) (au 3)) (js fU ag)) (ai (au 4) (ai (ak hu (ak hu (ak hu (au 0) aB) (au 1)) (au 2)) aa))))) (wa (i:=7) (j:=8) (l:=9) rfl sc.nd rfl rfl rfl (by grind) (by grind) (by grind)))
   (aj (ba (i:=10) sc.nd rfl (by grind) (ak hu (aY da (bN (ai (aY qU (bN (ai ag aa)) (aT aM rfl T.cm PySem.boot_len (ai (ak hu (ak hu (au 0) aB) ag) aa))) aa)) (ak hu (ak hu (au 0) aB) (au 3))) (js fU ag)))
   (aj (aS (aA tK (ak hu (ak hu (ak hu (au 0) aB) (au 1)) (au 2)) j9 (aC _)) (aj (fA (ak hu (ak hu (ak hu (au 0) aB) (au 1)) (au 2)) (iU (i:=11) (j:=12) rfl sc.nd rfl rfl (by grind) (by grind)))
   (ao (CM (i:=10) sc.nd rfl (by grind) (cW (N':=["_law_one","_law_other"]) (ix:=[none,none]) (DZ rfl T.EA (ai (au 10) (ai (ak hu (ak hu (ak hu (au 0) aB) (au 11)) (aY eX (au 12) ag)) aa))) (λ_ _ _ _=>(jK (K:=K) rfl (i:=0) (j:=1) rfl (show(["_law_one","_law_other"]:List Str).Nodup by decide +kernel) rfl rfl (by grind) (by grind))) lC (λ_ _ _ _=>(aT (Br rfl) rfl T.Kn PyProof.Rows.boot_max (ai (au 0) (ai (au 1) aa))))) rfl))) aG)
   (aj (bY (du lO nQ nR bV (ak hu (ak hu (au 0) aB) (au 3)) (ai (cW (N':=["_law_k","_law_row","_law_m"]) (ix:=[none,some 10,some 3]) (cY rfl T.eF (ai (aT aM rfl T.cm PySem.boot_len (ai (au 10) aa)) aa)) (λ_ _ _ _=>(aU (i:=0) (show(["_law_k","_law_row","_law_m"]:List Str).Nodup by decide +kernel) rfl (by grind))) lC (λ_ _ _ _=>(aY da (dC (K:=K) rfl hu (au 1) (au 0)) (dB nZ rfl T.wc Uy (ai (gT (nr (K:=K) rfl hu) (au 0) (au 2) (aC _)) aa))))) aa)))
   (aj (fA (ak hu (au 6) ag) (iT (ak hu (ak hu (ak hu (au 0) aB) (au 3)) (js fU ag)) (au 3) eg))
   (aj (lu EJ (ak hu (ak hu (au 0) aB) (au 1)) (au 2) (au 6) rfl)
   (aj (bY (du lO nQ nR bV (ak hu (ak hu (au 0) aB) (au 3)) (ai (au 7) aa)))
   (aj (bY (du lO nQ nR bV (ak hu (ak hu (au 0) aB) (au 3)) (ai (aY da (ak hu (ak hu (ak hu (au 0) aB) (au 3)) (js fU ag)) (au 9)) aa)))
   (aj (bY (du lO nQ nR bV (ak hu (au 0) aB) (ai (bC (ai (au 1) (ai (au 2) aa))) aa)))
   (aj (eZ PassesOwn.never rfl (bU (pv 8)) (iU (i:=13) (j:=14) rfl sc.nd rfl rfl (by grind) (by grind))
   (ao (aS (aA gJ (au 13) (aT aM rfl T.cm PySem.boot_len (ai (au 5) aa)) (aC _)) (aj (bY (du lO nQ nR bV (ak hu (ak hu (au 0) aB) (ak hu (au 5) (au 13))) (ai (au 14) aa)))
   (ao (bY (du lO nQ nR bV (ak hu (ak hu (au 0) aB) (ak hu (au 5) (au 13))) (ai (au 6) aa))))) aG)))
   (ao (aE (au 6))))))))))))))))),?_⟩
  nofun
  obtain⟨o,hd,nF,nP,ho⟩:=hT.dk
  obtain⟨ls,tt,am,aw,al,mv,wv,lv,rfl,h1,h2,h3,h4,h5,h6,h7⟩:=hT.told
  have g1:=(cS h1 (λk z=>by cases z)).2
  have g2:=(cS h2 (λk z=>by cases z)).2
  have g3:=(cS h3 (λk z=>by cases z)).2
  replace h5:=h5.cv dW
  replace h6:=h6.aI dW.aQ
  have bf:=hT.ok
  have hw:=hc.lt
  have hm:=bf.jO hw
  have fQ:wv.length=nt.ws.length:=by simpa using h6.1
  have lN:mv.length=nt.ms.length:=h5.1
  have sG:wv.length<=10:=by rw[fQ];exact bf.BB
  have EO:nt.ms.length<=5:=bf.U9
  obtain⟨wk1,wk2,wk3,Yd⟩:=ql bf gF hw k
  ac_rfl
  have Fh:k < (r.ww wy).say.length:=by rw[gF.lk wy hw];exact(List.getElem?_eq_some_iff.mp hc.lies).1
  left
  refine bx _ (xh hd) ?_
  left
  refine cJ g1 (ax (j:=1) rfl) ?_
  have R8:nt.ws[wy]?=some (nt.w wy):=bz hw
  have afi:wy < wv.length:=by omega
  have yP:=h6.2 wy wv[wy] (ku (nt.w wy)) (by simp) (by rw[List.getElem?_map,R8];rfl)
  nofun
  obtain⟨ta,u1,u2,u3,kk,eta,ub,q1,q2,q3⟩:=b4 yP
  obtain rfl:=q1.bS
  obtain rfl:=q2.bS
  obtain rfl:=q3.bM
  ac_rfl
  refine bu g3 (ax (j:=wy) (v:=.ref ta) (by rw[<-eta];simp)) ?_
  refine cJ ub (show gB _ 1=some (.int ((nt.goal wy:Nat):Int)) from by rw[<-qr bf hw];exact ax (j:=1) rfl) ?_
  left
  refine bF ?_
  left
  refine bx _ (xh ((av.refl H) _ _ hd)) ?_
  left
  refine cJ ((av.refl H) _ _ g1) (ax (j:=1) rfl) ?_
  left
  refine BC true wv (Sq.l ((av.refl H) _ _ g3)) (λD1 BV=>?_)
  refine aZ (J:=Im true K aw) (n:=wv.length) (λi ys H'=>av H H'/\ys=((List.range i).filter λj=>decide (nC nt 1 j=((nt.goal wy:Nat):Int))).map λj=>V.int (j:Nat)) (Nat.le_of_lt (aH (by omega))) ⟨av.new _ BV,rfl⟩ ?_ ?_ ?_ ?_
  ·rintro i ys H' hi ⟨s1,_⟩
   exact⟨wv,wv[i],Sq.l (s1 _ _ ((av.refl H) _ _ g3)),cA hi⟩
  ·rintro ys H' ⟨s1,_⟩
   exact⟨wv,Sq.l (s1 _ _ ((av.refl H) _ _ g3)),rfl⟩
  ·intro i ys H' hi bE hl iV xx H4 iW
   nofun
   obtain⟨s1,rfl⟩:=iV
   obtain⟨t',xm,rfl,y⟩:=iW
   obtain⟨xw,ex,rfl⟩:=y wv (Sq.l (s1 _ _ ((av.refl H) _ _ g3)))
   have Co:i < nt.ws.length:=by omega
   have s2:=av.new (.tup [.int (i:Nat),xw]) xm
   have yP:=(h6.2 i xw (ku (nt.w i)) ex (by rw[List.getElem?_map,show nt.ws[i]?=some (nt.w i) from bz Co];rfl)).aI (((av.refl H).trans s1).trans s2).aQ
   have kr:upd H' t' (.tup [.int (i:Nat),xw]) t'=some (.tup [.int (i:Nat),xw]):=af
   have p5:=s2 _ _ bE
   have qp:=s1.trans s2
   generalize hG:upd H' t' (.tup [.int (i:Nat),xw])=G at *
   obtain⟨ta,u1,u2,u3,kk,rfl,ub,y1,y2,y3⟩:=b4 yP
   obtain rfl:=y1.bS
   obtain rfl:=y2.bS
   obtain rfl:=y3.bM
   ac_rfl
   refine wb (bJ.of kr) ⟨Ext.set (Ext.set (Ext.refl _) rfl) rfl,?_⟩
   left
   refine cJ ub (show gB _ 1=some (.int (nC nt 1 i)) from ax (j:=1) rfl) ?_
   left
   by_cases z:nC nt 1 i=((nt.goal wy:Nat):Int)
   ·rw[if_pos (by simp[z])]
    refine bP p5 hl hi (Nat.le_of_lt (aH (by omega))) ⟨λc o e=>by rw[ay (aq e BV)];exact qp _ _ e,?_⟩
    rw[dU,if_pos (by simp[z]),List.map_append];rfl
   ·rw[if_neg (by simp[z])]
    exact⟨_,p5,by omega,qp,by rw[dU,if_neg (by simp[z]),List.append_nil]⟩
  rintro ys H1 bE hl ⟨s1x,rfl⟩
  rw[fQ] at bE
  have H1e:H1 D1=some (.lst ((rA nt 1 (nt.goal wy)).map λi=>V.int ((i:Nat):Int))):=bE
  have JG:av H H1:=(av.refl H).trans s1x
  clear bE hl
  left
  refine⟨.inl ⟨rfl,_,aP.of H1e⟩,?_⟩
  obtain⟨Ye,Yf⟩:=rJ (Fo bf hw)
  refine⟨D1,_,nt.place wy,wy,rfl,rfl,by rw[H1e,uc],?_,?_,?_⟩
  ·rw[List.getElem?_map,<-nI bf hw,Ye];rfl
  ·intro i y hi hy
   rw[List.getElem?_map] at hy
   nofun
   obtain⟨z,hz,rfl⟩:=Option.map_eq_some_iff.mp hy
   ac_rfl
   have:=Yf i z (by rw[nI bf hw];exact hi) hz
   omega
  left
  refine bF ?_
  left
  refine bx _ (xh (JG _ _ hd)) ?_
  left
  refine cJ (JG _ _ g1) (ax (j:=1) rfl) ?_
  left
  refine BC true wv (Sq.l (JG _ _ g3)) (λD2 Ao=>?_)
  refine aZ (J:=Im true K aw) (n:=wv.length) (λi ys H'=>av H1 H'/\ys=((List.range i).filter λj=>decide (nC nt 0 j=((nt.goal wy:Nat):Int))).map λj=>V.int (j:Nat)) (Nat.le_of_lt (aH (by omega))) ⟨av.new _ Ao,rfl⟩ ?_ ?_ ?_ ?_
  ·rintro i ys H' hi ⟨s1,_⟩
   exact⟨wv,wv[i],Sq.l (s1 _ _ (JG _ _ g3)),cA hi⟩
  ·rintro ys H' ⟨s1,_⟩
   exact⟨wv,Sq.l (s1 _ _ (JG _ _ g3)),rfl⟩
  ·intro i ys H' hi bE hl mf xx H4 oB
   nofun
   obtain⟨s1,rfl⟩:=mf
   obtain⟨t',xm,rfl,y⟩:=oB
   obtain⟨xw,ex,rfl⟩:=y wv (Sq.l (s1 _ _ (JG _ _ g3)))
   have Co:i < nt.ws.length:=by omega
   have s2:=av.new (.tup [.int (i:Nat),xw]) xm
   have yP:=(h6.2 i xw (ku (nt.w i)) ex (by rw[List.getElem?_map,show nt.ws[i]?=some (nt.w i) from bz Co];rfl)).aI ((JG.trans s1).trans s2).aQ
   have kr:upd H' t' (.tup [.int (i:Nat),xw]) t'=some (.tup [.int (i:Nat),xw]):=af
   have p5:=s2 _ _ bE
   have qp:=s1.trans s2
   generalize hG:upd H' t' (.tup [.int (i:Nat),xw])=G at *
   obtain⟨ta,u1,u2,u3,kk,rfl,ub,y1,y2,y3⟩:=b4 yP
   obtain rfl:=y1.bS
   obtain rfl:=y2.bS
   obtain rfl:=y3.bM
   ac_rfl
   refine wb (bJ.of kr) ⟨Ext.set (Ext.set (Ext.refl _) rfl) rfl,?_⟩
   left
   refine cJ ub (show gB _ 0=some (.int (nC nt 0 i)) from ax (j:=0) rfl) ?_
   left
   by_cases z:nC nt 0 i=((nt.goal wy:Nat):Int)
   ·rw[if_pos (by simp[z])]
    refine bP p5 hl hi (Nat.le_of_lt (aH (by omega))) ⟨λc o e=>by rw[ay (aq e Ao)];exact qp _ _ e,?_⟩
    rw[dU,if_pos (by simp[z]),List.map_append];rfl
   ·rw[if_neg (by simp[z])]
    exact⟨_,p5,by omega,qp,by rw[dU,if_neg (by simp[z]),List.append_nil]⟩
  rintro ys H2 bE hl ⟨s2x,rfl⟩
  rw[fQ] at bE
  have H2e:H2 D2=some (.lst ((rA nt 0 (nt.goal wy)).map λi=>V.int ((i:Nat):Int))):=bE
  have VM:av H H2:=JG.trans s2x
  clear bE hl
  left
  refine bx _ (Jw (VM _ _ hd)) ?_
  have o1:=ho 1 (by decide) (by decide)
  have o2:=ho 2 (by decide) (by decide)
  have o3:=ho 3 (by decide) (by decide)
  have o4:=ho 4 (by decide) (by decide)
  have o5:=ho 5 (by decide) (by decide)
  have o6:=ho 6 (by decide) (by decide)
  have i0:0 < nt.n 0:=by show 0 < 1;decide
  obtain⟨v1,e1,d1⟩:=hT.cH.lst (t:=1) (i:=nt.goal wy) hm rfl
  have z1:v1.length=(r.mm (nt.goal wy)).gE.length:=by simpa using d1.1
  have RV:=gF.uU hm
  left
  refine bu (VM _ _ o1.1) (aW hm) ?_
  refine gc _ (.inl ⟨_,aP.of (VM _ _ e1),rfl⟩) cM (λev Vh=>?_)
  rw[z1]
  have yS:=av.new (.tup [.int ((nt.goal wy:Nat):Int),.int (((r.mm (nt.goal wy)).gE.length:Nat):Int)]) Vh
  have mX:=VM.trans yS
  have Zg:HT (upd H2 ev (.tup [.int ((nt.goal wy:Nat):Int),.int (((r.mm (nt.goal wy)).gE.length:Nat):Int)])) 1 (.ref ev) (pairD (nt.ev r wy)):=dw (n:=0) af (.int _) (.int _)
  have Zh:upd H2 ev (.tup [.int ((nt.goal wy:Nat):Int),.int (((r.mm (nt.goal wy)).gE.length:Nat):Int)]) ev=some (.tup [.int ((nt.goal wy:Nat):Int),.int (((r.mm (nt.goal wy)).gE.length:Nat):Int)]):=af
  generalize OZ:upd H2 ev (.tup [.int ((nt.goal wy:Nat):Int),.int (((r.mm (nt.goal wy)).gE.length:Nat):Int)])=H3 at *
  have H3o:=yS _ _ H2e
  left
  refine bx _ (xh (mX _ _ hd)) ?_
  left
  refine cJ (mX _ _ g1) (ax (j:=0) rfl) ?_
  have afn:nt.goal wy < mv.length:=by omega
  have Yg:nt.ms[nt.goal wy]?=some (nt.ms.getD (nt.goal wy) default):=bz hm
  nofun
  obtain⟨mt,ln,lr,ld,xsd,emt,t1,t2,t3,t4,t5⟩:=h5.2 (nt.goal wy) mv[nt.goal wy] _ (by simp) Yg
  ac_rfl
  have Fq:=bf.gd hm
  refine bu (mX _ _ g2) (ax (j:=nt.goal wy) (v:=.ref mt) (by rw[<-emt];simp)) ?_
  refine bx _ (Jw (mX _ _ hd)) ?_
  left
  refine bu (mX _ _ o1.1) (aW hm) ?_
  obtain⟨sv,esv,dsv⟩:=d1.get (i:=(r.mm (nt.goal wy)).gE.length - 1) (d:=pU ((r.mm (nt.goal wy)).gE.bg ([],[]))) (by rw[List.getElem?_map,jy (d:=([],[])) RV];rfl)
  have KC:=(Fi (dsv.cv dW)).aI mX.aQ
  refine bu (mX _ _ e1) (jX (by omega) (by rw[z1];exact esv)) ?_
  left
  refine bx _ (y0 (mX _ _ hd)) ?_
  nofun
  obtain⟨v4,e4,d4⟩:=hT.cH.lst (t:=4) (i:=wy) hw rfl
  have z4:=d4.jM
  subst z4
  ac_rfl
  left
  refine bu (mX _ _ o4.1) (aW hw) ?_
  refine bu (mX _ _ e4) (ax (j:=k) (v:=.int ((r.ww wy).say.getD k 0)) (by rw[List.getElem?_map,bz (d:=0) Fh];rfl)) ?_
  have rK:=gF.last hm
  refine⟨mt,ln,lr,ld,sv,_,_,_,xsd,_,_,_,rfl,mX _ _ t1,mX _ _ t4,t5.aI mX.aQ,vZ.of KC,Fq.m2,Fq.Xb,rK.bn,rK.lr,Fq.U7,by rw[rK.ln];exact Fq.ok,λrx H4 xJ NJ=>?_⟩
  have VN:=mX.trans xJ
  nofun
  obtain⟨rp,yT,O1,KI,zs,rfl,Yh,yU,NK,gj,yV,R9,fl2,Yj⟩:=NJ.ex
  replace yU:HT H4 2 yT (vo (nt.work r wy k).ns (nt.work r wy k).row):=yU
  replace gj:SL H4 zs (nt.work r wy k).cq:=gj
  replace yV:H4 KI=some (.lst ((nt.work r wy k).words.map V.int)):=yV
  ac_rfl
  have Th:=Zg.aI xJ.aQ
  have Zi:=xJ _ _ Zh
  have H4o:=xJ _ _ H3o
  refine un3 (bJ.of Yh) ?_
  left
  refine⟨by decide,λlz hlz=>?_⟩
  have Fs:=av.new (.lst [.int 0]) hlz
  have elz:upd H4 lz (.lst [.int 0]) lz=some (.lst [.int 0]):=af
  generalize NC:upd H4 lz (.lst [.int 0])=H5 at *
  have Cp:=VN.trans Fs
  refine bx _ (xh (Cp _ _ hd)) ?_
  left
  refine cJ (Cp _ _ g1) (ax (j:=0) rfl) ?_
  refine bx _ (.inl ⟨_,aP.of (Cp _ _ g2),rfl⟩) ?_
  refine Ep _ elz (by omega) (by omega) (λlq Ti=>?_)
  rw[Int.toNat_natCast,lN]
  have AH:=av.new (.lst (List.replicate nt.ms.length (V.int 0))) Ti
  have elq:upd H5 lq (.lst (List.replicate nt.ms.length (V.int 0))) lq=some (.lst ((List.replicate nt.ms.length 0).map V.int)):=by rw[af,List.map_replicate]
  generalize IQ:upd H5 lq (.lst (List.replicate nt.ms.length (V.int 0)))=H6 at *
  refine⟨by decide,λla hla=>?_⟩
  have rZ:=av.new (.lst [.ref lq]) hla
  have ela:upd H6 la (.lst [.ref lq]) la=some (.lst [.ref lq]):=af
  generalize O2:upd H6 la (.lst [.ref lq])=H7 at *
  have Te:=Fs.trans (AH.trans rZ)
  have Zj:=VN.trans Te
  refine bx _ (FG (Zj _ _ hd)) ?_
  obtain⟨v3,e3,d3⟩:=hT.cH.lst (t:=3) (i:=nt.goal wy) hm rfl
  have z3:v3.length=(r.mm (nt.goal wy)).hr.length:=by simpa using d3.1
  have hlh:=gF.lh _ hm
  have Vj:=gF.bp _ hm
  left
  refine bu (Zj _ _ o3.1) (aW hm) ?_
  refine .inl ⟨_,_,ela,Zj _ _ e3,Nat.le_of_lt (small (by simp;omega)),λlb hlb=>?_⟩
  have Hm:=av.new (.lst ([.ref lq]++v3)) hlb
  have elb:upd H7 lb (.lst ([.ref lq]++v3)) lb=some (.lst ([.ref lq]++v3)):=af
  generalize Vi:upd H7 lb (.lst ([.ref lq]++v3))=H8 at *
  have s48:=Te.trans Hm
  have Cy:=VN.trans s48
  have Tj:∃rl,gB ([V.ref lq]++v3) (-1)=some (.ref rl)/\H8 rl=some (.lst (((r.mm (nt.goal wy)).hr.bg (List.replicate nt.ms.length 0)).map V.int)):=by
   by_cases h1:1<=(r.mm (nt.goal wy)).hr.length
   ·nofun
    obtain⟨v,Yc,dv⟩:=d3.get (i:=(r.mm (nt.goal wy)).hr.length - 1) (d:=.lst (((r.mm (nt.goal wy)).hr.bg (List.replicate nt.ms.length 0)).map .int)) (by rw[List.getElem?_map,jy (d:=List.replicate nt.ms.length 0) h1];rfl)
    obtain⟨a,rfl,ea⟩:=qw (dv.cv dW)
    ac_rfl
    refine⟨a,jX (by simp) ?_,Cy _ _ ea⟩
    rw[List.length_append,List.length_singleton,List.getElem?_append_right (by simp;omega)]
    rw[show 1 + v3.length - 1 - [V.ref lq].length=(r.mm (nt.goal wy)).hr.length - 1 by simp;omega]
    exact Yc
   ·have ez:(r.mm (nt.goal wy)).hr=[]:=List.length_eq_zero_iff.mp (by omega)
    have ev3:v3=[]:=List.length_eq_zero_iff.mp (by omega)
    refine⟨lq,?_,?_⟩
    ·rw[ev3];exact jX (by simp) rfl
    ·rw[ez]
     show H8 lq=some (.lst (List.map V.int (List.getD ([]:List (List Int)) _ _)))
     exact Hm _ _ (rZ _ _ elq)
  obtain⟨rl,erl,mx⟩:=Tj
  refine bu elb erl ?_
  left
  refine bx _ (Jv (Cy _ _ hd)) ?_
  obtain⟨v5,e5,d5⟩:=hT.cH.lst (t:=5) (i:=wy) hw rfl
  have Nl:=gF.ls wy hw
  left
  refine bu (Cy _ _ o5.1) (aW hw) ?_
  obtain⟨v5k,ev5,VO⟩:=d5.get (i:=k) (d:=tN ((r.ww wy).snd.getD k none)) (by rw[List.getElem?_map,bz (d:=none) (by omega)];rfl)
  refine bu (Cy _ _ e5) (ax ev5) ?_
  left
  rename_i N2 Zk T2 U2 Io VI
  have Tn:(nK nt r wy k).length=nt.ms.length:=by
   have:=v9 bf gF hw (k:=k)
   rw[JD,List.length_set] at this
   exact this
  have rest:∀(VP:Addr) (Zl NQ:Option V) (H9:Hp),av H8 H9->H9 VP=some (.lst ((nK nt r wy k).map V.int))->N2 [some (V.ref d),some (V.int ((wy:Nat):Int)),some (V.int ((k:Nat):Int)),some (V.int ((nt.goal wy:Nat):Int)),some (V.int ((nt.place wy:Nat):Int)),some (V.ref D2),some (V.ref ev),some yT,some (V.ref O1),some (V.ref KI),some (V.ref VP),Zl,NQ,none,none] H9:=by
   clear Io VI T2 U2
   intro VP Zl NQ H9 To Tp
   have Px:=s48.trans To
   have K7:=VN.trans Px
   have b9:=hT.cH.same K7
   left
   refine bx _ (FG (K7 _ _ hd)) ?_
   left
   refine bu (K7 _ _ o3.1) (aW hm) ?_
   refine⟨.inl ⟨rfl,_,aP.of (K7 _ _ e3)⟩,?_⟩
   refine bF ?_
   left
   refine bx _ (.inl ⟨_,aP.of Tp,rfl⟩) ?_
   left
   rw[List.length_map,Tn]
   refine gK (by omega) (by omega) (λhl Tq=>?_)
   rw[Int.toNat_natCast]
   refine aZ (J:=xP 0 nt.ms.length) (n:=nt.ms.length) (λi ys H'=>av H9 H'/\ys=(List.range i).map λj=>V.int ((nK nt r wy k).getD j 0 + (if decide (((j:Nat):Int)=((nt.goal wy:Nat):Int))=true then 1 else 0))) (Nat.le_of_lt (aH (by omega))) ⟨av.new _ Tq,rfl⟩ (λi ys H' hi _=>hi) (λys H' _=>Nat.le_refl _) ?_ ?_
   ·intro i ys H' hi bE gV pW x H2' uW
    nofun
    obtain⟨s1,rfl⟩:=pW
    obtain⟨rfl,rfl⟩:=uW
    ac_rfl
    walk_at "xf"
    left
    try rw[if_pos trivial]
    refine bu (s1 _ _ Tp) (show gB _ (0 + (i:Int))=some (.int ((nK nt r wy k).getD i 0)) from by rw[Int.zero_add];exact ax (by rw[List.getElem?_map,bz (d:=0) (by omega)];rfl)) ?_
    refine .inr ?_
    try rw[Int.zero_add]
    refine bP bE gV hi (Nat.le_of_lt (aH (by omega))) ⟨λc o e=>by rw[ay (aq e Tq)];exact s1 _ _ e,?_⟩
    rw[List.range_succ,List.map_append];rfl
   rintro ys wH bE gV ⟨xk,rfl⟩
   clear gV
   have Ca:=K7.trans xk
   left
   refine gc v3 (Ca _ _ e3) (small (by omega)) ?_
   left
   have nA:ad 3 (nt.goal wy)≠hl:=λz=>by have:=K7 _ _ e3;rw[z,Tq] at this;cases this
   have kA:∀b o,b≠ad 3 (nt.goal wy)->wH b=some o->upd wH (ad 3 (nt.goal wy)) (.lst (v3++[.ref hl])) b=some o:=λb o n e=>by rw[ay n];exact e
   have F3:∀{b:Addr} {o:HO},wH b=some o->¬FP nt.n ad b->b≠ad 3 (nt.goal wy):=λ{b o} _ h z=>h ⟨3,nt.goal wy,hm,z⟩
   have K8:=xk _ _ (Px _ _ Zi)
   have nev:ev≠ad 3 (nt.goal wy):=λz=>by have:=Ca _ _ e3;rw[<-z,K8] at this;cases this
   refine cJ (kA _ _ nev K8) (ax (j:=1) rfl) ?_
   refine bx _ (FG (kA _ _ (F3 (Ca _ _ hd) nP) (Ca _ _ hd))) ?_
   left
   refine bu (kA _ _ (F3 (Ca _ _ o3.1) o3.2.2) (Ca _ _ o3.1)) (aW hm) ?_
   refine bu af jv ?_
   left
   refine⟨_,nt.goal wy,kA _ _ (Ne.symm nA) bE,AD (by simp;omega),?_⟩
   rw[JE Tn hm,show(nK nt r wy k).set (nt.goal wy) (((r.mm (nt.goal wy)).gE.length:Nat):Int)=nt.gU r wy k from rfl,FZ nA]
   have sK:av H9 (upd wH hl (.lst ((nt.gU r wy k).map V.int))):=λb o e=>by rw[ay (aq e Tq)];exact xk _ _ e
   have eK:upd wH hl (.lst ((nt.gU r wy k).map V.int)) hl=some (.lst ((nt.gU r wy k).map V.int)):=af
   generalize hGK:upd wH hl (.lst ((nt.gU r wy k).map V.int))=Tr at *
   have VQ:=K7.trans sK
   have bK:=hT.cH.same VQ
   have FSK:FS F Tr:=oR.fr (Z:=λ_=>False) VQ.fr (λ_ _ h=>h)
   have fresh:∀{b:Addr},H9 b=none->¬(F b\/FP nt.n ad b):=λ{b} hb z=>by
    rcases z with z | z
    ·obtain⟨o,e,_⟩:=oR b z
     rw[K7 _ _ e] at hb;cases hb
    ·obtain⟨o,e,_⟩:=b9.fp z
     rw[e] at hb;cases hb
   have Zm:=VQ _ _ e3
   have KJ:=bK.app (t:=3) (i:=nt.goal wy) hm rfl Zm (c9.one (show HD _ 4 (.ref hl) (.lst ((nt.gU r wy k).map .int)) from .lst (by rw[fZ (fresh Tq)];exact eK) (by simp) (λi u e hu he=>(c9.ints (H:=iL (λb=>F b\/FP nt.n ad b) Tr) (n:=3) (nt.gU r wy k)).2 i u e hu he)))
   have AI:Fr (FP nt.n ad) H (upd Tr (ad 3 (nt.goal wy)) (.lst (v3++[.ref hl]))):=VQ.fr.upd ⟨3,nt.goal wy,hm,rfl⟩ Zm trivial
   have Ts:Fr (FP nt.n ad) H4 (upd Tr (ad 3 (nt.goal wy)) (.lst (v3++[.ref hl]))):=(Px.trans sK).fr.upd ⟨3,nt.goal wy,hm,rfl⟩ Zm trivial
   generalize Sf:upd Tr (ad 3 (nt.goal wy)) (.lst (v3++[.ref hl]))=BY at *
   have Zn:FS F BY:=oR.fr AI hT.cH.rD
   clear kA F3
   left
   refine bx _ (SU (AI.at hd nP)) ?_
   obtain⟨VB,e6,d6⟩:=KJ.dct (t:=6) (i:=wy) hw rfl
   have hlk:=gF.lk wy hw
   have Yy:=gF.bs wy hw
   left
   refine bu (AI.at o6.1 o6.2.2) (aW hw) ?_
   have QO:((r.ww wy).jN.countP Option.isSome)<=(r.ww wy).jN.length:=List.countP_le_length
   have h6l:=d6.1
   refine⟨ad 6 wy,_,rfl,si.k (k:=Sum.inl ((k:Nat):Int)) e6 (small (by omega)),?_⟩
   have NM:=KJ.upd (t:=6) (i:=wy) hw (Oj d6 hc.lies ((KJ.ht Zn (Th.aI Ts.aQ)).mono (by decide)))
   have Hi:Fr (FP nt.n ad) H (upd BY (ad 6 wy) (.dK (putK VB (Sum.inl ((k:Nat):Int)) (.ref ev)))):=AI.upd ⟨6,wy,hw,rfl⟩ e6 trivial
   have Tt:Fr (FP nt.n ad) H4 (upd BY (ad 6 wy) (.dK (putK VB (Sum.inl ((k:Nat):Int)) (.ref ev)))):=Ts.upd ⟨6,wy,hw,rfl⟩ e6 trivial
   generalize Sh:upd BY (ad 6 wy) (.dK (putK VB (Sum.inl ((k:Nat):Int)) (.ref ev)))=Fu at *
   have Zo:FS F Fu:=oR.fr Hi hT.cH.rD
   left
   refine bx _ (Jw (Hi.at hd nP)) ?_
   obtain⟨Tu,Tv,d1'⟩:=NM.lst (t:=1) (i:=nt.goal wy) hm rfl
   have z1':Tu.length=(r.mm (nt.goal wy)).gE.length:=by simpa using d1'.1
   left
   refine bu (Hi.at o1.1 o1.2.2) (aW hm) ?_
   refine⟨.inl ⟨rfl,_,aP.of Tv⟩,?_⟩
   left
   refine gc Tu Tv (small (by omega)) ?_
   have VR:=NM.app (t:=1) (i:=nt.goal wy) hm rfl Tv (c9.one (show HD _ 4 yT (pU ((nt.work r wy k).ns,(nt.work r wy k).row)) from(NM.ht Zo (yU.aI Tt.aQ)).mono (by decide)))
   have Jp:Fr (FP nt.n ad) H (upd Fu (ad 1 (nt.goal wy)) (.lst (Tu++[yT]))):=Hi.upd ⟨1,nt.goal wy,hm,rfl⟩ Tv trivial
   have Tw:Fr (FP nt.n ad) H4 (upd Fu (ad 1 (nt.goal wy)) (.lst (Tu++[yT]))):=Tt.upd ⟨1,nt.goal wy,hm,rfl⟩ Tv trivial
   generalize afE:upd Fu (ad 1 (nt.goal wy)) (.lst (Tu++[yT]))=Sl at *
   have Zp:FS F Sl:=oR.fr Jp hT.cH.rD
   left
   refine bx _ (Jx (Jp.at hd nP)) ?_
   obtain⟨v2,e2,d2⟩:=VR.lst (t:=2) (i:=nt.goal wy) hm rfl
   have z2:v2.length=(r.mm (nt.goal wy)).wp.length:=by simpa using d2.1
   have hlw:=gF.lw _ hm
   left
   refine bu (Jp.at o2.1 o2.2.2) (aW hm) ?_
   refine⟨.inl ⟨rfl,_,aP.of e2⟩,?_⟩
   refine bx _ (Jx (Jp.at hd nP)) ?_
   left
   refine bu (Jp.at o2.1 o2.2.2) (aW hm) ?_
   nofun
   obtain⟨vw,evw,dvw⟩:=d2.get (i:=(r.mm (nt.goal wy)).wp.length - 1) (d:=.lst (((r.mm (nt.goal wy)).wp.bg []).map .int)) (by rw[List.getElem?_map,jy (d:=[]) (by omega)];rfl)
   obtain⟨lw,rfl,elw⟩:=qw (dvw.cv dW)
   ac_rfl
   refine bu e2 (jX (by omega) (by rw[z2];exact evw)) ?_
   have Ft:¬FP nt.n ad O1:=λz=>by
    obtain⟨u,e,_⟩:=(hT.cH.same mX).fp z
    rw[R9] at e;cases e
   have NL:¬FP nt.n ad KI:=λz=>by
    obtain⟨u,e,_⟩:=(hT.cH.same mX).fp z
    rw[fl2] at e;cases e
   have hbw:=gF.bw _ hm _ (gb (l:=(r.mm (nt.goal wy)).wp) (d:=[]) (by omega))
   refine .inl ⟨_,_,elw,Tw.at yV NL,Nat.le_of_lt (small (by simp;omega)),λnw Zq=>?_⟩
   have rO:=av.new (.lst (((r.mm (nt.goal wy)).wp.bg []).map V.int++(nt.work r wy k).words.map V.int)) Zq
   have enw:upd Sl nw (.lst (((r.mm (nt.goal wy)).wp.bg []).map V.int++(nt.work r wy k).words.map V.int)) nw=some (.lst (((r.mm (nt.goal wy)).wp.bg []++(nt.work r wy k).words).map V.int)):=by rw[af,List.map_append]
   generalize afJ:upd Sl nw (.lst (((r.mm (nt.goal wy)).wp.bg []).map V.int++(nt.work r wy k).words.map V.int))=Tz at *
   have f14:=Jp.trans rO.fr
   have Zr:=Tw.trans rO.fr
   have b14:=VR.same rO
   have afK:FS F Tz:=oR.fr f14 hT.cH.rD
   have nnw:¬(F nw\/FP nt.n ad nw):=λz=>by
    rcases z with z | z
    ·obtain⟨o,e,_⟩:=Zp nw z
     rw[Zq] at e;cases e
    ·obtain⟨o,e,_⟩:=VR.fp z
     rw[Zq] at e;cases e
   left
   refine gc v2 (rO _ _ e2) (small (by omega)) ?_
   have Zs:=b14.app (t:=2) (i:=nt.goal wy) hm rfl (rO _ _ e2) (c9.one (show HD _ 4 (.ref nw) (.lst (((r.mm (nt.goal wy)).wp.bg []++(nt.work r wy k).words).map .int)) from .lst (by rw[fZ nnw];exact enw) (by simp) (λi u e hu he=>(c9.ints (H:=iL (λb=>F b\/FP nt.n ad b) Tz) (n:=3) ((r.mm (nt.goal wy)).wp.bg []++(nt.work r wy k).words)).2 i u e hu he)))
   have Zt:Fr (FP nt.n ad) H (upd Tz (ad 2 (nt.goal wy)) (.lst (v2++[.ref nw]))):=f14.upd ⟨2,nt.goal wy,hm,rfl⟩ (rO _ _ e2) trivial
   have Zu:Fr (FP nt.n ad) H4 (upd Tz (ad 2 (nt.goal wy)) (.lst (v2++[.ref nw]))):=Zr.upd ⟨2,nt.goal wy,hm,rfl⟩ (rO _ _ e2) trivial
   generalize afM:upd Tz (ad 2 (nt.goal wy)) (.lst (v2++[.ref nw]))=VH at *
   have afN:FS F VH:=oR.fr Zt hT.cH.rD
   left
   refine bx _ (Ob (Zt.at hd nP)) ?_
   obtain⟨v0,e0,d0⟩:=Zs.lst (t:=0) (i:=0) i0 rfl
   have z0:v0.length=r.picks.length:=by simpa using d0.1
   left
   refine gK (.inl ⟨rfl,_,aP.of e0⟩) cM (λtp Cq=>?_)
   have AN:=av.new (.tup [.int ((wy:Nat):Int),.int ((k:Nat):Int)]) Cq
   have TB:HT (upd VH tp (.tup [.int ((wy:Nat):Int),.int ((k:Nat):Int)])) 1 (.ref tp) (pairD ((wy:Int),(k:Int))):=dw (n:=0) af (.int _) (.int _)
   generalize afO:upd VH tp (.tup [.int ((wy:Nat):Int),.int ((k:Nat):Int)])=K5 at *
   have f16:=Zt.trans AN.fr
   have Zv:=Zu.trans AN.fr
   have Zw:=Zs.same AN
   have Zx:FS F K5:=oR.fr f16 hT.cH.rD
   have JH:=AN _ _ e0
   left
   refine gc v0 JH (small (by omega)) ?_
   have b17:=Zw.app (t:=0) (i:=0) i0 rfl JH (c9.one ((Zw.ht Zx TB).mono (by decide)))
   have Zy:Fr (FP nt.n ad) H (upd K5 (ad 0 0) (.lst (v0++[.ref tp]))):=f16.upd ⟨0,0,i0,rfl⟩ JH trivial
   have JI:Fr (FP nt.n ad) H4 (upd K5 (ad 0 0) (.lst (v0++[.ref tp]))):=Zv.upd ⟨0,0,i0,rfl⟩ JH trivial
   generalize afP:upd K5 (ad 0 0) (.lst (v0++[.ref tp]))=Zz at *
   have ZC:cV F Zz d (.ref tt) nt (r.step nt wy k) ad:=hT.own Zy (b17.congr JF)
   have K9:SL Zz zs (nt.work r wy k).cq:=gj.aI JI.aQ
   have TC:=JI.at NK Ft
   have La:=Th.aI JI.aQ
   have ZD:¬FP nt.n ad D2:=λz=>by
    obtain⟨u,e,_⟩:=(hT.cH.same JG).fp z
    rw[Ao] at e;cases e
   have ZE:=JI.at H4o ZD
   clear b9 bK KJ NM VR b14 Zs Zw b17 d0 d1' d2 d6
   left
   have Yu:zs.length=(nt.work r wy k).cq.length:=K9.1
   have NO:=gF.step bf hw (k:=k)
   have NP:∀a c,some (nt.ev r wy)=some (a,c)->0<=a/\a < nt.ms.length/\1<=c/\c<=((r.step nt wy k).mm a.toNat).hr.length:=AE bf gF hw
   refine⟨_,rfl,.inl ⟨⟨_,aP.of TC⟩,jq (K:=K) (xs:=zs) (λi σ H'=>(∃NR ZF,σ=[some (V.ref d),some (V.int ((wy:Nat):Int)),some (V.int ((k:Nat):Int)),some (V.int ((nt.goal wy:Nat):Int)),some (V.int ((nt.place wy:Nat):Int)),some (V.ref D2),some (V.ref ev),some yT,some (V.ref O1),some (V.ref KI),some (V.ref VP),Zl,NQ,NR,ZF])/\Fr (FP nt.n ad) Zz H'/\cV F H' d (.ref tt) nt ((r.step nt wy k).send (nt.outs (nt.goal wy)) (nt.ev r wy) ((nt.work r wy k).cq.take i)) ad) ?_ ?_ ?_ ?_⟩⟩
   ·exact⟨⟨_,_,rfl⟩,Fr.refl,ZC⟩
   ·rintro i σ H' hi ⟨_,fi,_⟩
    exact aP.of (fi.at TC Ft)
   ·intro i z σ H' hz ET
    nofun
    obtain⟨⟨NR,ZF,rfl⟩,fi,AO⟩:=ET
    have sI:i < zs.length:=(List.getElem?_eq_some_iff.mp hz).1
    have NS:i < (nt.work r wy k).cq.length:=by omega
    have Cu:(nt.work r wy k).cq[i]?=some (nt.work r wy k).cq[i]:=cA NS
    have Yv:=Yd _ (List.getElem_mem NS)
    have Fv:=(K9.2 i z _ hz Cu).aI fi.aQ
    have Jq:(r.step nt wy k).send (nt.outs (nt.goal wy)) (nt.ev r wy) ((nt.work r wy k).cq.take (i + 1))=((r.step nt wy k).send (nt.outs (nt.goal wy)) (nt.ev r wy) ((nt.work r wy k).cq.take i)).send (nt.outs (nt.goal wy)) (nt.ev r wy) [(nt.work r wy k).cq[i]]:=by
     rw[List.take_succ,Cu]
     exact oT _
    have yW:=(RS.rW.send (outs:=nt.outs (nt.goal wy)) (ev:=nt.ev r wy) ((nt.work r wy k).cq.take i) NO NP).mono (show _<=19998 by simp;omega)
    generalize (nt.work r wy k).cq[i]=p at *
    obtain⟨pj,px⟩:=p
    obtain⟨tz,u1,u2,kz,rfl,zR,y1,y2⟩:=cy Fv
    obtain rfl:=y1.bS
    obtain rfl:=y2.bS
    ac_rfl
    refine wb (bJ.of zR) ?_
    have ZG:=fi.at ZE ZD
    left
    refine bx _ (.inl ⟨_,aP.of ZG,rfl⟩) ?_
    left
    have hlen:((rA nt 0 (nt.goal wy)).map λi=>V.int ((i:Nat):Int)).length=(nt.outs (nt.goal wy)).length:=by rw[List.length_map];rfl
    rw[hlen]
    have ej:((pj.toNat:Nat):Int)=pj:=Int.toNat_of_nonneg Yv
    by_cases kf:pj < ((nt.outs (nt.goal wy)).length:Nat)
    ·rw[if_pos (by simpa using kf)]
     have Kl:pj.toNat < (nt.outs (nt.goal wy)).length:=by omega
     have qt:(nt.outs (nt.goal wy)).getD pj.toNat 0 < nt.ws.length:=by
      have:=getD_mem (d:=0) Kl
      unfold NT.outs at this ⊢
      rw[List.mem_filter,List.mem_range] at this
      exact this.1
     have wN:gB ((rA nt 0 (nt.goal wy)).map λi=>V.int ((i:Nat):Int)) pj=some (.int (((nt.outs (nt.goal wy)).getD pj.toNat 0:Nat):Int)):=by
      rw[<-ej]
      refine ax ?_
      rw[List.getElem?_map]
      show Option.map _ (nt.outs (nt.goal wy))[_]?=_
      rw[Int.toNat_natCast,bz (d:=0) Kl];rfl
     nofun
     obtain⟨ow,how⟩:∃ow,ow=(nt.outs (nt.goal wy)).getD pj.toNat 0:=⟨_,rfl⟩
     rw[<-how] at qt wN
     generalize hri:(r.step nt wy k).send (nt.outs (nt.goal wy)) (nt.ev r wy) ((nt.work r wy k).cq.take i)=ri at *
     obtain⟨oi,TF,nFi,ZH,TH⟩:=AO.dk
     have ZI:=TH 4 (by decide) (by decide)
     have TJ:=TH 5 (by decide) (by decide)
     have bi:=AO.cH
     obtain⟨w4,x4,y4⟩:=bi.lst (t:=4) (i:=ow) qt rfl
     ac_rfl
     have l4:w4.length=(ri.ww ow).say.length:=by simpa using y4.1
     have hb4:=yW.bs ow qt
     have hb5:=yW.ls ow qt
     left
     refine bx _ (y0 TF) ?_
     left
     refine bu ZG wN ?_
     refine bu ZI.1 (aW qt) ?_
     refine⟨.inl ⟨rfl,_,aP.of x4⟩,?_⟩
     left
     refine gc w4 x4 (small (by omega)) ?_
     have bj:=bi.app (t:=4) (i:=ow) qt rfl x4 (c9.one (.int px))
     have fj:Fr (FP nt.n ad) H' (upd H' (ad 4 ow) (.lst (w4++[.int px]))):=Fr.refl.upd ⟨4,ow,qt,rfl⟩ x4 trivial
     generalize hGj:upd H' (ad 4 ow) (.lst (w4++[.int px]))=Hj at *
     obtain⟨w5,x5,y5⟩:=bj.lst (t:=5) (i:=ow) qt rfl
     have l5:w5.length=(ri.ww ow).snd.length:=by simpa using y5.1
     left
     refine bx _ (Jv (fj.at TF ZH)) ?_
     left
     refine bu (fj.at ZG ZD) wN ?_
     refine bu (fj.at TJ.1 TJ.2.2) (aW qt) ?_
     refine⟨.inl ⟨rfl,_,aP.of x5⟩,?_⟩
     left
     refine gc w5 x5 (small (by omega)) ?_
     have FSj:FS F Hj:=oR.fr ((Zy.trans fi).trans fj) hT.cH.rD
     have bk:=bj.app (t:=5) (i:=ow) qt rfl x5 (c9.one (show HD _ 4 (.ref ev) (tN (some (nt.ev r wy))) from(bj.ht FSj ((La.aI fi.aQ).aI fj.aQ)).mono (by decide)))
     have fk:Fr (FP nt.n ad) H' (upd Hj (ad 5 ow) (.lst (w5++[.ref ev]))):=fj.upd ⟨5,ow,qt,rfl⟩ x5 trivial
     left
     refine gK ⟨_,_,rfl,rfl⟩ (fi.trans fk) ?_
     rw[Jq]
     show cV F _ d _ nt (if pj.toNat < _ then _ else _) ad
     rw[if_pos Kl]
     show cV F _ d _ nt (ri.put ((nt.outs (nt.goal wy)).getD pj.toNat 0) px (some (nt.ev r wy))) ad
     rw[<-how]
     exact AO.own fk (bk.congr FY)
    ·rw[if_neg (by simpa using kf)]
     left
     refine gK ⟨_,_,rfl,rfl⟩ fi ?_
     rw[Jq]
     show cV F H' d _ nt (if pj.toNat < _ then _ else _) ad
     rw[if_neg (by omega)]
     exact AO
   ·intro σ H' Jf
    nofun
    obtain⟨⟨NR,ZF,rfl⟩,fi,AO⟩:=Jf
    ac_rfl
    left
    rw[Yu,List.take_length] at AO
    exact q _ _ (Zy.trans fi) AO (La.aI fi.aQ)
  clear Zk
  cases Jk:(r.ww wy).snd.getD k none with
  | none=>
   rw[Jk] at VO
   have:=yQ VO
   subst this
   left
   try rw[if_neg (by decide)]
   left
   refine rest rl _ _ H8 (av.refl _) ?_
   unfold nK
   rw[Jk]
   exact mx
  | some sc=>
   nofun
   obtain⟨s0,c0⟩:=sc
   rw[Jk] at VO
   obtain⟨ae,rfl,QX⟩:=nH (VO.cv dW)
   have ZJ:=Cy _ _ QX
   have vO:some (s0,c0) ∈ (r.ww wy).snd:=by rw[<-Jk];exact getD_mem (by omega)
   obtain⟨q1,q2,q3,q4⟩:=gF.sd wy hw s0 c0 vO
   ac_rfl
   left
   try rw[if_pos (by decide)]
   left
   refine bx _ (Jv (Cy _ _ hd)) ?_
   left
   refine bu (Cy _ _ o5.1) (aW hw) ?_
   refine bu (Cy _ _ e5) (ax ev5) ?_
   refine wb (bJ.of ZJ) ?_
   left
   refine bF ?_
   left
   refine bx _ (FG (Cy _ _ hd)) ?_
   have ZK:s0.toNat < nt.ms.length:=by omega
   have es0:((s0.toNat:Nat):Int)=s0:=Int.toNat_of_nonneg q1
   have ec0:(((c0 - 1).toNat:Nat):Int)=c0 - 1:=Int.toNat_of_nonneg (by omega)
   left
   refine bu (Cy _ _ o3.1) (show gB _ s0=some (.ref (ad 3 s0.toNat)) from by have:=aW (n:=nt.n) (ad:=ad) (t:=3) ZK;rw[es0] at this;exact this) ?_
   nofun
   obtain⟨vs3,es3,ds3⟩:=hT.cH.lst (t:=3) (i:=s0.toNat) ZK rfl
   obtain⟨vr,evr,dvr⟩:=ds3.get (i:=(c0 - 1).toNat) (d:=.lst (((r.mm s0.toNat).hr.getD (c0 - 1).toNat []).map .int)) (by rw[List.getElem?_map,bz (d:=[]) (by omega)];rfl)
   obtain⟨lo,rfl,Ys⟩:=qw (dvr.cv dW)
   ac_rfl
   refine bu (Cy _ _ es3) (show gB _ (c0 - 1)=some (.ref lo) from by rw[<-ec0];exact ax evr) ?_
   have JJ:=Cy _ _ Ys
   left
   refine fK true true _ _ (Sq.l mx) (Sq.l JJ) (λD3 BR=>?_)
   have ab2:((r.mm (nt.goal wy)).hr.bg (List.replicate nt.ms.length 0)).length=nt.ms.length:=by
    by_cases h1:1<=(r.mm (nt.goal wy)).hr.length
    ·exact gF.hl _ hm _ (gb h1)
    ·have ez:(r.mm (nt.goal wy)).hr=[]:=List.length_eq_zero_iff.mp (by omega)
     rw[ez];simp[List.bg]
   have ab3:((r.mm s0.toNat).hr.getD (c0 - 1).toNat []).length=nt.ms.length:=gF.hl _ ZK _ (getD_mem (by omega))
   have ehr:nK nt r wy k=List.zipWith max ((r.mm (nt.goal wy)).hr.bg (List.replicate nt.ms.length 0)) ((r.mm s0.toNat).hr.getD (c0 - 1).toNat []):=by
    unfold nK
    rw[Jk]
   generalize hA:(r.mm (nt.goal wy)).hr.bg (List.replicate nt.ms.length 0)=LA at *
   generalize hB:(r.mm s0.toNat).hr.getD (c0 - 1).toNat []=LB at *
   refine aZ (J:=UZ true true K rl lo) (n:=nt.ms.length) (λi ys H'=>av H8 H'/\ys=((List.zipWith max LA LB).take i).map V.int) (Nat.le_of_lt (aH (by omega))) ⟨av.new _ BR,rfl⟩ ?_ ?_ ?_ ?_
   ·rintro i ys H' hi ⟨s1,_⟩
    exact⟨_,_,_,_,Sq.l (s1 _ _ mx),Sq.l (s1 _ _ JJ),by rw[List.getElem?_map,bz (d:=0) (by omega)];rfl,by rw[List.getElem?_map,bz (d:=0) (by omega)];rfl⟩
   ·rintro ys H' ⟨s1,_⟩
    exact⟨_,_,Sq.l (s1 _ _ mx),Sq.l (s1 _ _ JJ),.inl (by simp;omega)⟩
   ·intro i ys H' hi bE hl Jh xx H4' TK
    nofun
    obtain⟨s1,rfl⟩:=Jh
    obtain⟨t',xm,rfl,y⟩:=TK
    obtain⟨x1,x2,ex1,ex2,rfl⟩:=y _ _ (Sq.l (s1 _ _ mx)) (Sq.l (s1 _ _ JJ))
    rw[List.getElem?_map,bz (d:=0) (by omega)] at ex1 ex2
    obtain rfl:=Option.some.inj ex1
    obtain rfl:=Option.some.inj ex2
    ac_rfl
    have s2:=av.new (.tup [.int (LA.getD i 0),.int (LB.getD i 0)]) xm
    have kr:upd H' t' (.tup [.int (LA.getD i 0),.int (LB.getD i 0)]) t'=some (.tup [.int (LA.getD i 0),.int (LB.getD i 0)]):=af
    refine wb (bJ.of kr) ⟨Ext.set (Ext.set (Ext.refl _) rfl) rfl,?_⟩
    left
    try rw[if_pos trivial]
    refine bP (s2 _ _ bE) hl hi (Nat.le_of_lt (aH (by omega))) ⟨λc o e=>by rw[ay (aq e BR)];exact s2 _ _ (s1 _ _ e),?_⟩
    rw[List.take_succ,List.getElem?_zipWith,bz (l:=LA) (d:=0) (by omega),bz (l:=LB) (d:=0) (by omega),List.map_append]
    show _++[V.int (if LB.getD i 0 > LA.getD i 0 then LB.getD i 0 else LA.getD i 0)]=_++[V.int (max (LA.getD i 0) (LB.getD i 0))]
    congr 3
    split <;> omega
   rintro ys H9 bE hl ⟨To,rfl⟩
   rw[List.take_of_length_le (by simp;omega),<-ehr] at bE
   left
   exact rest D3 _ _ H9 To bE
structure p8 (H0 H':Hp)(D:Addr)(as:List Addr)(n:Nat)(ct:Nat->Hp->HO->Prop):Prop where
 len:as.length=n
 nd:as.Nodup
 new:∀a ∈ as,H0 a=none/\a≠D
 ins:∀(j:Nat) a,as[j]?=some a->∃o,H' a=some o/\ct j H' o
theorem p8.nil{ct:Nat->Hp->HO->Prop}:p8 H0 H' D [] 0 ct:=⟨rfl,List.nodup_nil,λa h=>by simp at h,λj a h=>by simp at h⟩
theorem p8.snoc{n:Nat}{ct:Nat->Hp->HO->Prop}(h:p8 H0 H1 D as n ct)(s0:av H0 H1)(hD:H1 D≠none)(ha:H1 a=none){o:HO}(e:H' a=some o)(c:ct n H' o)(s:∀b o,b≠D->H1 b=some o->H' b=some o)(mono:∀j o,ct j H1 o->ct j H' o):p8 H0 H' D (as++[a]) (n + 1) ct:=by
 refine⟨by simp[h.len],?_,λb hb=>?_,λj b hb=>?_⟩
 ·rw[List.nodup_append]
  refine gK h.nd (by simp) (λb hb c hc=>?_)
  simp at hc
  subst hc
  intro z
  subst z
  obtain⟨j,hj⟩:=List.getElem?_of_mem hb
  obtain⟨vs,e1,_⟩:=h.ins j b hj
  rw[ha] at e1;cases e1
 ·rcases List.mem_append.mp hb with hb | hb
  ·exact h.new b hb
  ·simp at hb
   subst hb
   refine⟨?_,λz=>hD (z ▸ ha)⟩
   cases e0:H0 b with
   | none=>rfl
   | some o=>rw[s0 _ _ e0] at ha;cases ha
 ·by_cases hj:j < as.length
  ·rw[List.getElem?_append_left hj] at hb
   obtain⟨vs,e1,c1⟩:=h.ins j b hb
   exact⟨vs,s _ _ (h.new b (List.mem_of_getElem? hb)).2 e1,mono _ _ c1⟩
  ·rw[List.getElem?_append_right (by omega)] at hb
   cases hk:j - as.length with
   | zero=>
    rw[hk] at hb
    simp at hb
    subst hb
    have:j=n:=by have:=h.len;omega
    subst this
    exact⟨o,e,c⟩
   | succ k=>rw[hk] at hb;simp at hb
theorem p8.keep{n:Nat}{ct:Nat->Hp->HO->Prop}(h:p8 H0 H1 D as n ct)(s:∀(j:Nat) (b:Addr) (o:HO),H1 b=some o->ct j H1 o->H' b=some o/\ct j H' o):p8 H0 H' D as n ct:=
 ⟨h.len,h.nd,h.new,λj a e=>by
  obtain⟨vs,e1,c1⟩:=h.ins j a e
  exact⟨vs,s _ _ _ e1 c1⟩⟩
theorem qx {K:W.Frag}{ix:List (Option Nat)}{te:TE}{l:Addr}{xs:List V}(el:H l=some (.lst xs))(hD:H D=none)(hn:xs.length<=10)(hx:∀x,Ext (uJ ix σ) ((uJ ix σ).set 0 (some x)))(Yx:∀σ2 H3 (R:VK),(∀p,H3 p=none->R (.ref p) (upd H3 p o))->te σ2 H3 R)(q:∀as H1,H1 D=some (.lst (as.map V.ref))->av H H1->p8 H H1 D as xs.length (λ_ _ u=>u=o)->Q (.ref D) H1):lU ix (qB K l) (gR 0) iJ te σ H Q D:=by
 refine aZ (n:=xs.length) (λi ys H'=>∃as:List Addr,ys=as.map V.ref/\av H H'/\p8 H H' D as i (λ_ _ u=>u=o)) (Nat.le_of_lt (small (by omega))) ⟨[],rfl,av.new _ hD,p8.nil⟩ ?_ ?_ ?_ ?_
 ·rintro i ys H' hi ⟨_,_,s3,_⟩
  exact⟨_,xs[i],aP.of (s3 _ _ el),cA hi⟩
 ·rintro ys H' ⟨_,_,s3,_⟩
  exact⟨_,aP.of (s3 _ _ el),Nat.le_refl _⟩
 ·intro i ys H' hi bE hl iV xx H4 iW
  obtain⟨as,rfl,s3,hL⟩:=iV
  obtain⟨rfl,hy⟩:=iW
  refine⟨hx xx,?_⟩
  simp only[iJ,if_true]
  refine Yx _ _ _ λp hp=>?_
  have sN:=av.new o hp
  have nD:p≠D:=Ne.symm (aq bE hp)
  refine bP (sN _ _ bE) hl hi (Nat.le_of_lt (small (by omega))) ⟨as++[p],by simp,λb o e=>?_,?_⟩
  ·rw[ay (aq e hD)];exact sN _ _ (s3 _ _ e)
  ·refine hL.snoc s3 (by rw[bE];simp) hp (o:=o) ?_ rfl (λb o nb e=>?_) (λj u e=>e)
   ·rw[ay nD];exact af
   ·rw[ay nb];exact sN _ _ e
 ·intro ys H1 bE hl mf
  obtain⟨as,rfl,s1,hL⟩:=mf
  exact q as H1 bE s1 hL
theorem Cb {F:Addr->Prop}{H:Hp}{n:Nat->Nat}{ad:Nat->Nat->Addr}{ct:Nat->Nat->CO}(Hs:Nat->Hp)(sg:Nat->Nat)(mono:∀t b,Hs t b≠none->Hs (t + 1) b≠none)(f0:∀t i,i < n t->Hs (sg t) (ad t i)=none)(f1:∀t i,i < n t->Hs (sg t + 1) (ad t i)≠none)
  (sgi:∀t t' i i',i < n t->i' < n t'->sg t=sg t'->t=t') (inj:∀t i j,i < n t->j < n t->ad t i=ad t j->i=j) (out:∀b,F b->Hs 0 b≠none) (Ck:∀t i,i < n t->∃o,H (ad t i)=some o/\OR (iL (λb=>F b\/FP n ad b) H) (ct t i) o):dO F H n ad ct:=by
 have up:∀(d t:Nat) (b:Addr),Hs t b≠none->Hs (t + d) b≠none:=by
  intro d
  induction d with
  | zero=>exact λt b h=>h
  | succ d ih=>exact λt b h=>mono _ _ (ih t b h)
 have lt:∀t i t' i',i < n t->i' < n t'->sg t < sg t'->ad t i≠ad t' i':=by
  intro t i t' i' h h' l e
  obtain⟨d,hd⟩:∃d,sg t'=sg t + 1 + d:=⟨sg t' - (sg t + 1),by omega⟩
  have a:=up d (sg t + 1) _ (f1 t i h)
  rw[<-hd,e] at a
  exact a (f0 _ i' h')
 refine⟨λt i t' i' h h' e=>?_,λt i h z=>?_,Ck⟩
 ·rcases Nat.lt_trichotomy (sg t) (sg t') with l | l | l
  ·exact absurd e (lt _ _ _ _ h h' l)
  ·have:=sgi t t' i i' h h' l
   subst this
   exact⟨rfl,inj t i i' h h' e⟩
  ·exact absurd e.symm (lt _ _ _ _ h' h l)
 ·have:=up (sg t) 0 _ (out _ z)
  rw[Nat.zero_add] at this
  exact this (f0 t i h)
abbrev kN:Stmt:=top 56
inductive F4 (vs:List V)(H:Hp)(Q:VK):Prop
 | mk (F:Addr->Prop) (tn:V) (nt:NT) (ls:List (Int×Int)) (h0:vs=[tn]) (h1:ToldN (iL F H) tn nt.ms nt.ws ls) (h2:FS F H) (h3:nt.Ok) (h4:ls.length<=20) (h5:∀l ∈ ls,0<=l.1/\l.1 < nt.ws.length) (h6:∀d ad H',av H H'->(∀b,FP nt.n ad b->H b=none)->H d=none->cV F H' d tn nt (RS.begin nt ls) ad->Q (.ref d) H'):F4 vs H Q
def AQ:Sp:=λvs H Q _=>F4 vs H Q
theorem xn (D:dH K mg "_law_begun" "_law_begun" kN ["_law_net_here"])(T:Tx K mg C CN CR F FD):Def P w K mg base "_law_begun" 1 ["_law_net_here"] AQ:=by
 have sc:aD ["_law_net_here","_law_run","_law_way","_law_said"] ["_law_net_here"] (az kN):=by walk_at "s"
 symm
 ·obtain⟨F,tn,nt,ls,rfl,hN,oR,bf,uZ,tH,q⟩:=h
  rfl
 ·nofun
  obtain⟨F,tn,nt,ls,rfl,hN,oR,bf,uZ,tH,q⟩:=h
  ac_rfl
  have hu:=hr.units
  have EJ:=Xe hu
  refine⟨_,(aj (ba (i:=1) sc.nd rfl (by grind) (HZ (qF aB (au 0) (qF aB (cW (N':=["_law_way"]) (ix:=[none]) (bU (ak hu (au 0) ag)) (λ_ _ _ _=>(aU (i:=0) (show(["_law_way"]:List Str).Nodup by decide +kernel) rfl (by grind))) lC (λ_ _ _ _=>(bN aa))) (qF aB (cW (N':=["_law_way"]) (ix:=[none]) (bU (ak hu (au 0) ag)) (λ_ _ _ _=>(aU (i:=0) (show(["_law_way"]:List Str).Nodup by decide +kernel) rfl (by grind))) lC (λ_ _ _ _=>(bN aa))) HY))) rfl rfl (by decide) (by decide)))
   (aj (lu EJ (au 1) aB (cW (N':=["_law_way"]) (ix:=[none]) (bU (ak hu (au 0) ag)) (λ_ _ _ _=>(aU (i:=0) (show(["_law_way"]:List Str).Nodup by decide +kernel) rfl (by grind))) lC (λ_ _ _ _=>Du)) rfl)
   (aj (lu EJ (au 1) aB (cW (N':=["_law_one"]) (ix:=[none]) (bU (ak hu (au 0) ag)) (λ_ _ _ _=>(aU (i:=0) (show(["_law_one"]:List Str).Nodup by decide +kernel) rfl (by grind))) lC (λ_ _ _ _=>(bN (ai (bC (ai (dB (ni (K:=K) rfl) rfl T.cu qe (ai (dC (K:=K) rfl hu (au 0) ag) aa)) (ai (dB (ni (K:=K) rfl) rfl T.cu qe (ai (dC (K:=K) rfl hu (au 0) ag) aa)) aa))) aa)))) rfl)
   (aj (lu EJ (au 1) aB (cW (N':=["_law_one"]) (ix:=[none]) (bU (ak hu (au 0) ag)) (λ_ _ _ _=>(aU (i:=0) (show(["_law_one"]:List Str).Nodup by decide +kernel) rfl (by grind))) lC (λ_ _ _ _=>(bN (ai (bN aa) aa)))) rfl)
   (aj (lu EJ (au 1) aB (cW (N':=["_law_one"]) (ix:=[none]) (bU (ak hu (au 0) ag)) (λ_ _ _ _=>(aU (i:=0) (show(["_law_one"]:List Str).Nodup by decide +kernel) rfl (by grind))) lC (λ_ _ _ _=>(bN aa))) rfl)
   (aj (lu EJ (au 1) aB (bN aa) rfl)
   (aj (eZ PassesOwn.never rfl (bU (ak hu (au 0) ag)) (iU (i:=2) (j:=3) rfl sc.nd rfl rfl (by grind) (by grind))
   (aj (bY (du lO nQ nR bV (ak hu (ak hu (au 1) aB) (au 2)) (ai (au 3) aa)))
   (ao (bY (du lO nQ nR bV (ak hu (ak hu (au 1) aB) (au 2)) (ai j9 aa))))))
   (ao (aE (au 1)))))))))),?_⟩
  nofun
  obtain⟨tt,am,aw,al,mv,wv,lv,rfl,h1,h2,h3,h4,h5,h6,h7⟩:=id hN
  have g1:=(cS h1 (λk z=>by cases z)).2
  have g2:=(cS h2 (λk z=>by cases z)).2
  have g3:=(cS h3 (λk z=>by cases z)).2
  have g4:=(cS h4 (λk z=>by cases z)).2
  replace h5:=h5.cv dW
  replace h6:=h6.aI dW.aQ
  replace h7:=h7.aI dW.aQ
  ac_rfl
  have fQ:wv.length=nt.ws.length:=by simpa using h6.1
  have lN:mv.length=nt.ms.length:=h5.1
  have wG:lv.length=ls.length:=by simpa using h7.1
  have sG:wv.length<=10:=by rw[fQ];exact bf.BB
  have EO:mv.length<=5:=by rw[lN];exact bf.U9
  left
  refine IA λd rX=>?_
  have Ol:=av.new (.dK []) rX
  have ed0:upd H d (.dK []) d=some (.dK []):=af
  generalize hGd:upd H d (.dK [])=C1 at *
  left
  refine bF ?_
  left
  refine cJ (Ol _ _ g1) (ax (j:=1) rfl) ?_
  left
  refine .inl ⟨⟨_,aP.of (Ol _ _ g3)⟩,λD1 BV=>?_⟩
  refine qx (o:=.lst []) (Ol _ _ g3) BV (by omega) (λ_=>Ext.set (Ext.refl _) rfl) (λ_ _ _ r=>And.intro (by decide) r) ?_
  intro A1 H1 bE O8 Vl
  have Sv:=bE
  clear bE
  have Vn:C1 D1=none:=BV
  left
  generalize hC2:H1=C2 at *
  have S2:=Ol.trans O8
  have Py:=O8 _ _ ed0
  have Vm:∀b o,b≠d->C1 b=some o->C2 b=some o:=λb o _ e=>O8 _ _ e
  refine bF ?_
  left
  refine cJ (S2 _ _ g1) (ax (j:=1) rfl) ?_
  left
  refine .inl ⟨⟨_,aP.of (S2 _ _ g3)⟩,λD2 Ao=>?_⟩
  refine qx (o:=.lst []) (S2 _ _ g3) Ao (by omega) (λ_=>Ext.set (Ext.refl _) rfl) (λ_ _ _ r=>And.intro (by decide) r) ?_
  intro A2 H2 bE NW Vp
  have Pc:=bE
  clear bE
  have OT:C2 D2=none:=Ao
  left
  have AR:H2 d=some (.dK []):=NW _ _ Py
  refine⟨AR,[((Sum.inr "net":Key),V.ref tt),((Sum.inr "put":Key),V.ref D1),((Sum.inr "sender":Key),V.ref D2)],rfl,by simp,?_⟩
  have xo:lR [] ([((Sum.inr "net":Key),V.ref tt),((Sum.inr "put":Key),V.ref D1),((Sum.inr "sender":Key),V.ref D2)]:List (Key×V))=[((Sum.inr "net":Key),V.ref tt),((Sum.inr "put":Key),V.ref D1),((Sum.inr "sender":Key),V.ref D2)]:=by kernel_rfl
  rw[xo]
  nofun
  obtain⟨C3,hC3,Pz,Pb,ke2⟩:=fJ (d:=d) ([((Sum.inr "net":Key),V.ref tt),((Sum.inr "put":Key),V.ref D1),((Sum.inr "sender":Key),V.ref D2)]) NW
  ac_rfl
  rw[hC3]
  have S3:av H C3:=λb o e=>Pb b o (aq e rX) (S2 _ _ e)
  clear hC3
  clear AR xo
  left
  refine bF ?_
  left
  refine cJ (S3 _ _ g1) (ax (j:=1) rfl) ?_
  left
  refine .inl ⟨⟨_,aP.of (S3 _ _ g3)⟩,λD3 BR=>?_⟩
  refine qx (o:=.dK []) (S3 _ _ g3) BR (by omega) (λ_=>Ext.set (Ext.refl _) rfl) (λ_ _ _ r=>r) ?_
  intro A3 H3 bE NX Vr
  have KS:=bE
  clear bE
  have OU:C3 D3=none:=BR
  left
  have AR:=NX _ _ Pz
  refine ck d _ rfl (si.k (k:=Sum.inr "worker") AR (small (by simp))) ?_
  have xo:putK ([((Sum.inr "net":Key),V.ref tt),((Sum.inr "put":Key),V.ref D1),((Sum.inr "sender":Key),V.ref D2)]:List (Key×V)) (Sum.inr "worker":Key) (V.ref D3)=[((Sum.inr "net":Key),V.ref tt),((Sum.inr "put":Key),V.ref D1),((Sum.inr "sender":Key),V.ref D2),((Sum.inr "worker":Key),V.ref D3)]:=by kernel_rfl
  rw[xo]
  nofun
  obtain⟨C4,hC4,Om,Pf,ke3⟩:=fJ (d:=d) ([((Sum.inr "net":Key),V.ref tt),((Sum.inr "put":Key),V.ref D1),((Sum.inr "sender":Key),V.ref D2),((Sum.inr "worker":Key),V.ref D3)]) NX
  ac_rfl
  rw[hC4]
  have S4:av H C4:=λb o e=>Pf b o (aq e rX) (S3 _ _ e)
  clear hC4
  clear AR xo
  left
  refine bF ?_
  left
  refine cJ (S4 _ _ g1) (ax (j:=0) rfl) ?_
  left
  refine .inl ⟨⟨_,aP.of (S4 _ _ g2)⟩,λD4 Js=>?_⟩
  refine aZ (J:=qB K am) (n:=mv.length) (λi ys H'=>∃as:List Addr,ys=as.map V.ref/\av C4 H'/\p8 C4 H' D4 as i (λj H' o=>∃v,o=.lst [v]/\HT H' 2 v (vo (nt.ms.getD j default).ns (nt.ms.getD j default).row))) (Nat.le_of_lt (small (by omega))) ⟨[],rfl,av.new _ Js,p8.nil⟩ ?_ ?_ ?_ ?_
  ·rintro i ys H' hi ⟨_,_,s3,_⟩
   exact⟨_,mv[i],aP.of (s3 _ _ (S4 _ _ g2)),cA hi⟩
  ·rintro ys H' ⟨_,_,s3,_⟩
   exact⟨_,aP.of (s3 _ _ (S4 _ _ g2)),Nat.le_refl _⟩
  ·intro i ys H' hi bE hl oB xx H4 pW
   nofun
   obtain⟨as,rfl,s3,hL⟩:=oB
   obtain⟨rfl,hy⟩:=pW
   ac_rfl
   have ex:=hy _ (aP.of (s3 _ _ (S4 _ _ g2)))
   walk_at "xf"
   left
   try rw[if_pos trivial]
   have Jr:i < nt.ms.length:=by omega
   nofun
   obtain⟨mt,ln,lr,ld,xsd,rfl,m1,m2,m3,m4,m5⟩:=h5.2 i xx _ ex (bz (d:=default) Jr)
   ac_rfl
   have VS:=(S4.trans s3)
   refine cJ (VS _ _ m1) (ax (j:=1) rfl) ?_
   left
   refine .inl ⟨_,aP.of (VS _ _ m2),λt1 sE=>?_⟩
   have r1:=av.new (.tup ((nt.ms.getD i default).ns.map V.int)) sE
   refine cJ (r1 _ _ (VS _ _ m1)) (ax (j:=2) rfl) ?_
   left
   refine .inl ⟨_,aP.of (r1 _ _ (VS _ _ m3)),λt2 kr=>?_⟩
   have r2:=av.new (.tup ((nt.ms.getD i default).row.map V.int)) kr
   refine⟨cM,λt3 uX=>?_⟩
   have r3:=av.new (.tup [.ref t1,.ref t2]) uX
   have sP:=r1.trans (r2.trans r3)
   have hv:HT (upd (upd (upd H4 t1 (.tup ((nt.ms.getD i default).ns.map V.int))) t2 (.tup ((nt.ms.getD i default).row.map V.int))) t3 (.tup [.ref t1,.ref t2])) 2 (.ref t3) (vo (nt.ms.getD i default).ns (nt.ms.getD i default).row):=dw af (nj (r3 _ _ (r2 _ _ af))) (nj (r3 _ _ af))
   generalize hGP:upd (upd (upd H4 t1 (.tup ((nt.ms.getD i default).ns.map V.int))) t2 (.tup ((nt.ms.getD i default).row.map V.int))) t3 (.tup [.ref t1,.ref t2])=HP at *
   have Cc:=sP _ _ bE
   left
   refine⟨by decide,λp hp=>?_⟩
   have sN:=av.new (.lst [.ref t3]) hp
   have Oo:=sN _ _ Cc
   have nD:p≠D4:=Ne.symm (aq Cc hp)
   refine bP Oo hl hi (Nat.le_of_lt (small (by omega))) ⟨as++[p],by simp,λb o e=>?_,?_⟩
   ·rw[ay (aq e Js)];exact sN _ _ (sP _ _ (s3 _ _ e))
   ·refine hL.snoc s3 (by rw[bE];simp) (sP.free hp) (o:=.lst [.ref t3]) ?_ ⟨_,rfl,hv.aI (λb xs e=>by rw[ay (λz=>by rw[z,Cc] at e;cases e)];exact sN _ _ e)⟩ (λb o nb e=>?_) (λj o ⟨v,e,h⟩=>⟨v,e,h.aI (λb xs e=>by rw[ay (λz=>by rw[z,bE] at e;cases e)];exact sN _ _ (sP _ _ e))⟩)
    ·rw[ay nD];exact af
    ·rw[ay nb];exact sN _ _ (sP _ _ e)
  intro ys H4 bE hl uW
  nofun
  obtain⟨A4,rfl,KU,Vt⟩:=uW
  ac_rfl
  have Pk:=bE
  clear bE hl
  have Vu:C4 D4=none:=Js
  left
  have AR:=KU _ _ Om
  refine ck d _ rfl (si.k (k:=Sum.inr "states") AR (small (by simp))) ?_
  have xo:putK ([((Sum.inr "net":Key),V.ref tt),((Sum.inr "put":Key),V.ref D1),((Sum.inr "sender":Key),V.ref D2),((Sum.inr "worker":Key),V.ref D3)]:List (Key×V)) (Sum.inr "states":Key) (V.ref D4)=[((Sum.inr "net":Key),V.ref tt),((Sum.inr "put":Key),V.ref D1),((Sum.inr "sender":Key),V.ref D2),((Sum.inr "worker":Key),V.ref D3),((Sum.inr "states":Key),V.ref D4)]:=by kernel_rfl
  rw[xo]
  nofun
  obtain⟨C5,hC5,Lb,Pj,ZL⟩:=fJ (d:=d) ([((Sum.inr "net":Key),V.ref tt),((Sum.inr "put":Key),V.ref D1),((Sum.inr "sender":Key),V.ref D2),((Sum.inr "worker":Key),V.ref D3),((Sum.inr "states":Key),V.ref D4)]) KU
  ac_rfl
  rw[hC5]
  have S5:av H C5:=λb o e=>Pj b o (aq e rX) (S4 _ _ e)
  clear hC5
  clear AR xo
  left
  refine bF ?_
  left
  refine cJ (S5 _ _ g1) (ax (j:=0) rfl) ?_
  left
  refine .inl ⟨⟨_,aP.of (S5 _ _ g2)⟩,λD5 tS=>?_⟩
  refine aZ (J:=qB K am) (n:=mv.length) (λi ys H'=>∃as:List Addr,ys=as.map V.ref/\av C5 H'/\p8 C5 H' D5 as i (λ_ H' o=>∃q,o=.lst [.ref q]/\H' q=some (.lst [])/\C5 q=none/\q≠D5)) (Nat.le_of_lt (small (by omega))) ⟨[],rfl,av.new _ tS,p8.nil⟩ ?_ ?_ ?_ ?_
  ·rintro i ys H' hi ⟨_,_,s3,_⟩
   exact⟨_,mv[i],aP.of (s3 _ _ (S5 _ _ g2)),cA hi⟩
  ·rintro ys H' ⟨_,_,s3,_⟩
   exact⟨_,aP.of (s3 _ _ (S5 _ _ g2)),Nat.le_refl _⟩
  ·intro i ys H' hi bE hl ET xx H4 Jf
   nofun
   obtain⟨as,rfl,s3,hL⟩:=ET
   obtain⟨rfl,hy⟩:=Jf
   ac_rfl
   have ex:=hy _ (aP.of (s3 _ _ (S5 _ _ g2)))
   walk_at "xf"
   left
   try rw[if_pos trivial]
   refine⟨Nat.zero_le _,λqq ZM=>?_⟩
   have sP:=av.new (.lst []) ZM
   have eqq:upd H4 qq (.lst []) qq=some (.lst []):=af
   have nqD:qq≠D5:=Ne.symm (aq bE ZM)
   generalize hGP:upd H4 qq (.lst [])=HP at *
   have Cc:=sP _ _ bE
   left
   refine⟨by decide,λp hp=>?_⟩
   have sN:=av.new (.lst [.ref qq]) hp
   have Oo:=sN _ _ Cc
   have nD:p≠D5:=Ne.symm (aq Cc hp)
   refine bP Oo hl hi (Nat.le_of_lt (small (by omega))) ⟨as++[p],by simp,λb o e=>?_,?_⟩
   ·rw[ay (aq e tS)];exact sN _ _ (sP _ _ (s3 _ _ e))
   ·refine hL.snoc s3 (by rw[bE];simp) (sP.free hp) (o:=.lst [.ref qq]) ?_ ⟨qq,rfl,by rw[ay nqD];exact sN _ _ eqq,s3.free ZM,nqD⟩ (λb o nb e=>?_) (λj o ⟨q',e,h,h',h2⟩=>⟨q',e,by rw[ay h2];exact sN _ _ (sP _ _ h),h',h2⟩)
    ·rw[ay nD];exact af
    ·rw[ay nb];exact sN _ _ (sP _ _ e)
  intro ys H5 bE hl Jh
  nofun
  obtain⟨A5,rfl,KW,Vw⟩:=Jh
  ac_rfl
  have Po:=bE
  clear bE hl
  have Vx:C5 D5=none:=tS
  left
  have AR:=KW _ _ Lb
  refine ck d _ rfl (si.k (k:=Sum.inr "words") AR (small (by simp))) ?_
  have xo:putK ([((Sum.inr "net":Key),V.ref tt),((Sum.inr "put":Key),V.ref D1),((Sum.inr "sender":Key),V.ref D2),((Sum.inr "worker":Key),V.ref D3),((Sum.inr "states":Key),V.ref D4)]:List (Key×V)) (Sum.inr "words":Key) (V.ref D5)=[((Sum.inr "net":Key),V.ref tt),((Sum.inr "put":Key),V.ref D1),((Sum.inr "sender":Key),V.ref D2),((Sum.inr "worker":Key),V.ref D3),((Sum.inr "states":Key),V.ref D4),((Sum.inr "words":Key),V.ref D5)]:=by kernel_rfl
  rw[xo]
  nofun
  obtain⟨C6,hC6,Lc,Pn,ZN⟩:=fJ (d:=d) ([((Sum.inr "net":Key),V.ref tt),((Sum.inr "put":Key),V.ref D1),((Sum.inr "sender":Key),V.ref D2),((Sum.inr "worker":Key),V.ref D3),((Sum.inr "states":Key),V.ref D4),((Sum.inr "words":Key),V.ref D5)]) KW
  ac_rfl
  rw[hC6]
  have S6:av H C6:=λb o e=>Pn b o (aq e rX) (S5 _ _ e)
  clear hC6
  clear AR xo
  left
  refine bF ?_
  left
  refine cJ (S6 _ _ g1) (ax (j:=0) rfl) ?_
  left
  refine .inl ⟨⟨_,aP.of (S6 _ _ g2)⟩,λD6 SM=>?_⟩
  refine qx (o:=.lst []) (S6 _ _ g2) SM (by omega) (λ_=>Ext.set (Ext.refl _) rfl) (λ_ _ _ r=>And.intro (by decide) r) ?_
  intro A6 H6 bE NY Vz
  have Pr:=bE
  clear bE
  have VA:C6 D6=none:=SM
  left
  have AR:=NY _ _ Lc
  refine ck d _ rfl (si.k (k:=Sum.inr "heard") AR (small (by simp))) ?_
  have xo:putK ([((Sum.inr "net":Key),V.ref tt),((Sum.inr "put":Key),V.ref D1),((Sum.inr "sender":Key),V.ref D2),((Sum.inr "worker":Key),V.ref D3),((Sum.inr "states":Key),V.ref D4),((Sum.inr "words":Key),V.ref D5)]:List (Key×V)) (Sum.inr "heard":Key) (V.ref D6)=[((Sum.inr "net":Key),V.ref tt),((Sum.inr "put":Key),V.ref D1),((Sum.inr "sender":Key),V.ref D2),((Sum.inr "worker":Key),V.ref D3),((Sum.inr "states":Key),V.ref D4),((Sum.inr "words":Key),V.ref D5),((Sum.inr "heard":Key),V.ref D6)]:=by kernel_rfl
  rw[xo]
  nofun
  obtain⟨C7,hC7,PB,NZ,ke6⟩:=fJ (d:=d) ([((Sum.inr "net":Key),V.ref tt),((Sum.inr "put":Key),V.ref D1),((Sum.inr "sender":Key),V.ref D2),((Sum.inr "worker":Key),V.ref D3),((Sum.inr "states":Key),V.ref D4),((Sum.inr "words":Key),V.ref D5),((Sum.inr "heard":Key),V.ref D6)]) NY
  ac_rfl
  rw[hC7]
  have S7:av H C7:=λb o e=>NZ b o (aq e rX) (S6 _ _ e)
  clear hC7
  clear AR xo
  left
  refine⟨Nat.zero_le _,λpe Cu=>?_⟩
  have sE7:=av.new (.lst []) Cu
  have ZO:upd C7 pe (.lst []) pe=some (.lst []):=af
  have npe:pe≠d:=Ne.symm (aq PB Cu)
  generalize af5:upd C7 pe (.lst [])=E7 at *
  refine ck d _ rfl (si.k (k:=Sum.inr "events") (sE7 _ _ PB) (small (by simp))) ?_
  have xo:putK ([((Sum.inr "net":Key),V.ref tt),((Sum.inr "put":Key),V.ref D1),((Sum.inr "sender":Key),V.ref D2),((Sum.inr "worker":Key),V.ref D3),((Sum.inr "states":Key),V.ref D4),((Sum.inr "words":Key),V.ref D5),((Sum.inr "heard":Key),V.ref D6)]:List (Key×V)) (Sum.inr "events":Key) (V.ref pe)=[((Sum.inr "net":Key),V.ref tt),((Sum.inr "put":Key),V.ref D1),((Sum.inr "sender":Key),V.ref D2),((Sum.inr "worker":Key),V.ref D3),((Sum.inr "states":Key),V.ref D4),((Sum.inr "words":Key),V.ref D5),((Sum.inr "heard":Key),V.ref D6),((Sum.inr "events":Key),V.ref pe)]:=by kernel_rfl
  rw[xo]
  nofun
  obtain⟨GF,hGF,edF,VT,ke7⟩:=fJ (d:=d) ([((Sum.inr "net":Key),V.ref tt),((Sum.inr "put":Key),V.ref D1),((Sum.inr "sender":Key),V.ref D2),((Sum.inr "worker":Key),V.ref D3),((Sum.inr "states":Key),V.ref D4),((Sum.inr "words":Key),V.ref D5),((Sum.inr "heard":Key),V.ref D6),((Sum.inr "events":Key),V.ref pe)]) sE7
  ac_rfl
  rw[hGF]
  have ZP:=ke7 _ _ npe ZO
  have SF:av H GF:=λb o e=>VT b o (aq e rX) (S7 _ _ e)
  clear hGF ke7
  clear xo
  have gW:∀(A:Hp) (kv:List (Key×V)) (b:Addr) (vs:List V),A d=some (.dK kv)->A b=some (.lst vs)->b≠d:=λA kv b vs e1 e2 z=>by rw[z,e1] at e2;cases e2
  have ndk:∀(A:Hp) (p:Key×V) (kv:List (Key×V)) (b:Addr),A d=some (.dK (p::kv))->A b=some (.dK [])->b≠d:=λA p kv b e1 e2 z=>by rw[z,e1] at e2;cases e2
  have Ho:∀(A:Hp) (kv:List (Key×V)) (b:Addr) (vs:List V),A d=some (.dK kv)->A b=some (.tup vs)->b≠d:=λA kv b vs e1 e2 z=>by rw[z,e1] at e2;cases e2
  have ZQ:=VT
  have VU:∀b o,b≠d->C6 b=some o->GF b=some o:=λb o n e=>ZQ b o n (NZ b o n e)
  have Jt:∀b o,b≠d->C5 b=some o->GF b=some o:=λb o n e=>VU b o n (Pn b o n e)
  have KY:∀b o,b≠d->C4 b=some o->GF b=some o:=λb o n e=>Jt b o n (Pj b o n e)
  have KZ:∀b o,b≠d->C3 b=some o->GF b=some o:=λb o n e=>KY b o n (Pf b o n e)
  have N0:∀b o,b≠d->C2 b=some o->GF b=some o:=λb o n e=>KZ b o n (Pb b o n e)
  have TL:p8 C1 C2 D1 A1 wv.length (λ_ _ o=>o=.lst []):=Vl
  have F5:=Sv
  have zb:=TL.keep (λj b o e c=>by subst c;exact⟨N0 b _ (gW _ _ _ _ Py e) e,rfl⟩)
  have TM:=N0 _ _ (gW _ _ _ _ Py F5) F5
  have TN:p8 C2 C3 D2 A2 wv.length (λ_ _ o=>o=.lst []):=Vp.keep (λj b o e c=>by subst c;exact⟨ke2 b _ (gW _ _ _ _ (NW _ _ Py) e) e,rfl⟩)
  have F6:=ke2 _ _ (gW _ _ _ _ (NW _ _ Py) Pc) Pc
  have zc:=TN.keep (λj b o e c=>by subst c;exact⟨KZ b _ (gW _ _ _ _ Pz e) e,rfl⟩)
  have TQ:=KZ _ _ (gW _ _ _ _ Pz F6) F6
  have TR:p8 C3 C4 D3 A3 wv.length (λ_ _ o=>o=.dK []):=Vr.keep (λj b o e c=>by subst c;exact⟨ke3 b _ (ndk _ _ _ _ (NX _ _ Pz) e) e,rfl⟩)
  have F7:=ke3 _ _ (gW _ _ _ _ (NX _ _ Pz) KS) KS
  have zd:=TR.keep (λj b o e c=>by subst c;exact⟨KY b _ (ndk _ _ _ _ Om e) e,rfl⟩)
  have TU:=KY _ _ (gW _ _ _ _ Om F7) F7
  have TV:p8 C4 C5 D4 A4 mv.length (λj H' o=>∃v,o=.lst [v]/\HT H' 2 v (vo (nt.ms.getD j default).ns (nt.ms.getD j default).row)):=Vt.keep (λj b o e c=>by
   nofun
   obtain⟨v,rfl,hv⟩:=c
   ac_rfl
   exact⟨ZL b _ (gW _ _ _ _ (KU _ _ Om) e) e,v,rfl,hv.aI (λb' xs e'=>ZL b' _ (Ho _ _ _ _ (KU _ _ Om) e') e')⟩)
  have F8:=ZL _ _ (gW _ _ _ _ (KU _ _ Om) Pk) Pk
  have ze:=TV.keep (λj b o e c=>by
   nofun
   obtain⟨v,rfl,hv⟩:=c
   ac_rfl
   exact⟨Jt b _ (gW _ _ _ _ Lb e) e,v,rfl,hv.aI (λb' xs e'=>Jt b' _ (Ho _ _ _ _ Lb e') e')⟩)
  have TX:=Jt _ _ (gW _ _ _ _ Lb F8) F8
  have oV:p8 C5 C6 D5 A5 mv.length (λ_ H' o=>∃q,o=.lst [.ref q]/\H' q=some (.lst [])/\C5 q=none/\q≠D5):=Vw.keep (λj b o e c=>by
   nofun
   obtain⟨v,rfl,hv,Og,VW⟩:=c
   ac_rfl
   exact⟨ZN b _ (gW _ _ _ _ (KW _ _ Lb) e) e,v,rfl,ZN v _ (gW _ _ _ _ (KW _ _ Lb) hv) hv,Og,VW⟩)
  have ue:=ZN _ _ (gW _ _ _ _ (KW _ _ Lb) Po) Po
  have xq:=oV.keep (λj b o e c=>by
   nofun
   obtain⟨v,rfl,hv,Og,VW⟩:=c
   ac_rfl
   exact⟨VU b _ (gW _ _ _ _ Lc e) e,v,rfl,VU v _ (gW _ _ _ _ Lc hv) hv,Og,VW⟩)
  have TY:=VU _ _ (gW _ _ _ _ Lc ue) ue
  have TZ:p8 C6 C7 D6 A6 mv.length (λ_ _ o=>o=.lst []):=Vz.keep (λj b o e c=>by subst c;exact⟨ke6 b _ (gW _ _ _ _ (NY _ _ Lc) e) e,rfl⟩)
  have F9:=ke6 _ _ (gW _ _ _ _ (NY _ _ Lc) Pr) Pr
  have zf:=TZ.keep (λj b o e c=>by subst c;exact⟨ZQ b _ (gW _ _ _ _ PB e) e,rfl⟩)
  have T4:=ZQ _ _ (gW _ _ _ _ PB F9) F9
  rw[fQ] at zb
  rw[fQ] at zc
  rw[fQ] at zd
  rw[lN] at ze
  rw[lN] at xq
  rw[lN] at zf
  have YN:∃ad:Nat->Nat->Addr,(∀i,ad 0 i=pe)/\(∀i,ad 1 i=A4.getD i 0)/\(∀i,ad 2 i=A5.getD i 0)/\(∀i,ad 3 i=A6.getD i 0)/\(∀i,ad 4 i=A1.getD i 0)/\(∀i,ad 5 i=A2.getD i 0)/\(∀i,ad 6 i=A3.getD i 0):=
   ⟨λt i=>match t with
    | 0=>pe
    | 1=>A4.getD i 0
    | 2=>A5.getD i 0
    | 3=>A6.getD i 0
    | 4=>A1.getD i 0
    | 5=>A2.getD i 0
    | _=>A3.getD i 0,λ_=>rfl,λ_=>rfl,λ_=>rfl,λ_=>rfl,λ_=>rfl,λ_=>rfl,λ_=>rfl⟩
  nofun
  obtain⟨ad,K4,eY,gH,xb,xc,xf,xg⟩:=YN
  have sgE:∃sg:Nat->Nat,sg 0=6/\sg 1=3/\sg 2=4/\sg 3=5/\sg 4=0/\sg 5=1/\sg 6=2:=
   ⟨λt=>match t with
    | 0=>6
    | 1=>3
    | 2=>4
    | 3=>5
    | 4=>0
    | 5=>1
    | _=>2,rfl,rfl,rfl,rfl,rfl,rfl,rfl⟩
  obtain⟨sg,VX,T5,T6,T7,T8,T9,Ua⟩:=sgE
  have YO:∃Hs:Nat->Hp,Hs 0=C1/\Hs 1=C2/\Hs 2=C3/\Hs 3=C4/\Hs 4=C5/\Hs 5=C6/\Hs 6=C7/\∀t,Hs (t + 7)=GF:=
   ⟨λt=>match t with
    | 0=>C1
    | 1=>C2
    | 2=>C3
    | 3=>C4
    | 4=>C5
    | 5=>C6
    | 6=>C7
    | _=>GF,rfl,rfl,rfl,rfl,rfl,rfl,rfl,λ_=>rfl⟩
  obtain⟨Hs,q0,q1,q2,q3,q4,q5,q6,q7⟩:=YO
  have pz:∀(A B:Hp),(∀b o,b≠d->A b=some o->B b=some o)->(∃o,B d=some o)->∀b,A b≠none->B b≠none:=λA B h ⟨o,e⟩ b hb=>by
   by_cases z:b=d
   ·rw[z,e];simp
   ·cases e1:A b with
    | none=>exact absurd e1 hb
    | some u=>rw[h b u z e1];simp
  have gx:∀{A:List Addr} {H0 H':Hp} {D:Addr} {n:Nat} {ct:Nat->Hp->HO->Prop},p8 H0 H' D A n ct->∀i,i < n->A[i]?=some (A.getD i 0)/\H0 (A.getD i 0)=none/\∃o,H' (A.getD i 0)=some o/\ct i H' o:=λ{A H0 H' D n ct} h i hi=>by
   have e:=bz (l:=A) (i:=i) (d:=0) (by rw[h.len];exact hi)
   exact⟨e,(h.new _ (List.mem_of_getElem? e)).1,h.ins i _ e⟩
  have oW:∀{A:List Addr} {H0 H':Hp} {D:Addr} {n:Nat} {ct:Nat->Hp->HO->Prop},p8 H0 H' D A n ct->∀i j,i < n->j < n->A.getD i 0=A.getD j 0->i=j:=λ{A H0 H' D n ct} h i j hi hj e=>by
   have e1:=(gx h i hi).1
   have e2:=(gx h j hj).1
   rw[e] at e1
   exact(List.getElem?_inj (by rw[h.len];exact hi) h.nd).mp (e1.trans e2.symm)
  have mono:∀t b,Hs t b≠none->Hs (t + 1) b≠none:=by
   intro t
   match t with
   | 0=>rw[q0,q1];exact pz _ _ Vm ⟨_,Py⟩
   | 1=>rw[q1,q2];exact pz _ _ Pb ⟨_,Pz⟩
   | 2=>rw[q2,q3];exact pz _ _ Pf ⟨_,Om⟩
   | 3=>rw[q3,q4];exact pz _ _ Pj ⟨_,Lb⟩
   | 4=>rw[q4,q5];exact pz _ _ Pn ⟨_,Lc⟩
   | 5=>rw[q5,q6];exact pz _ _ NZ ⟨_,PB⟩
   | 6=>rw[q6,q7 0];exact pz _ _ VT ⟨_,edF⟩
   | (t + 7)=>rw[q7,show t + 7 + 1=(t + 1) + 7 by omega,q7];exact λb h=>h
  have up:∀(d t:Nat) (b:Addr),Hs t b≠none->Hs (t + d) b≠none:=by
   intro d
   induction d with
   | zero=>exact λt b h=>h
   | succ d ih=>exact λt b h=>mono _ _ (ih t b h)
  have F0:∀t i,i < nt.n t->Hs (sg t) (ad t i)=none:=by
   intro t i hi
   match t,hi with
   | 0,hi=>rw[VX,q6,K4];exact Cu
   | 1,hi=>rw[T5,q3,eY];exact(gx ze i hi).2.1
   | 2,hi=>rw[T6,q4,gH];exact(gx xq i hi).2.1
   | 3,hi=>rw[T7,q5,xb];exact(gx zf i hi).2.1
   | 4,hi=>rw[T8,q0,xc];exact(gx zb i hi).2.1
   | 5,hi=>rw[T9,q1,xf];exact(gx zc i hi).2.1
   | 6,hi=>rw[Ua,q2,xg];exact(gx zd i hi).2.1
   | (t + 7),hi=>exact absurd hi (Nat.not_lt_zero i)
  have F1:∀t i,i < nt.n t->Hs (sg t + 1) (ad t i)≠none:=by
   intro t i hi
   match t,hi with
   | 0,hi=>rw[VX,q7 0,K4,ZP];simp
   | 1,hi=>
    rw[T5,q4,eY]
    nofun
    obtain⟨_,_,o,e,_⟩:=gx TV i (by rw[lN];exact hi)
    ac_rfl
    rw[e];simp
   | 2,hi=>
    rw[T6,q5,gH]
    nofun
    obtain⟨_,_,o,e,_⟩:=gx oV i (by rw[lN];exact hi)
    ac_rfl
    rw[e];simp
   | 3,hi=>
    rw[T7,q6,xb]
    nofun
    obtain⟨_,_,o,e,_⟩:=gx TZ i (by rw[lN];exact hi)
    ac_rfl
    rw[e];simp
   | 4,hi=>
    rw[T8,q1,xc]
    nofun
    obtain⟨_,_,o,e,_⟩:=gx TL i (by rw[fQ];exact hi)
    ac_rfl
    rw[e];simp
   | 5,hi=>
    rw[T9,q2,xf]
    nofun
    obtain⟨_,_,o,e,_⟩:=gx TN i (by rw[fQ];exact hi)
    ac_rfl
    rw[e];simp
   | 6,hi=>
    rw[Ua,q3,xg]
    nofun
    obtain⟨_,_,o,e,_⟩:=gx TR i (by rw[fQ];exact hi)
    ac_rfl
    rw[e];simp
   | (t + 7),hi=>exact absurd hi (Nat.not_lt_zero i)
  have sg7:∀t i,i < nt.n t->sg t<=6:=by
   intro t i hi
   match t,hi with
   | 0,_=>rw[VX];decide
   | 1,_=>rw[T5];decide
   | 2,_=>rw[T6];decide
   | 3,_=>rw[T7];decide
   | 4,_=>rw[T8];decide
   | 5,_=>rw[T9];decide
   | 6,_=>rw[Ua];decide
   | (t + 7),hi=>exact absurd hi (Nat.not_lt_zero i)
  have fresh:∀b,FP nt.n ad b->H b=none:=by
   intro b TK
   nofun
   obtain⟨t,i,hi,rfl⟩:=TK
   ac_rfl
   cases e0:H (ad t i) with
   | none=>rfl
   | some o=>
    exfalso
    have a0:Hs 0 (ad t i)≠none:=by rw[q0,Ol _ _ e0];simp
    have:=up (sg t) 0 _ a0
    rw[Nat.zero_add] at this
    exact this (F0 t i hi)
  have Ju:∀(s:Nat) (D:Addr),Hs s D=none->Hs (s + 1) D≠none->(∀t i,i < nt.n t->sg t=s->ad t i≠D)->¬FP nt.n ad D:=by
   intro s D h0 h1 pS ZR
   nofun
   obtain⟨t',i,hi,rfl⟩:=ZR
   ac_rfl
   rcases Nat.lt_trichotomy s (sg t') with l | l | l
   ·obtain⟨d',qg⟩:∃d',sg t'=s + 1 + d':=⟨sg t' - (s + 1),by omega⟩
    have:=up d' _ _ h1
    rw[<-qg] at this
    exact this (F0 _ i hi)
   ·exact pS t' i hi l.symm rfl
   ·obtain⟨d',qg⟩:∃d',s=sg t' + 1 + d':=⟨s - (sg t' + 1),by omega⟩
    have:=up d' _ _ (F1 _ i hi)
    rw[<-qg] at this
    exact this h0
  have fps:∀t i,i < nt.n t->∃o,GF (ad t i)=some o/\soft o:=by
   intro t i hi
   match t,hi with
   | 0,hi=>exact⟨.lst _,by rw[K4];exact ZP,trivial⟩
   | 1,hi=>
    nofun
    obtain⟨_,_,o,e,v,rfl,_⟩:=gx ze i hi
    ac_rfl
    exact⟨.lst _,by rw[eY];exact e,trivial⟩
   | 2,hi=>
    nofun
    obtain⟨_,_,o,e,v,rfl,_⟩:=gx xq i hi
    ac_rfl
    exact⟨.lst _,by rw[gH];exact e,trivial⟩
   | 3,hi=>
    nofun
    obtain⟨_,_,o,e,rfl⟩:=gx zf i hi
    ac_rfl
    exact⟨.lst _,by rw[xb];exact e,trivial⟩
   | 4,hi=>
    nofun
    obtain⟨_,_,o,e,rfl⟩:=gx zb i hi
    ac_rfl
    exact⟨.lst _,by rw[xc];exact e,trivial⟩
   | 5,hi=>
    nofun
    obtain⟨_,_,o,e,rfl⟩:=gx zc i hi
    ac_rfl
    exact⟨.lst _,by rw[xf];exact e,trivial⟩
   | 6,hi=>
    nofun
    obtain⟨_,_,o,e,rfl⟩:=gx zd i hi
    ac_rfl
    exact⟨.dK _,by rw[xg];exact e,trivial⟩
   | (t + 7),hi=>exact absurd hi (Nat.not_lt_zero i)
  have hz:∀b,(F b\/FP nt.n ad b)->∃o,GF b=some o/\soft o:=by
   rintro b (h | ⟨t,i,hi,rfl⟩)
   ·obtain⟨o,e,so⟩:=oR b h
    exact⟨o,SF _ _ e,so⟩
   ·exact fps t i hi
  have nF:∀b,H b=none->¬F b:=λb e z=>by
   obtain⟨o,e1,_⟩:=oR b z
   rw[e] at e1;cases e1
  have giE:∃gi:Nat->Nat,gi 6=0/\gi 3=1/\gi 4=2/\gi 5=3/\gi 0=4/\gi 1=5/\gi 2=6:=
   ⟨λs=>match s with
    | 0=>4
    | 1=>5
    | 2=>6
    | 3=>1
    | 4=>2
    | 5=>3
    | _=>0,rfl,rfl,rfl,rfl,rfl,rfl,rfl⟩
  obtain⟨gi,gi0,gi1,ZS,gi3,gi4,gi5,gi6⟩:=giE
  have JK:∀t i,i < nt.n t->gi (sg t)=t:=by
   intro t i hi
   match t,hi with
   | 0,_=>rw[VX,gi0]
   | 1,_=>rw[T5,gi1]
   | 2,_=>rw[T6,ZS]
   | 3,_=>rw[T7,gi3]
   | 4,_=>rw[T8,gi4]
   | 5,_=>rw[T9,gi5]
   | 6,_=>rw[Ua,gi6]
   | (t + 7),hi=>exact absurd hi (Nat.not_lt_zero i)
  have nq:∀i q,i < nt.ms.length->GF (A5.getD i 0)=some (.lst [.ref q])->GF q=some (.lst [])->C5 q=none->C6 q=some (.lst [])->¬(F q\/FP nt.n ad q):=by
   rintro i q hi e1 e2 e3 e4 (z | z)
   ·exact nF q (S5.free e3) z
   ·refine Ju 4 q (by rw[q4];exact e3) (by rw[q5,e4];simp) (λt j hj es z'=>?_) z
    have h2:t=2:=by rw[<-JK t j hj,es,ZS]
    subst h2
    obtain⟨_,_,o,e5,v,rfl,_⟩:=gx xq j hj
    rw[<-gH,z',e2] at e5
    cases e5
  have cH:dO F GF nt.n ad (RS.new nt).tv:=by
   refine Cb Hs sg mono F0 F1 (λt t' i i' h h' e=>?_) ?_ (λb h=>?_) ?_
   ·exact(JK t i h).symm.trans ((congrArg gi e).trans (JK t' i' h'))
   ·intro t i j hi hj e
    match t,hi,hj with
    | 0,hi,hj=>
     have h1:i < 1:=hi
     have h2:j < 1:=hj
     omega
    | 1,hi,hj=>rw[eY,eY] at e;exact oW ze i j hi hj e
    | 2,hi,hj=>rw[gH,gH] at e;exact oW xq i j hi hj e
    | 3,hi,hj=>rw[xb,xb] at e;exact oW zf i j hi hj e
    | 4,hi,hj=>rw[xc,xc] at e;exact oW zb i j hi hj e
    | 5,hi,hj=>rw[xf,xf] at e;exact oW zc i j hi hj e
    | 6,hi,hj=>rw[xg,xg] at e;exact oW zd i j hi hj e
    | (t + 7),hi,_=>exact absurd hi (Nat.not_lt_zero i)
   ·obtain⟨o,e,_⟩:=oR b h
    rw[q0,Ol _ _ e];simp
   ·intro t i hi
    match t,hi with
    | 0,hi=>exact⟨.lst [],by rw[K4];exact ZP,(c9.nil:c9 _ 4 [] [])⟩
    | 1,hi=>
     nofun
     obtain⟨_,_,o,e,v,rfl,hv⟩:=gx ze i hi
     ac_rfl
     exact⟨.lst [v],by rw[eY];exact e,(c9.one ((Fx hz hv).mono (by decide)):c9 _ 4 [v] [_])⟩
    | 2,hi=>
     nofun
     obtain⟨_,_,o,e,v,rfl,hv,Og,VW⟩:=gx xq i hi
     obtain⟨_,_,o',e',v',rfl,Wo,_⟩:=gx oV i (by rw[lN];exact hi)
     have w6:=NZ _ _ (gW _ _ _ _ Lc e') e'
     have w7:=VT _ _ (gW _ _ _ _ PB w6) w6
     rw[e] at w7
     cases w7
     ac_rfl
     exact⟨.lst [.ref v],by rw[gH];exact e,(c9.one (.lst (by rw[fZ (nq i v hi e hv Og Wo)];exact hv) rfl (λi u e hu=>by simp at hu)):c9 _ 4 [.ref v] [.lst []])⟩
    | 3,hi=>
     nofun
     obtain⟨_,_,o,e,rfl⟩:=gx zf i hi
     ac_rfl
     exact⟨.lst [],by rw[xb];exact e,(c9.nil:c9 _ 4 [] [])⟩
    | 4,hi=>
     nofun
     obtain⟨_,_,o,e,rfl⟩:=gx zb i hi
     ac_rfl
     exact⟨.lst [],by rw[xc];exact e,(c9.nil:c9 _ 4 [] [])⟩
    | 5,hi=>
     nofun
     obtain⟨_,_,o,e,rfl⟩:=gx zc i hi
     ac_rfl
     exact⟨.lst [],by rw[xf];exact e,(c9.nil:c9 _ 4 [] [])⟩
    | 6,hi=>
     nofun
     obtain⟨_,_,o,e,rfl⟩:=gx zd i hi
     ac_rfl
     exact⟨.dK [],by rw[xg];exact e,⟨Nat.zero_le _,λk=>by
      have e1:kn ((RS.new nt).ww i).jN k=none:=by
       show kn [] k=none
       unfold kn
       split <;> rfl
      rw[e1]
      exact Dp⟩⟩
    | (t + 7),hi=>exact absurd hi (Nat.not_lt_zero i)
  have oE:∃o:Nat->Addr,o 1=D4/\o 2=D5/\o 3=D6/\o 4=D1/\o 5=D2/\o 6=D3:=
   ⟨λt=>match t with
    | 1=>D4
    | 2=>D5
    | 3=>D6
    | 4=>D1
    | 5=>D2
    | _=>D3,rfl,rfl,rfl,rfl,rfl,rfl⟩
  obtain⟨o,o1,o2,o3,o4,o5,o6⟩:=oE
  ac_rfl
  have rf:∀{A:List Addr} {n:Nat} {H0 H':Hp} {D:Addr} {ct:Nat->Hp->HO->Prop} (t:Nat),p8 H0 H' D A n ct->nt.n t=n->(∀i,ad t i=A.getD i 0)->A.map V.ref=j4 nt.n ad t:=λ{A n H0 H' D ct} t h e1 e2=>by
   unfold j4
   rw[e1]
   apply List.ext_getElem (by simp[h.len])
   intro j h1 h2
   have hj:j < A.length:=by simpa using h1
   simp only[List.getElem_map,List.getElem_range,e2]
   congr 1
   exact(getD_at (cA hj)).symm
  have PD:∀{A:List Addr} {n:Nat} {H0:Hp} {D:Addr} {ct:Nat->Hp->HO->Prop} (t s:Nat),p8 H0 GF D A n ct->nt.n t=n->(∀i,ad t i=A.getD i 0)->sg t=s->(∀t' i,i < nt.n t'->sg t'=s->t'=t)->Hs s D=none->Hs (s + 1) D≠none->¬FP nt.n ad D:=λ{A n H0 D ct} t s h e1 e2 e3 e4 h0 h1=>by
   refine Ju s D h0 h1 (λt' i hi es z=>?_)
   have:=e4 t' i hi es
   subst this
   rw[e1] at hi
   rw[e2] at z
   exact(h.new _ (List.mem_of_getElem? (gx h i hi).1)).2 z
  have hT:cV F GF d (.ref tt) nt (RS.new nt) ad:=by
   refine⟨⟨o,?_,nF d rX,?_,?_⟩,cH,⟨ls,hN.cv ?_⟩,bf⟩
   ·rw[edF,Hk,K4,o1,o2,o3,o4,o5,o6]
   ·rintro⟨t,i,hi,z⟩
    have:=F0 t i hi
    rw[<-z] at this
    have h0:Hs 0 d≠none:=by rw[q0,ed0];simp
    have h1:=up (sg t) 0 d h0
    rw[Nat.zero_add] at h1
    exact h1 this
   ·intro t sE YQ
    match t,sE,YQ with
    | 1,_,_=>exact⟨by rw[o1,TX,rf 1 ze rfl eY],by rw[o1];exact nF _ (S4.free Vu),by rw[o1];exact PD 1 3 ze rfl eY T5 (λt' i hi es=>by rw[<-JK t' i hi,es,gi1]) (by rw[q3];exact Vu) (by rw[q4,F8];simp)⟩
    | 2,_,_=>exact⟨by rw[o2,TY,rf 2 xq rfl gH],by rw[o2];exact nF _ (S5.free Vx),by rw[o2];exact PD 2 4 xq rfl gH T6 (λt' i hi es=>by rw[<-JK t' i hi,es,ZS]) (by rw[q4];exact Vx) (by rw[q5,ue];simp)⟩
    | 3,_,_=>exact⟨by rw[o3,T4,rf 3 zf rfl xb],by rw[o3];exact nF _ (S6.free VA),by rw[o3];exact PD 3 5 zf rfl xb T7 (λt' i hi es=>by rw[<-JK t' i hi,es,gi3]) (by rw[q5];exact VA) (by rw[q6,F9];simp)⟩
    | 4,_,_=>exact⟨by rw[o4,TM,rf 4 zb rfl xc],by rw[o4];exact nF _ (Ol.free Vn),by rw[o4];exact PD 4 0 zb rfl xc T8 (λt' i hi es=>by rw[<-JK t' i hi,es,gi4]) (by rw[q0];exact Vn) (by rw[q1,F5];simp)⟩
    | 5,_,_=>exact⟨by rw[o5,TQ,rf 5 zc rfl xf],by rw[o5];exact nF _ (S2.free OT),by rw[o5];exact PD 5 1 zc rfl xf T9 (λt' i hi es=>by rw[<-JK t' i hi,es,gi5]) (by rw[q1];exact OT) (by rw[q2,F6];simp)⟩
    | 6,_,_=>exact⟨by rw[o6,TU,rf 6 zd rfl xg],by rw[o6];exact nF _ (S3.free OU),by rw[o6];exact PD 6 2 zd rfl xg Ua (λt' i hi es=>by rw[<-JK t' i hi,es,gi6]) (by rw[q2];exact OU) (by rw[q3,F7];simp)⟩
    | (t + 7),_,h=>exact absurd h (by omega)
   ·intro b o' e n
    obtain⟨z1,z2⟩:=cS e n
    rw[fZ]
    ·exact SF _ _ z2
    ·rintro(z | z)
     ·exact z1 z
     ·rw[fresh b z] at z2;cases z2
  have h7F:=h7.aI SF.aQ
  left
  refine cJ (SF _ _ g1) (ax (j:=2) rfl) (.inl ⟨⟨_,aP.of (SF _ _ g4)⟩,jq (K:=K) (xs:=lv) (λi σ H'=>(∃z2 z3,σ=[some (V.ref tt),some (V.ref d),z2,z3])/\Fr (FP nt.n ad) GF H'/\cV F H' d (.ref tt) nt ((RS.new nt).oj (ls.take i)) ad) ?_ ?_ ?_ ?_⟩)
  ·exact⟨⟨_,_,rfl⟩,Fr.refl,hT⟩
  ·rintro i σ H' hi ⟨_,fi,_⟩
   exact aP.of (fi.at (SF _ _ g4) (λz=>by rw[fresh _ z] at g4;cases g4))
  ·intro i z σ H' hzz ZT
   nofun
   obtain⟨⟨z2,z3,rfl⟩,fi,AO⟩:=ZT
   have sI:i < ls.length:=by rw[<-wG];exact(List.getElem?_eq_some_iff.mp hzz).1
   have Ub:ls[i]?=some ls[i]:=cA sI
   have Fv:=(h7F.2 i z (mh ls[i]) hzz (by rw[List.getElem?_map,Ub];rfl)).aI fi.aQ
   have FF:=tH _ (List.getElem_mem sI)
   have Jq:(RS.new nt).oj (ls.take (i + 1))=((RS.new nt).oj (ls.take i)).put ls[i].1.toNat ls[i].2 none:=by
    rw[List.take_succ,Ub]
    exact oU _
   have yW:=(qu (ls.take i) (yY bf)).mono (show _<=19998 by simp;omega)
   generalize ls[i]=p at *
   obtain⟨pj,px⟩:=p
   obtain⟨tz,u1,u2,kz,rfl,zR,y1,y2⟩:=cy Fv
   obtain rfl:=y1.bS
   obtain rfl:=y2.bS
   have Uc:=FF.1
   have ZU:=FF.2
   simp only at Uc ZU
   have ej:((pj.toNat:Nat):Int)=pj:=Int.toNat_of_nonneg Uc
   have qt:pj.toNat < nt.ws.length:=by omega
   generalize hri:(RS.new nt).oj (ls.take i)=ri at *
   ac_rfl
   refine wb (bJ.of zR) ?_
   nofun
   obtain⟨oi,TF,nFi,ZH,TH⟩:=AO.dk
   have ZI:=TH 4 (by decide) (by decide)
   have TJ:=TH 5 (by decide) (by decide)
   have bi:=AO.cH
   obtain⟨w4,x4,y4⟩:=bi.lst (t:=4) (i:=pj.toNat) qt rfl
   ac_rfl
   have l4:w4.length=(ri.ww pj.toNat).say.length:=by simpa using y4.1
   have hb4:=yW.bs _ qt
   have hb5:=yW.ls _ qt
   left
   refine bx _ (y0 TF) ?_
   left
   have ra:gB (j4 nt.n ad 4) pj=some (.ref (ad 4 pj.toNat)):=by have:=aW (n:=nt.n) (ad:=ad) (t:=4) qt;rw[ej] at this;exact this
   have rb:gB (j4 nt.n ad 5) pj=some (.ref (ad 5 pj.toNat)):=by have:=aW (n:=nt.n) (ad:=ad) (t:=5) qt;rw[ej] at this;exact this
   refine bu ZI.1 ra ?_
   refine⟨.inl ⟨rfl,_,aP.of x4⟩,?_⟩
   left
   refine gc w4 x4 (small (by omega)) ?_
   have bj:=bi.app (t:=4) (i:=pj.toNat) qt rfl x4 (c9.one (.int px))
   have fj:Fr (FP nt.n ad) H' (upd H' (ad 4 pj.toNat) (.lst (w4++[.int px]))):=Fr.refl.upd ⟨4,pj.toNat,qt,rfl⟩ x4 trivial
   generalize hGj:upd H' (ad 4 pj.toNat) (.lst (w4++[.int px]))=Hj at *
   obtain⟨w5,x5,y5⟩:=bj.lst (t:=5) (i:=pj.toNat) qt rfl
   have l5:w5.length=(ri.ww pj.toNat).snd.length:=by simpa using y5.1
   left
   refine bx _ (Jv (fj.at TF ZH)) ?_
   left
   refine bu (fj.at TJ.1 TJ.2.2) rb ?_
   refine⟨.inl ⟨rfl,_,aP.of x5⟩,?_⟩
   left
   refine gc w5 x5 (small (by omega)) ?_
   have bk:=bj.app (t:=5) (i:=pj.toNat) qt rfl x5 (c9.one (show HD _ 4 .bR (tN none) from .bR))
   have fk:Fr (FP nt.n ad) H' (upd Hj (ad 5 pj.toNat) (.lst (w5++[.bR]))):=fj.upd ⟨5,pj.toNat,qt,rfl⟩ x5 trivial
   left
   refine gK ⟨_,_,rfl,rfl⟩ (fi.trans fk) ?_
   rw[Jq]
   exact AO.own fk (bk.congr FY)
  ·intro σ H' ZV
   nofun
   obtain⟨⟨z2,z3,rfl⟩,fi,AO⟩:=ZV
   ac_rfl
   left
   rw[wG,List.take_length] at AO
   refine q d ad H' (λb o e=>?_) fresh rX AO
   exact fi.at (SF _ _ e) (λz=>by rw[fresh b z] at e;cases e)
theorem jD {K:W.Frag}{H:Hp}{n:Nat}{x:V}{d:DV}(h:HD H n x d):∀{m:Nat} {y:V} {k:Nat},HD H m y d->rV d->n < k->km K H k x y:=by
 induction h with
 | bR=>intro m y k h _ hk;cases h;obtain⟨j,rfl⟩:∃j,k=j + 1:=⟨k - 1,by omega⟩;exact .inl ⟨rfl,rfl⟩
 | bl b=>intro m y k h nb hk;cases nb
 | int i=>intro m y k h _ hk;cases h;obtain⟨j,rfl⟩:∃j,k=j + 1:=⟨k - 1,by omega⟩;exact .inl ⟨rfl,rfl⟩
 | str i=>intro m y k h _ hk;cases h;obtain⟨j,rfl⟩:∃j,k=j + 1:=⟨k - 1,by omega⟩;exact .inl ⟨rfl,rfl⟩
 | @tup n a xs ds e l i ih=>
  intro m y k h nb hk
  obtain⟨j,rfl⟩:∃j,k=j + 1:=⟨k - 1,by omega⟩
  cases nb with
  | tup nb=>
  cases h with
  | @tup m b ys _ e' l' i'=>
   refine .inr ⟨a,b,xs,ys,rfl,rfl,.inl ⟨bJ.of e,bJ.of e'⟩,l.trans l'.symm,λp u v hu hv=>?_⟩
   have hp:p < ds.length:=by rw[<-l];exact(List.getElem?_eq_some_iff.mp hu).1
   exact ih p u ds[p] hu (cA hp) (i' p v ds[p] hv (cA hp)) (nb _ (List.getElem_mem hp)) (by omega)
 | @lst n a xs ds e l i ih=>
  intro m y k h nb hk
  obtain⟨j,rfl⟩:∃j,k=j + 1:=⟨k - 1,by omega⟩
  cases nb with
  | lst nb=>
  cases h with
  | @lst m b ys _ e' l' i'=>
   refine .inr ⟨a,b,xs,ys,rfl,rfl,.inr ⟨aP.of e,aP.of e'⟩,l.trans l'.symm,λp u v hu hv=>?_⟩
   have hp:p < ds.length:=by rw[<-l];exact(List.getElem?_eq_some_iff.mp hu).1
   exact ih p u ds[p] hu (cA hp) (i' p v ds[p] hv (cA hp)) (nb _ (List.getElem_mem hp)) (by omega)
 | dict e=>intro m y k h nb hk;cases nb
theorem Gd (p:Int×Int):rV (pairD p):=.tup λe he=>by
 simp at he
 rcases he with rfl | rfl <;> exact .int _
theorem lD {α:Type}{l:List α}{f:α->Int×Int}:rV (.lst (l.map λx=>pairD (f x))):=.lst λe he=>by
 obtain⟨z,_,rfl⟩:=List.mem_map.mp he
 exact Gd _
theorem qy (n:Nat):List.replicate n (V.bl false)=(List.replicate n false).map V.bl:=by simp
abbrev il:Stmt:=top 61
def Ge:Sp:=λvs H Q _=>∃(lf ld:Addr) (ns:List Int),vs=[.ref lf,.ref ld]/\H lf=some (.lst (ns.map V.int))/\H ld=some (.lst (ns.map V.int))/\ns.length<=15000/\∀H',av H H'->Q (.bl true) H'
theorem rP (D:dH K mg "_law_is_words" "_law_is_words" il ["_law_found","_law_due"])(T:Tx K mg C CN CR F FD):Def P w K mg base "_law_is_words" 1 ["_law_found","_law_due"] Ge:=by
 have sc:aD ["_law_found","_law_due"] ["_law_found","_law_due"] (az il):=by walk_at "s"
 symm
 ·obtain⟨lf,ld,ns,rfl,hf,qg,hl,q⟩:=h
  rfl
 ·nofun
  obtain⟨lf,ld,ns,rfl,hf,qg,hl,q⟩:=h
  ac_rfl
  have hu:=hr.units
  refine⟨_,(aj (aS (PW.pt (pw_or (bT (bb (aT cw rfl T.aK nN (ai (au 0) (ai (bO (v:=.ty "list") rfl T.dI um rfl) aa))))) (pw_or1 (aA (dG hu) (au 0) (au 1) (aC _))))) (ao (aE eV)) aG)
   (ao (aE (xM (aT (lA rfl) rfl T.wd Hn (ai (cW (N':=["_law_one"]) (ix:=[none]) (bU (pv 0)) (λ_ _ _ _=>(aU (i:=0) (show(["_law_one"]:List Str).Nodup by decide +kernel) rfl (by grind))) lC (λ_ _ _ _=>(aT (fm (K:=K) rfl) rfl T.aK nN (ai (au 0) (ai (bO (v:=.ty "bool") rfl T.jP JR rfl) aa))))) aa)))))),?_⟩
  left
  refine ck _ true (.lst hf) rfl ?_
  try simp only[Bool.not_true,Bool.false_eq_true,if_false]
  left
  refine .inl ⟨jD (eB hf (c9.ints (n:=1) ns)) (eB qg (c9.ints (n:=1) ns)) jC (by decide),?_⟩
  left
  try rw[if_neg (by decide)]
  left
  refine bF ?_
  left
  refine .inl ⟨⟨_,aP.of hf⟩,λD hD=>?_⟩
  refine aZ (J:=qB K lf) (n:=(ns.map V.int).length) (λi zs H'=>zs=List.replicate i (V.bl false)/\av H H') (Nat.le_of_lt (small (by simp;omega))) ⟨rfl,av.new _ hD⟩ ?_ ?_ ?_ ?_
  ·rintro i zs H' iH ⟨_,s1⟩
   exact⟨_,(ns.map V.int)[i],aP.of (s1 _ _ hf),cA iH⟩
  ·rintro zs H' ⟨_,s1⟩
   exact⟨_,aP.of (s1 _ _ hf),Nat.le_refl _⟩
  ·intro i zs H' iH gj gV iV x H5 iW
   nofun
   obtain⟨rfl,s1⟩:=iV
   obtain⟨rfl,hy⟩:=iW
   ac_rfl
   have ex:=hy _ (aP.of (s1 _ _ hf))
   walk_at "xf"
   left
   try rw[if_pos trivial]
   have Ud:∃z,x=.int z:=by
    rw[List.getElem?_map] at ex
    nofun
    obtain⟨z,_,rfl⟩:=Option.map_eq_some_iff.mp ex
    ac_rfl
    exact⟨z,rfl⟩
   obtain⟨z,rfl⟩:=Ud
   refine ck _ false (.int _) rfl ?_
   refine bP gj gV iH (Nat.le_of_lt (small (by simp;omega))) ⟨eN _ _,λb o e=>?_⟩
   rw[ay (aq e hD)]
   exact s1 _ _ e
  rintro zs H2 gj gV ⟨rfl,s2⟩
  rw[qy] at gj
  left
  refine bx _ (aP.of gj) ?_
  rw[show(List.replicate (ns.map V.int).length false).any id=false by simp]
  clear gj gV
  try simp only[Bool.not_false]
  exact q _ s2
abbrev ip:Stmt:=top 62
def Gf:Sp:=λvs H Q _=>∃(x y:V) (ns row:List Int) (m:Nat),vs=[x,y]/\HT H 2 x (vo ns row)/\HT H m y (vo ns row)/\ns.length<=4/\row.length<=12/\∀H',av H H'->Q (.bl true) H'
theorem rQ (D:dH K mg "_law_is_state" "_law_is_state" ip ["_law_found","_law_due"])(T:Tx K mg C CN CR F FD):Def P w K mg base "_law_is_state" 1 ["_law_found","_law_due"] Gf:=by
 have sc:aD ["_law_found","_law_due","_law_part"] ["_law_found","_law_due"] (az ip):=by walk_at "s"
 symm
 ·obtain⟨x,y,ns,row,m,rfl,hf,qg,wq,yg,q⟩:=h
  rfl
 ·nofun
  obtain⟨x,y,ns,row,m,rfl,hf,qg,wq,yg,q⟩:=h
  ac_rfl
  have hu:=hr.units
  refine⟨_,(aj (aS (PW.pt (pw_or (bT (bb (aT cw rfl T.aK nN (ai (au 0) (ai (bO (v:=.ty "tuple") rfl T.cu qe rfl) aa))))) (pw_or (aA (dG hu) (aT aM rfl T.cm PySem.boot_len (ai (au 0) aa)) ag (aC _)) (pw_or1 (aA (dG hu) (au 0) (au 1) (aC _)))))) (ao (aE eV)) aG)
   (aj (eZ PassesOwn.never rfl (bU (pv 0)) (aU (i:=2) sc.nd rfl (by grind))
   (ao (aS (PW.pt (pw_or (bT (bb (aT cw rfl T.aK nN (ai (au 2) (ai (bO (v:=.ty "tuple") rfl T.cu qe rfl) aa))))) (pw_or1 (bb (aT (lA rfl) rfl T.wd Hn (ai (cW (N':=["_law_one"]) (ix:=[none]) (bU (pv 2)) (λ_ _ _ _=>(aU (i:=0) (show(["_law_one"]:List Str).Nodup by decide +kernel) rfl (by grind))) lC (λ_ _ _ _=>(aT (fm (K:=K) rfl) rfl T.aK nN (ai (au 0) (ai (bO (v:=.ty "bool") rfl T.jP JR rfl) aa))))) aa)))))) (ao (aE eV)) aG)))
   (ao (aE eV)))),?_⟩
  nofun
  obtain⟨a,u1,u2,k1,rfl,ha,g1,g2⟩:=cy hf
  obtain⟨t1,rfl,e1⟩:=qk g1
  obtain⟨t2,rfl,e2⟩:=qk g2
  ac_rfl
  left
  refine ck _ true (.tup ha) rfl ?_
  try simp only[Bool.not_true,Bool.false_eq_true,if_false]
  left
  refine bx _ (.inr ⟨_,bJ.of ha,rfl⟩) ?_
  rw[if_neg (by simp)]
  nofun
  obtain⟨c,w1,w2,k2,rfl,hc,_,_⟩:=cy qg
  ac_rfl
  left
  refine .inl ⟨zX hf qg (by decide),?_⟩
  left
  try rw[if_neg (by decide)]
  left
  refine⟨_,rfl,.inr ⟨⟨_,bJ.of ha⟩,Hz (K:=K) (xs:=[.ref t1,.ref t2]) (λi σ H'=>(∃z2,σ=[some (V.ref a),some (V.ref c),z2])/\av H H') ?_ ?_ ?_ ?_⟩⟩
  ·exact⟨⟨_,rfl⟩,av.refl H⟩
  ·rintro i σ H' hi ⟨_,s1⟩
   exact bJ.of (s1 _ _ ha)
  ·intro i x σ Hq hx mf
   nofun
   obtain⟨⟨z2,rfl⟩,s1⟩:=mf
   have XZ:∃(t':Addr) (ks:List Int),x=.ref t'/\Hq t'=some (.tup (ks.map V.int))/\ks.length<=12:=by
    match i,hx with
    | 0,hx=>simp at hx;subst hx;exact⟨t1,ns,rfl,s1 _ _ e1,by omega⟩
    | 1,hx=>simp at hx;subst hx;exact⟨t2,row,rfl,s1 _ _ e2,by omega⟩
    | (n + 2),hx=>simp at hx
   obtain⟨t',ks,rfl,xm,hks⟩:=XZ
   ac_rfl
   left
   refine ck _ true (.tup xm) rfl ?_
   try simp only[Bool.not_true,Bool.false_eq_true,if_false]
   left
   refine bF ?_
   left
   refine .inr ⟨⟨_,bJ.of xm⟩,λD hD=>?_⟩
   refine aZ (J:=Hy K t') (n:=(ks.map V.int).length) (λi zs H'=>zs=List.replicate i (V.bl false)/\av Hq H') (Nat.le_of_lt (small (by simp;omega))) ⟨rfl,av.new _ hD⟩ ?_ ?_ ?_ ?_
   ·rintro i zs H' iH ⟨_,s1⟩
    exact⟨_,(ks.map V.int)[i],bJ.of (s1 _ _ xm),cA iH⟩
   ·rintro zs H' ⟨_,s1⟩
    exact⟨_,bJ.of (s1 _ _ xm),Nat.le_refl _⟩
   ·intro i zs H' iH gj gV oB x H5 pW
    nofun
    obtain⟨rfl,s1⟩:=oB
    obtain⟨rfl,hy⟩:=pW
    ac_rfl
    have ex:=hy _ (bJ.of (s1 _ _ xm))
    walk_at "xf"
    left
    try rw[if_pos trivial]
    have Ud:∃z,x=.int z:=by
     rw[List.getElem?_map] at ex
     nofun
     obtain⟨z,_,rfl⟩:=Option.map_eq_some_iff.mp ex
     ac_rfl
     exact⟨z,rfl⟩
    obtain⟨z,rfl⟩:=Ud
    refine ck _ false (.int _) rfl ?_
    refine bP gj gV iH (Nat.le_of_lt (small (by simp;omega))) ⟨eN _ _,λb o e=>?_⟩
    rw[ay (aq e hD)]
    exact s1 _ _ e
   rintro zs H2 gj gV ⟨rfl,s2⟩
   rw[qy] at gj
   left
   refine bx _ (aP.of gj) ?_
   rw[show(List.replicate (ks.map V.int).length false).any id=false by simp]
   clear gj gV
   try rw[if_neg (by decide)]
   left
   exact⟨⟨_,rfl⟩,s1.trans s2⟩
  ·intro σ H' uW
   nofun
   obtain⟨⟨z2,rfl⟩,s1⟩:=uW
   ac_rfl
   left
   exact q _ s1
structure vg (C CN CR:Addr)(F1 F2:Addr->Prop)(H:Hp)(x bA d:Addr)(tn:V)(nt:NT)(r:RS)(eY gH:Nat->Nat->Addr):Prop where
 run:cE C CN CR F1 H x bA nt r eY
 twin:cV F2 H d tn nt r gH
 ok:r.Ok nt
 Ia:r.picks.length<=400
theorem vg.same{C CN CR:Addr}{F1 F2:Addr->Prop}{x d:Addr}{tn:V}{nt:NT}{eY gH:Nat->Nat->Addr}(h:vg C CN CR F1 F2 H x bA d tn nt r eY gH)(s:av H H'):vg C CN CR F1 F2 H' x bA d tn nt r eY gH:=⟨h.run.same s,h.twin.same s,h.ok,h.Ia⟩
theorem cV.words{F:Addr->Prop}{d:Addr}{tn:V}{nt:NT}(h:cV F H d tn nt r ad)(ok:r.Ok nt){m:Nat}(hm:m < nt.ms.length):∃v2 lw,H (ad 2 m)=some (.lst v2)/\gB v2 (-1)=some (.ref lw)/\H lw=some (.lst (((r.mm m).wp.bg []).map V.int)):=by
 obtain⟨v2,e2,d2⟩:=h.cH.lst (t:=2) (i:=m) hm rfl
 have z2:v2.length=(r.mm m).wp.length:=by simpa using d2.1
 have h1:=ok.uU hm
 have h2:=ok.lw m hm
 obtain⟨v,ev,dv⟩:=d2.get (i:=(r.mm m).wp.length - 1) (d:=.lst (((r.mm m).wp.bg []).map .int)) (by rw[List.getElem?_map,jy (d:=[]) (by omega)];rfl)
 obtain⟨a,rfl,ea⟩:=qw (dv.cv dW)
 exact⟨v2,a,e2,jX (by omega) (by rw[z2];exact ev),ea⟩
abbrev eR:Stmt:=top 63
inductive Ld (C CN CR:Addr)(vs:List V)(H:Hp)(Q:VK):Prop
 | mk (F1 F2:Addr->Prop) (x bA d:Addr) (tn:V) (nt:NT) (r:RS) (eY gH:Nat->Nat->Addr) (m:Nat) (h0:vs=[.ref x,.ref d,.int (m:Nat)]) (h1:vg C CN CR F1 F2 H x bA d tn nt r eY gH) (h2:m < nt.ms.length) (h3:∀H',av H H'->Q (.bl true) H'):Ld C CN CR vs H Q
def Gg (C CN CR:Addr):Sp:=λvs H Q _=>Ld C CN CR vs H Q
theorem lH (D:dH K mg "_law_machine_right" "_law_machine_right" eR ["_law_run","_law_twin","_law_m"])(T:Tx K mg C CN CR F FD)(iq:Def P w K mg base "_law_is_state" 1 ["_law_found","_law_due"] Gf)(fN:Def P w K mg base "_law_is_words" 1 ["_law_found","_law_due"] Ge)(iO:cB P w K mg base CR "count" 4 ["self","m"] (Fl C CN CR))(fu:cB P w K mg base CR "state" 4 ["self","m"] (Fj C CN CR))(iP:cB P w K mg base CR "words" 4 ["self","m"] (Fm C CN CR)):Def P w K mg base "_law_machine_right" 5 ["_law_run","_law_twin","_law_m"] (Gg C CN CR):=by
 have sc:aD ["_law_run","_law_twin","_law_m","_law_many","_law_told"] ["_law_run","_law_twin","_law_m"] (az eR):=by walk_at "s"
 symm
 ·obtain⟨F1,F2,x,bA,d,tn,nt,r,eY,gH,m,rfl,hB,hm,q⟩:=h
  rfl
 ·nofun
  obtain⟨F1,F2,x,bA,d,tn,nt,r,eY,gH,m,rfl,hB,hm,q⟩:=h
  ac_rfl
  have hu:=hr.units
  refine⟨_,(aj (ba (i:=3) sc.nd rfl (by grind) (aT aM rfl T.cm PySem.boot_len (ai (ak hu (ak hu (au 1) aB) (au 2)) aa)))
   (aj (aS (PW.pt (pw_or (bb (aT cw rfl T.aK nN (ai (dE iO T.aR hr (au 0) (ai (au 2) aa)) (ai (bO (v:=.ty "bool") rfl T.jP JR rfl) aa)))) (pw_or (aA (dG hu) (dE iO T.aR hr (au 0) (ai (au 2) aa)) (au 3) (aC _)) (pw_or1 (bT (bb (aN iq hr (ai (dE fu T.aR hr (au 0) (ai (au 2) aa)) (ai (ak hu (ak hu (ak hu (au 1) aB) (au 2)) (js fU ag)) aa))))))))) (ao (aE eV)) aG)
   (aj (ba (i:=4) sc.nd rfl (by grind) (dE iP T.aR hr (au 0) (ai (au 2) aa)))
   (aj (aS (bT (bb (aN fN hr (ai (au 4) (ai (ak hu (ak hu (ak hu (au 1) aB) (au 2)) (js fU ag)) aa))))) (ao (aE eV)) aG)
   (aj (bY (du lO nQ nR bV (au 4) (ai ag aa)))
   (ao (aE (aN fN hr (ai (dE iP T.aR hr (au 0) (ai (au 2) aa)) (ai (ak hu (ak hu (ak hu (au 1) aB) (au 2)) (js fU ag)) aa)))))))))),?_⟩
  nofun
  obtain⟨dx,o,hx,ho⟩:=hB.run.ins
  obtain⟨o',hd,nF,nP,mW⟩:=hB.twin.dk
  obtain⟨v3,e3,d3⟩:=hB.twin.cH.lst (t:=3) (i:=m) hm rfl
  ac_rfl
  have z3:v3.length=(r.mm m).hr.length:=by simpa using d3.1
  have hlh:=hB.ok.lh m hm
  have qA:=hB.ok.last hm
  have Fq:=hB.twin.ok.gd hm
  left
  refine bx _ (FG hd) ?_
  left
  refine bu (mW 3 (by decide) (by decide)).1 (aW hm) ?_
  refine bx _ (.inl ⟨_,aP.of e3,rfl⟩) ?_
  left
  refine dP hx (dS (by decide +kernel)) ?_
  refine⟨_,x,bA,nt,r,eY,m,rfl,hB.run,hm,?_⟩
  left
  refine ck _ false (.int _) rfl ?_
  try rw[if_neg (by decide)]
  left
  refine dP hx (dS (by decide +kernel)) ?_
  refine⟨_,x,bA,nt,r,eY,m,rfl,hB.run,hm,?_⟩
  left
  rw[if_neg (by simp;omega)]
  left
  refine dP hx (dS (by decide +kernel)) ?_
  refine⟨_,x,bA,nt,r,eY,m,rfl,hB.run,hB.ok,hm,λsv KC=>?_⟩
  refine bx _ (Jw hd) ?_
  obtain⟨v1,e1,d1⟩:=hB.twin.cH.lst (t:=1) (i:=m) hm rfl
  have z1:v1.length=(r.mm m).gE.length:=by simpa using d1.1
  have h1:=hB.ok.uU hm
  left
  refine bu (mW 1 (by decide) (by decide)).1 (aW hm) ?_
  obtain⟨v,ev,dv⟩:=d1.get (i:=(r.mm m).gE.length - 1) (d:=pU ((r.mm m).gE.bg ([],[]))) (by rw[List.getElem?_map,jy (d:=([],[])) h1];rfl)
  refine bu e1 (jX (by omega) (by rw[z1];exact ev)) ?_
  refine Rl sv v _ _ 2 rfl KC (Fi (dv.cv dW)) (by rw[qA.ln];exact Fq.l4) qA.lr (λH1 s1=>?_)
  refine sC ?_
  rw[if_neg (by decide)]
  have hbw:=hB.ok.bw m hm _ (gb (l:=(r.mm m).wp) (d:=[]) (by rw[<-hB.ok.lw m hm];exact h1))
  have sh:=hB.Ia
  left
  refine dP (s1 _ _ hx) (dS (by decide +kernel)) ?_
  refine⟨_,x,bA,nt,r,eY,m,rfl,hB.run.same s1,hm,λl1 wq=>?_⟩
  have R9:H l1=none:=s1.free wq
  have s2:=s1.trans (av.new (.lst (((r.mm m).wp.bg []).map V.int)) wq)
  have el1:upd H1 l1 (.lst (((r.mm m).wp.bg []).map V.int)) l1=some (.lst (((r.mm m).wp.bg []).map V.int)):=af
  generalize Vg:upd H1 l1 (.lst (((r.mm m).wp.bg []).map V.int))=H2 at *
  left
  refine bx _ (Jx (s2 _ _ hd)) ?_
  nofun
  obtain⟨v21,lw1,e21,at1,ZW⟩:=(hB.twin.same s2).words hB.ok hm
  ac_rfl
  left
  refine bu (s2 _ _ (mW 2 (by decide) (by decide)).1) (aW hm) ?_
  refine bu e21 at1 ?_
  refine Xk l1 lw1 _ rfl el1 ZW (by omega) (λH3 yS=>?_)
  refine sC ?_
  rw[if_neg (by decide)]
  have el3:=yS _ _ el1
  left
  refine⟨.inl ⟨rfl,_,aP.of el3⟩,?_⟩
  left
  refine gc _ el3 (small (by simp;omega)) ?_
  have s4:av H (upd H3 l1 (.lst (((r.mm m).wp.bg []).map V.int++[.int 1]))):=λb o e=>by rw[ay (aq e R9)];exact yS _ _ (s2 _ _ e)
  generalize O0:upd H3 l1 (.lst (((r.mm m).wp.bg []).map V.int++[.int 1]))=H4 at *
  left
  refine dP (s4 _ _ hx) (dS (by decide +kernel)) ?_
  refine⟨_,x,bA,nt,r,eY,m,rfl,hB.run.same s4,hm,λl5 RH=>?_⟩
  have fl5:H l5=none:=s4.free RH
  have s5:=s4.trans (av.new (.lst (((r.mm m).wp.bg []).map V.int)) RH)
  have el5:upd H4 l5 (.lst (((r.mm m).wp.bg []).map V.int)) l5=some (.lst (((r.mm m).wp.bg []).map V.int)):=af
  generalize NC:upd H4 l5 (.lst (((r.mm m).wp.bg []).map V.int))=H5 at *
  left
  refine bx _ (Jx (s5 _ _ hd)) ?_
  nofun
  obtain⟨v25,lw5,Hg,at5,ZX⟩:=(hB.twin.same s5).words hB.ok hm
  ac_rfl
  left
  refine bu (s5 _ _ (mW 2 (by decide) (by decide)).1) (aW hm) ?_
  refine bu Hg at5 ?_
  exact⟨l5,lw5,_,rfl,el5,ZX,by omega,λH6 s6=>q _ (s5.trans s6)⟩
abbrev gN:Stmt:=top 64
inductive Le (C CN CR:Addr)(vs:List V)(H:Hp)(Q:VK):Prop
 | mk (F1 F2:Addr->Prop) (x bA d:Addr) (tn:V) (nt:NT) (r:RS) (eY gH:Nat->Nat->Addr) (m:Nat) (h0:vs=[.ref x,.ref d,.int (m:Nat)]) (h1:vg C CN CR F1 F2 H x bA d tn nt r eY gH) (h2:m < nt.ws.length) (h3:∀H',av H H'->Q (.bl true) H'):Le C CN CR vs H Q
def Gh (C CN CR:Addr):Sp:=λvs H Q _=>Le C CN CR vs H Q
theorem p9 (D:dH K mg "_law_way_right" "_law_way_right" gN ["_law_run","_law_twin","_law_way"])(T:Tx K mg C CN CR F FD)(fw:Def P w K mg base "_law_lying" 1 ["_law_run","_law_way"] y6)(iQ:cB P w K mg base CR "lying" 4 ["self","way"] (KO C CN CR))(ir:cB P w K mg base CR "put_many" 4 ["self","way"] (KH C CN CR))(mH:cB P w K mg base CR "said" 5 ["self","way","number"] (AA C CN CR)):Def P w K mg base "_law_way_right" 6 ["_law_run","_law_twin","_law_way"] (Gh C CN CR):=by
 have sc:aD ["_law_run","_law_twin","_law_way","_law_due","_law_told","_law_many","_law_says"] ["_law_run","_law_twin","_law_way"] (az gN):=by walk_at "s"
 symm
 ·obtain⟨F1,F2,x,bA,d,tn,nt,r,eY,gH,m,rfl,hB,hm,q⟩:=h
  rfl
 ·nofun
  obtain⟨F1,F2,x,bA,d,tn,nt,r,eY,gH,m,rfl,hB,hm,q⟩:=h
  ac_rfl
  have hu:=hr.units
  refine⟨_,(aj (fC (i:=3) sc.nd rfl (by grind) (N':=["_law_number","_law_way","_law_twin"]) (ix:=[none,some 2,some 1]) (bU (aN fw hr (ai (au 1) (ai (au 2) aa)))) (λ_ _ _ _=>(aU (i:=0) (show(["_law_number","_law_way","_law_twin"]:List Str).Nodup by decide +kernel) rfl (by grind))) lC (λ_ _ _ _=>(bC (ai (au 0) (ai (dC (K:=K) rfl hu (dC (K:=K) rfl hu (dC (K:=K) rfl hu (au 2) aB) (au 1)) (au 0)) aa)))))
   (aj (ba (i:=4) sc.nd rfl (by grind) (dE iQ T.aR hr (au 0) (ai (au 2) aa)))
   (aj (aS (PW.pt (pw_or (bT (bb (aT cw rfl T.aK nN (ai (au 4) (ai (bO (v:=.ty "list") rfl T.dI um rfl) aa))))) (pw_or (aA (dG hu) (au 4) (au 3) (aC _)) (pw_or1 (bT (bb (aT (gY rfl) rfl T.qX Oy (ai (cW (N':=["_law_one"]) (ix:=[none]) (bU (pv 4)) (λ_ _ _ _=>(aU (i:=0) (show(["_law_one"]:List Str).Nodup by decide +kernel) rfl (by grind))) lC (λ_ _ _ _=>(aT (fm (K:=K) rfl) rfl T.aK nN (ai (au 0) (ai (bO (v:=.ty "tuple") rfl T.cu qe rfl) aa))))) aa)))))))) (ao (aE eV)) aG)
   (aj (aS (bb (aT (lA rfl) rfl T.wd Hn (ai (cW (N':=["_law_one"]) (ix:=[none]) (bU (pv 4)) (λ_ _ _ _=>(aU (i:=0) (show(["_law_one"]:List Str).Nodup by decide +kernel) rfl (by grind))) lC (λ_ _ _ _=>(Qc (aT (fm (K:=K) rfl) rfl T.aK nN (ai (dC (K:=K) rfl hu (au 0) ag) (ai (bO (v:=.ty "bool") rfl T.jP JR rfl) aa))) (iR (aT (fm (K:=K) rfl) rfl T.aK nN (ai (dC (K:=K) rfl hu (au 0) ag) (ai (bO (v:=.ty "bool") rfl T.jP JR rfl) aa))))))) aa))) (ao (aE eV)) aG)
   (aj (bY (du lO nQ nR bV (au 4) (ai (bC (ai ag (ai ag aa))) aa)))
   (aj (ba (i:=5) sc.nd rfl (by grind) (dE ir T.aR hr (au 0) (ai (au 2) aa)))
   (aj (aS (PW.pt (pw_or (aA (dG hu) (dE iQ T.aR hr (au 0) (ai (au 2) aa)) (au 3) (aC _)) (pw_or (bb (aT cw rfl T.aK nN (ai (au 5) (ai (bO (v:=.ty "bool") rfl T.jP JR rfl) aa)))) (pw_or1 (aA (dG hu) (au 5) (aT aM rfl T.cm PySem.boot_len (ai (ak hu (ak hu (au 1) aB) (au 2)) aa)) (aC _)))))) (ao (aE eV)) aG)
   (aj (fC (i:=6) sc.nd rfl (by grind) (N':=["_law_number","_law_way","_law_run"]) (ix:=[none,some 2,some 0]) (cY rfl T.eF (ai (au 5) aa)) (λ_ _ _ _=>(aU (i:=0) (show(["_law_number","_law_way","_law_run"]:List Str).Nodup by decide +kernel) rfl (by grind))) lC (λ_ _ _ _=>(dE mH T.aR hr (au 2) (ai (au 1) (ai (au 0) aa)))))
   (ao (aE (iS (gT (aV hu) (au 6) (ak hu (ak hu (au 1) aB) (au 2)) (aC _)) (iR (xM (aT (lA rfl) rfl T.wd Hn (ai (cW (N':=["_law_one"]) (ix:=[none]) (bU (pv 6)) (λ_ _ _ _=>(aU (i:=0) (show(["_law_one"]:List Str).Nodup by decide +kernel) rfl (by grind))) lC (λ_ _ _ _=>(aT (fm (K:=K) rfl) rfl T.aK nN (ai (au 0) (ai (bO (v:=.ty "bool") rfl T.jP JR rfl) aa))))) aa))))))))))))))),?_⟩
  nofun
  obtain⟨dx,o,hx,ho⟩:=hB.run.ins
  obtain⟨o',hd,nF,nP,mW⟩:=hB.twin.dk
  obtain⟨v4,e4,d4⟩:=hB.twin.cH.lst (t:=4) (i:=m) hm rfl
  have z4:=d4.jM
  subst z4
  ac_rfl
  have Yy:=hB.ok.bs m hm
  have sh:=hB.Ia
  have hly:=qv (r:=r) (w:=m)
  have ZY:∀k ∈ r.jE m,k < (r.ww m).say.length:=λk hk=>by
   unfold RS.jE at hk
   rw[List.mem_filter,List.mem_range] at hk
   exact hk.1
  left
  refine bF ?_
  left
  refine⟨_,d,_,nt,r,_,m,rfl,hB.twin,hB.ok,sh,hm,λll H1 s1 fll Oa=>?_⟩
  left
  refine .inl ⟨⟨_,aP.of Oa⟩,λD hD=>?_⟩
  refine aZ (J:=qB K ll) (n:=(r.jE m).length) (λi ys H'=>av H1 H'/\gh H' 1 ys (p7 r m ((r.jE m).take i))) (Nat.le_of_lt (small (by omega))) ⟨av.new _ hD,show gh _ 1 [] [] from gh.nil⟩ ?_ ?_ ?_ ?_
  ·rintro i ys H' hi ⟨s3,_⟩
   exact⟨_,_,aP.of (s3 _ _ Oa),by rw[List.getElem?_map,cA hi];rfl⟩
  ·rintro ys H' ⟨s3,_⟩
   exact⟨_,aP.of (s3 _ _ Oa),by simp⟩
  ·intro i ys H' hi bE hl iV xx H4 iW
   nofun
   obtain⟨s3,uX⟩:=iV
   obtain⟨rfl,hy⟩:=iW
   have ex:=hy _ (aP.of (s3 _ _ Oa))
   rw[List.getElem?_map,cA hi] at ex
   obtain rfl:=Option.some.inj ex
   ac_rfl
   have hk:=ZY _ (List.getElem_mem hi)
   walk_at "xf"
   left
   try rw[if_pos trivial]
   refine bx _ (y0 (s3 _ _ (s1 _ _ hd))) ?_
   left
   refine bu (s3 _ _ (s1 _ _ (mW 4 (by decide) (by decide)).1)) (aW hm) ?_
   refine bu (s3 _ _ (s1 _ _ e4)) (ax (j:=(r.jE m)[i]) (v:=.int ((r.ww m).say.getD (r.jE m)[i] 0)) (by rw[List.getElem?_map,bz (d:=0) hk];rfl)) ?_
   refine⟨cM,λt2 kr=>?_⟩
   have s6:=av.new (.tup [.int (((r.jE m)[i]:Nat):Int),.int ((r.ww m).say.getD (r.jE m)[i] 0)]) kr
   have rM:=s6 _ _ bE
   refine bP rM hl hi (Nat.le_of_lt (small (by omega))) ⟨λc o e=>by rw[ay (aq e hD)];exact s6 _ _ (s3 _ _ e),?_⟩
   have tu:bQ (upd H4 t2 (.tup [.int (((r.jE m)[i]:Nat):Int),.int ((r.ww m).say.getD (r.jE m)[i] 0)])) (upd (upd H4 t2 (.tup [.int (((r.jE m)[i]:Nat):Int),.int ((r.ww m).say.getD (r.jE m)[i] 0)])) D (.lst (ys++[.ref t2]))):=(bQ.refl _).upd λzs e=>by rw[rM] at e;cases e
   unfold p7
   rw[List.take_succ,cA hi,List.map_append]
   exact((uX.aI s6.aQ).snoc (dw (n:=0) af (.int _) (.int _))).aI tu
  rintro ys H2 bE hl ⟨qp,JL⟩
  rw[List.take_length] at JL
  have s2:=s1.trans qp
  have fD:H D=none:=s1.free hD
  have hyl:ys.length=(r.jE m).length:=by have:=JL.1;unfold p7 at this;simpa using this
  clear hl
  left
  refine dP (s2 _ _ hx) (dS (by decide +kernel)) ?_
  refine⟨_,x,bA,nt,r,eY,m,rfl,hB.run.same s2,hB.ok,sh,hm,λlt vt H3 yS CA elt hvt=>?_⟩
  have s3:=s2.trans yS
  have KS:=yS _ _ bE
  have Ue:=JL.aI yS.aQ
  have Oq:c9 H3 1 vt (p7 r m (r.jE m)):=hvt.cv dW
  have Hd:vt.length=(r.jE m).length:=by have:=hvt.1;unfold p7 at this;simpa using this
  left
  refine ck _ true (.lst elt) rfl ?_
  try simp only[Bool.not_true,Bool.false_eq_true,if_false]
  left
  refine .inl ⟨jD (eB elt Oq) (eB KS Ue.yc) lD (by decide),?_⟩
  try rw[if_neg (by decide)]
  left
  refine bF ?_
  left
  refine .inl ⟨⟨_,aP.of elt⟩,λD4 Js=>?_⟩
  refine aZ (J:=qB K lt) (n:=vt.length) (λi zs H'=>zs=List.replicate i (V.bl true)/\av H3 H') (Nat.le_of_lt (small (by omega))) ⟨rfl,av.new _ Js⟩ ?_ ?_ ?_ ?_
  ·rintro i zs H' iH ⟨_,s1⟩
   exact⟨_,vt[i],aP.of (s1 _ _ elt),cA iH⟩
  ·rintro zs H' ⟨_,s1⟩
   exact⟨_,aP.of (s1 _ _ elt),Nat.le_refl _⟩
  ·intro i zs H' iH gj gV mf x H5 oB
   nofun
   obtain⟨rfl,s1⟩:=mf
   obtain⟨rfl,hy⟩:=oB
   ac_rfl
   have ex:=hy _ (aP.of (s1 _ _ elt))
   walk_at "xf"
   left
   try rw[if_pos trivial]
   have sI:i < (r.jE m).length:=by omega
   have Ug:=(Oq.2 i x (pairD ((((r.jE m)[i]:Nat):Int),(r.ww m).say.getD (r.jE m)[i] 0)) ex (by unfold p7;rw[List.getElem?_map,cA sI];rfl)).cv s1.cv
   nofun
   obtain⟨ta,rfl,ub⟩:=nH (e:=((((r.jE m)[i]:Nat):Int),(r.ww m).say.getD (r.jE m)[i] 0)) Ug
   ac_rfl
   refine ck _ true (.tup ub) rfl ?_
   refine bP gj gV iH (Nat.le_of_lt (small (by omega))) ⟨eN _ _,λb o e=>?_⟩
   rw[ay (aq e Js)]
   exact s1 _ _ e
  rintro zs H4 gj gV ⟨rfl,xJ⟩
  rw[lW] at gj
  left
  refine bx _ (aP.of gj) ?_
  rw[show(List.replicate vt.length true).all id=true by simp]
  clear gj gV
  try refine⟨true,rfl,?_⟩
  try rw[if_neg (by decide)]
  have Gi:=xJ _ _ elt
  have ZZ:c9 H4 1 vt (p7 r m (r.jE m)):=Oq.cv xJ.cv
  left
  refine bF ?_
  left
  refine .inl ⟨⟨_,aP.of Gi⟩,λD5 tS=>?_⟩
  refine aZ (J:=qB K lt) (n:=vt.length) (λi zs H'=>zs=List.replicate i (V.bl false)/\av H4 H') (Nat.le_of_lt (small (by omega))) ⟨rfl,av.new _ tS⟩ ?_ ?_ ?_ ?_
  ·rintro i zs H' iH ⟨_,s1⟩
   exact⟨_,vt[i],aP.of (s1 _ _ Gi),cA iH⟩
  ·rintro zs H' ⟨_,s1⟩
   exact⟨_,aP.of (s1 _ _ Gi),Nat.le_refl _⟩
  ·intro i zs H' iH gj gV pW x H5 uW
   nofun
   obtain⟨rfl,s1⟩:=pW
   obtain⟨rfl,hy⟩:=uW
   ac_rfl
   have ex:=hy _ (aP.of (s1 _ _ Gi))
   walk_at "xf"
   left
   try rw[if_pos trivial]
   have sI:i < (r.jE m).length:=by omega
   have Ug:=(ZZ.2 i x (pairD ((((r.jE m)[i]:Nat):Int),(r.ww m).say.getD (r.jE m)[i] 0)) ex (by unfold p7;rw[List.getElem?_map,cA sI];rfl)).cv s1.cv
   nofun
   obtain⟨ta,rfl,ub⟩:=nH (e:=((((r.jE m)[i]:Nat):Int),(r.ww m).say.getD (r.jE m)[i] 0)) Ug
   ac_rfl
   refine cJ ub (ax (j:=0) rfl) ?_
   refine ck _ false (.int _) rfl ?_
   left
   refine cJ ub (ax (j:=1) rfl) ?_
   refine ck _ false (.int _) rfl ?_
   refine bP gj gV iH (Nat.le_of_lt (small (by omega))) ⟨eN _ _,λb o e=>?_⟩
   rw[ay (aq e tS)]
   exact s1 _ _ e
  rintro zs H5 gj gV ⟨rfl,Fs⟩
  rw[qy] at gj
  left
  refine bx _ (aP.of gj) ?_
  rw[show(List.replicate vt.length false).any id=false by simp]
  clear gj gV
  try rw[if_neg (by decide)]
  have Uh:=Fs _ _ Gi
  have s5:=s3.trans (xJ.trans Fs)
  have s25:=yS.trans (xJ.trans Fs)
  left
  refine gK (.inl ⟨rfl,_,aP.of Uh⟩) cM (λtz Fv=>?_)
  have AH:=av.new (.tup [.int 0,.int 0]) Fv
  refine gc _ (AH _ _ Uh) (small (by omega)) ?_
  have Z0:H lt=none:=s2.free CA
  have s7:av H (upd (upd H5 tz (.tup [.int 0,.int 0])) lt (.lst (vt++[.ref tz]))):=λb o e=>by rw[ay (aq e Z0)];exact AH _ _ (s5 _ _ e)
  have s27:av H2 (upd (upd H5 tz (.tup [.int 0,.int 0])) lt (.lst (vt++[.ref tz]))):=λb o e=>by rw[ay (aq e CA)];exact AH _ _ (s25 _ _ e)
  generalize O2:upd (upd H5 tz (.tup [.int 0,.int 0])) lt (.lst (vt++[.ref tz]))=H7 at *
  left
  refine dP (s7 _ _ hx) (dS (by decide +kernel)) ?_
  refine⟨_,x,bA,nt,r,eY,m,rfl,hB.run.same s7,hm,?_⟩
  left
  refine dP (s7 _ _ hx) (dS (by decide +kernel)) ?_
  refine⟨_,x,bA,nt,r,eY,m,rfl,hB.run.same s7,hB.ok,sh,hm,λlt2 vt2 H8 Hm agk Z1 Z2=>?_⟩
  have s8:=s7.trans Hm
  have Ui:c9 H8 1 vt2 (p7 r m (r.jE m)):=Z2.cv dW
  left
  refine .inl ⟨jD (eB Z1 Ui) (eB (Hm _ _ (s27 _ _ bE)) (JL.aI (s27.trans Hm).aQ).yc) lD (by decide),?_⟩
  try rw[if_neg (by decide)]
  left
  refine ck _ false (.int _) rfl ?_
  try rw[if_neg (by decide)]
  left
  refine bx _ (y0 (s8 _ _ hd)) ?_
  left
  refine bu (s8 _ _ (mW 4 (by decide) (by decide)).1) (aW hm) ?_
  refine bx _ (.inl ⟨_,aP.of (s8 _ _ e4),rfl⟩) ?_
  left
  rw[if_neg (by simp)]
  left
  refine bF ?_
  left
  refine gK (by omega) (by omega) (λD9 hD9=>?_)
  rw[Int.toNat_natCast]
  refine aZ (J:=xP 0 (r.ww m).say.length) (n:=(r.ww m).say.length) (λi ys H'=>av H8 H'/\ys=((r.ww m).say.take i).map V.int) (Nat.le_of_lt (small (by omega))) ⟨av.new _ hD9,rfl⟩ (λi ys H' hi _=>hi) (λys H' _=>Nat.le_refl _) ?_ ?_
  ·intro i vn H' hi lG hl ET xx H2' Jf
   nofun
   obtain⟨OJ,rfl⟩:=ET
   obtain⟨rfl,rfl⟩:=Jf
   ac_rfl
   walk_at "xf"
   left
   try rw[if_pos trivial]
   rw[Int.zero_add]
   refine dP (OJ _ _ (s8 _ _ hx)) (dS (by decide +kernel)) ?_
   refine⟨_,x,bA,nt,r,eY,m,i,rfl,(hB.run.same s8).same OJ,hm,hi,?_⟩
   refine bP lG hl hi (Nat.le_of_lt (small (by omega))) ⟨λc o e=>by rw[ay (aq e hD9)];exact OJ _ _ e,?_⟩
   rw[List.take_succ,bz (d:=0) hi,List.map_append];rfl
  rintro vn H9 lG hl ⟨To,rfl⟩
  rw[List.take_length] at lG
  clear hl
  have s9:=s8.trans To
  left
  refine bx _ (y0 (s9 _ _ hd)) ?_
  left
  refine bu (s9 _ _ (mW 4 (by decide) (by decide)).1) (aW hm) ?_
  left
  refine .inl ⟨jD (eB lG (c9.ints (n:=1) (r.ww m).say)) (eB (s9 _ _ e4) (c9.ints (n:=1) (r.ww m).say)) jC (by decide),?_⟩
  left
  try rw[if_pos trivial]
  refine bF ?_
  left
  refine .inl ⟨⟨_,aP.of lG⟩,λDA hDA=>?_⟩
  refine aZ (J:=qB K D9) (n:=((r.ww m).say.map V.int).length) (λi zs H'=>zs=List.replicate i (V.bl false)/\av H9 H') (Nat.le_of_lt (small (by simp;omega))) ⟨rfl,av.new _ hDA⟩ ?_ ?_ ?_ ?_
  ·rintro i zs H' iH ⟨_,s1⟩
   exact⟨_,((r.ww m).say.map V.int)[i],aP.of (s1 _ _ lG),cA iH⟩
  ·rintro zs H' ⟨_,s1⟩
   exact⟨_,aP.of (s1 _ _ lG),Nat.le_refl _⟩
  ·intro i zs H' iH gj gV Jh x H5 TK
   nofun
   obtain⟨rfl,s1⟩:=Jh
   obtain⟨rfl,hy⟩:=TK
   ac_rfl
   have ex:=hy _ (aP.of (s1 _ _ lG))
   walk_at "xf"
   left
   try rw[if_pos trivial]
   have Ud:∃z,x=.int z:=by
    rw[List.getElem?_map] at ex
    nofun
    obtain⟨z,_,rfl⟩:=Option.map_eq_some_iff.mp ex
    ac_rfl
    exact⟨z,rfl⟩
   obtain⟨z,rfl⟩:=Ud
   refine ck _ false (.int _) rfl ?_
   refine bP gj gV iH (Nat.le_of_lt (small (by simp;omega))) ⟨eN _ _,λb o e=>?_⟩
   rw[ay (aq e hDA)]
   exact s1 _ _ e
  rintro zs wH gj gV ⟨rfl,xk⟩
  rw[qy] at gj
  left
  refine bx _ (aP.of gj) ?_
  rw[show(List.replicate ((r.ww m).say.map V.int).length false).any id=false by simp]
  clear gj gV
  try refine⟨false,rfl,?_⟩
  exact q _ (s9.trans xk)
abbrev kO:Stmt:=top 65
inductive Gj (C CN CR:Addr)(vs:List V)(H:Hp)(Q:VK):Prop
 | mk (F1 F2:Addr->Prop) (x bA d:Addr) (tn:V) (nt:NT) (r:RS) (eY gH:Nat->Nat->Addr) (h0:vs=[.ref x,.ref d]) (h1:vg C CN CR F1 F2 H x bA d tn nt r eY gH) (h3:∀H',av H H'->Q (.bl true) H'):Gj C CN CR vs H Q
def AS (C CN CR:Addr):Sp:=λvs H Q _=>Gj C CN CR vs H Q
theorem xt (D:dH K mg "_law_right" "_law_right" kO ["_law_run","_law_twin"])(T:Tx K mg C CN CR F FD)(eS:Def P w K mg base "_law_machine_right" 5 ["_law_run","_law_twin","_law_m"] (Gg C CN CR))(gO:Def P w K mg base "_law_way_right" 6 ["_law_run","_law_twin","_law_way"] (Gh C CN CR))(fO:cB P w K mg base CR "schedule" 1 ["self"] (Fn C CN CR)):Def P w K mg base "_law_right" 7 ["_law_run","_law_twin"] (AS C CN CR):=by
 have sc:aD ["_law_run","_law_twin","_law_m","_law_way","_law_told"] ["_law_run","_law_twin"] (az kO):=by walk_at "s"
 symm
 ·obtain⟨F1,F2,x,bA,d,tn,nt,r,eY,gH,rfl,hB,q⟩:=h
  rfl
 ·nofun
  obtain⟨F1,F2,x,bA,d,tn,nt,r,eY,gH,rfl,hB,q⟩:=h
  ac_rfl
  have hu:=hr.units
  refine⟨_,(aj (eZ PassesOwn.never rfl (cY rfl T.eF (ai (aT aM rfl T.cm PySem.boot_len (ai (ak hu (ak hu (au 1) aB) ag) aa)) aa)) (aU (i:=2) sc.nd rfl (by grind))
   (ao (aS (bT (bb (aN eS hr (ai (au 0) (ai (au 1) (ai (au 2) aa)))))) (ao (aE eV)) aG)))
   (aj (eZ PassesOwn.never rfl (cY rfl T.eF (ai (aT aM rfl T.cm PySem.boot_len (ai (ak hu (ak hu (au 1) aB) ag) aa)) aa)) (aU (i:=3) sc.nd rfl (by grind))
   (ao (aS (bT (bb (aN gO hr (ai (au 0) (ai (au 1) (ai (au 3) aa)))))) (ao (aE eV)) aG)))
   (aj (ba (i:=4) sc.nd rfl (by grind) (fF fO T.aR hr (au 0)))
   (aj (aS (PW.pt (pw_or (bT (bb (aT cw rfl T.aK nN (ai (au 4) (ai (bO (v:=.ty "list") rfl T.dI um rfl) aa))))) (pw_or1 (aA (dG hu) (au 4) (ak hu (au 1) aB) (aC _))))) (ao (aE eV)) aG)
   (aj (bY (du lO nQ nR bV (au 4) (ai (bC (ai ag (ai ag aa))) aa)))
   (ao (aE (gT (aV hu) (fF fO T.aR hr (au 0)) (ak hu (au 1) aB) (aC _))))))))),?_⟩
  nofun
  obtain⟨dx,o,hx,ho⟩:=hB.run.ins
  obtain⟨o',hd,nF,nP,mW⟩:=hB.twin.dk
  obtain⟨ls,tt,am,aw,al,mv,wv,lv,rfl,h1,h2,h3,h4,h5,h6,h7⟩:=hB.twin.told
  ac_rfl
  have g1:=(cS h1 (λk z=>by cases z)).2
  have g2:=(cS h2 (λk z=>by cases z)).2
  have g3:=(cS h3 (λk z=>by cases z)).2
  have lN:mv.length=nt.ms.length:=h5.1
  have fQ:wv.length=nt.ws.length:=by simpa using h6.1
  have EO:=hB.twin.ok.U9
  have sG:=hB.twin.ok.BB
  left
  refine⟨_,xh hd,cJ g1 (ax (j:=0) rfl) ⟨_,.inl ⟨_,aP.of g2,rfl⟩,⟨_,rfl,by omega,by omega,jr (n:=mv.length) (λi σ H'=>(∃z2 z3 z4,σ=[some (V.ref x),some (V.ref d),z2,z3,z4])/\av H H') ?_ ?_ ?_⟩⟩⟩
  ·exact⟨⟨_,_,_,rfl⟩,av.refl H⟩
  ·intro i σ H' hi iV
   nofun
   obtain⟨⟨z2,z3,z4,rfl⟩,s1⟩:=iV
   ac_rfl
   left
   refine⟨F1,F2,x,bA,d,_,nt,r,eY,gH,i,by rw[Int.zero_add],hB.same s1,by omega,λH2 s2=>?_⟩
   refine sC ?_
   rw[if_neg (by decide)]
   left
   exact⟨⟨_,_,_,rfl,rfl,rfl⟩,s1.trans s2⟩
  intro σ H1 iW
  nofun
  obtain⟨⟨z2,z3,z4,rfl⟩,s1⟩:=iW
  ac_rfl
  left
  refine⟨_,xh (s1 _ _ hd),cJ (s1 _ _ g1) (ax (j:=1) rfl) ⟨_,.inl ⟨_,aP.of (s1 _ _ g3),rfl⟩,⟨_,rfl,by omega,by omega,jr (n:=wv.length) (λi σ H'=>(∃z2 z3 z4,σ=[some (V.ref x),some (V.ref d),z2,z3,z4])/\av H H') ?_ ?_ ?_⟩⟩⟩
  ·exact⟨⟨_,_,_,rfl⟩,s1⟩
  ·intro i σ H' hi mf
   nofun
   obtain⟨⟨z2,z3,z4,rfl⟩,s1⟩:=mf
   ac_rfl
   left
   refine⟨F1,F2,x,bA,d,_,nt,r,eY,gH,i,by rw[Int.zero_add],hB.same s1,by omega,λH2 s2=>?_⟩
   refine sC ?_
   rw[if_neg (by decide)]
   left
   exact⟨⟨_,_,_,rfl,rfl,rfl⟩,s1.trans s2⟩
  clear s1
  intro σ H2 oB
  nofun
  obtain⟨⟨z2,z3,z4,rfl⟩,s2⟩:=oB
  ac_rfl
  have sh:=hB.Ia
  left
  refine dP (s2 _ _ hx) (dS (by decide +kernel)) ?_
  refine⟨_,x,bA,nt,r,eY,rfl,hB.run.same s2,λl vs hl hvs=>?_⟩
  have yS:=av.new (.lst vs) hl
  have s3:=s2.trans yS
  have el:upd H2 l (.lst vs) l=some (.lst vs):=af
  have Z3:=hvs.cv yS.cv
  have flH:H l=none:=s2.free hl
  generalize OZ:upd H2 l (.lst vs)=H3 at *
  have Hd:vs.length=r.picks.length:=by simpa using hvs.1
  left
  refine ck _ true (.lst el) rfl ?_
  try simp only[Bool.not_true,Bool.false_eq_true,if_false]
  left
  refine bx _ (Ob (s3 _ _ hd)) ?_
  have i0:0 < nt.n 0:=by show 0 < 1;decide
  obtain⟨v0,e0,d0⟩:=(hB.twin.same s3).cH.lst (t:=0) (i:=0) i0 rfl
  left
  refine .inl ⟨jD (eB el Z3) (eB e0 (d0.cv dW)) (lD (f:=id)) (by decide),?_⟩
  try rw[if_neg (by decide)]
  left
  refine gK (.inl ⟨rfl,_,aP.of el⟩) cM (λtz Fv=>?_)
  have xJ:=av.new (.tup [.int 0,.int 0]) Fv
  refine gc _ (xJ _ _ el) (small (by omega)) ?_
  have s5:av H (upd (upd H3 tz (.tup [.int 0,.int 0])) l (.lst (vs++[.ref tz]))):=λb o e=>by rw[ay (aq e flH)];exact xJ _ _ (s3 _ _ e)
  generalize NC:upd (upd H3 tz (.tup [.int 0,.int 0])) l (.lst (vs++[.ref tz]))=H5 at *
  left
  refine dP (s5 _ _ hx) (dS (by decide +kernel)) ?_
  refine⟨_,x,bA,nt,r,eY,rfl,hB.run.same s5,λl6 VY Uj Z4=>?_⟩
  have AH:=av.new (.lst VY) Uj
  have s6:=s5.trans AH
  have Uk:=Z4.cv AH.cv
  have el6:upd H5 l6 (.lst VY) l6=some (.lst VY):=af
  generalize IQ:upd H5 l6 (.lst VY)=H6 at *
  refine bx _ (Ob (s6 _ _ hd)) ?_
  obtain⟨v06,e06,d06⟩:=(hB.twin.same s6).cH.lst (t:=0) (i:=0) i0 rfl
  left
  exact .inl ⟨jD (eB el6 Uk) (eB e06 (d06.cv dW)) (lD (f:=id)) (by decide),q _ s6⟩
theorem Gk {H:Hp}:∀{mv:List V},(∀v ∈ mv,∃d:MD,d.good/\fM H v d.M d.ns d.row d.ds)->∃eO,ve H mv eO/\∀d ∈ eO,d.good
 | [],_=>⟨[],ve.nil,λd h=>by simp at h⟩
 | v::r,h=>by
  obtain⟨eO,h1,h2⟩:=Gk (mv:=r) (λw hw=>h w (List.mem_cons_of_mem _ hw))
  obtain⟨d,g,t⟩:=h v (List.mem_cons_self ..)
  refine⟨d::eO,⟨by simp[h1.1],λi w e a b=>?_⟩,λe he=>?_⟩
  ·cases i with
   | zero=>simp at a b;subst a b;exact t
   | succ i=>exact h1.2 i w e (by simpa using a) (by simpa using b)
  ·rcases List.mem_cons.mp he with rfl | he
   ·exact g
   ·exact h2 e he
theorem JM (h:ve H mv eO)(g:∀d ∈ eO,d.good):∀v ∈ mv,∃d:MD,d.good/\fM H v d.M d.ns d.row d.ds:=λv hv=>by
 obtain⟨i,hi,rfl⟩:=List.getElem_of_mem hv
 have hj:i < eO.length:=by rw[<-h.1];exact hi
 exact⟨eO[i],g _ (List.getElem_mem hj),h.2 i _ _ (cA hi) (cA hj)⟩
def TG (H:Hp)(v:V):Prop:=∃eO ws ls,ToldN H v eO ws ls/\uh eO ws ls
theorem TG.ms{t am aw al:Addr}{Ul wv lv:List V}(e:H t=some (.tup [.ref am,.ref aw,.ref al]))(e1:H am=some (.lst Ul))(e2:H aw=some (.lst wv))(e3:H al=some (.lst lv))(hl:Ul.length=mv.length)(hm:∀v ∈ Ul,v ∈ mv)(h:ve H mv eO)(hw:gh H 1 wv (ws.map ku))(kf:gh H 1 lv (ls.map mh))(g:uh eO ws ls):TG H (.ref t):=by
 obtain⟨Um,h1,h2⟩:=Gk (H:=H) (mv:=Ul) (λv hv=>JM h g.mg v (hm v hv))
 have el:Um.length=eO.length:=by rw[<-h1.1,hl,h.1]
 exact⟨Um,ws,ls,⟨t,am,aw,al,Ul,wv,lv,rfl,e,e1,e2,e3,h1,hw,kf⟩,⟨by rw[el];exact g.m1,by rw[el];exact g.m5,g.OG,g.Od,h2,λw hw=>by rw[el];exact g.wo w hw,g.lo⟩⟩
theorem TG.same{v:V}(h:TG H v)(s:av H H'):TG H' v:=by
 obtain⟨a,b,c,h1,h2⟩:=h
 exact⟨a,b,c,h1.cv s.cv,h2⟩
theorem Lf {xs:List V}(h:1<=xs.length):∃v,cI xs none (some 1)=[v]/\v ∈ xs:=by
 cases xs with
 | nil=>simp at h
 | cons a r=>exact⟨a,by rw[FJ];rfl,by simp⟩
theorem Uo {xs:List V}:(cI xs (some 1) (some 3)).length=min 3 xs.length - min 1 xs.length:=by
 unfold cI
 rw[show HT.d9 xs.length 0 (some 1)=min 1 xs.length from HT.ux _ _ 1,show HT.d9 xs.length xs.length (some 3)=min 3 xs.length from HT.ux _ _ 3]
 rw[List.length_take,List.length_drop]
 exact Nat.min_eq_left (Nat.sub_le_sub_right (Nat.min_le_right _ _) _)
theorem Up {xs:List V}:(cI xs (some 3) none).length=xs.length - min 3 xs.length:=by
 unfold cI
 rw[show HT.d9 xs.length 0 (some 3)=min 3 xs.length from HT.ux _ _ 3,HT.Dg]
 rw[List.length_take,List.length_drop]
 exact Nat.min_self _
theorem cE.weak{C CN CR:Addr}{F F':Addr->Prop}{x:Addr}{nt:NT}(h:cE C CN CR F H x bA nt r ad)(s:av H H')(hf:∀b,F' b->H b=none):cE C CN CR F' H' x bA nt r ad:=by
 have no:∀{b:Addr} {o:HO},H b=some o->¬F' b:=λ{b o} e z=>by rw[hf b z] at e;cases e
 obtain⟨⟨dx,o,h1,h2⟩,h3,h4⟩:=h
 refine⟨⟨dx,o,s _ _ h1,λt a b=>⟨s _ _ (h2 t a b).1,no (h2 t a b).1,(h2 t a b).2.2⟩⟩,⟨h3.inj,λt i hi=>?_,λt i hi=>?_⟩,h4.fr (Z:=λ_=>False) s.fr⟩
 ·obtain⟨o',e,_⟩:=h3.Ck t i hi
  exact no e
 ·obtain⟨o',e,r'⟩:=h3.Ck t i hi
  refine⟨o',s _ _ e,r'.cv λb u e1 n=>?_⟩
  obtain⟨z1,z2⟩:=cS e1 n
  rw[fZ (λz=>z.elim (no z2) (λq=>z1 (.inr q)))]
  exact s _ _ z2
abbrev uk:Stmt:=top 66
def vh (K:W.Frag):Sp:=λvs H Q _=>∃(a:Addr) (ns:List Int),vs=[.ref a]/\aP K H a (ns.map V.int)/\ns.length<=63/\∀H',Q (.bl true) H'
theorem Ot {f:Addr}{fd:FuncData}(D:GV K "law" "law" uk f fd)(T:Tx K mg C CN CR F FD)(ee:Def P w K mg base "_law_at" 1 ["_law_script","_law_k"] (EG K))(kP:Def P w K mg base "_law_begun" 1 ["_law_net_here"] AQ)(mI:Def P w K mg base "_law_free" 2 ["_law_run"] FK)(o8:Def P w K mg base "_law_net" 5 ["_law_script"] (AL K))(iu:Def P w K mg base "_law_net_made" 9 ["_law_net_here"] (uj C CN))(mJ:Def P w K mg base "_law_pick" 3 ["_law_run","_law_way","_law_number"] AM)(gG:Def P w K mg base "_law_right" 7 ["_law_run","_law_twin"] (AS C CN CR))(o9:cB P w K mg base CR "net" 1 ["self"] (AB C CN CR))(mK:cB P w K mg base CR "pick" 7 ["self","way","number"] (Fz C CN CR))(Gm:vV P w K mg base "Run" CR 2 ["self","net"] (AJ C CN CR)):kh P w K mg base yi 10 f fd ["_law_script"] (vh K):=by
 have sc:aD ["_law_script","_law_told","_law_net_here","_law_run","_law_twin","_law_cell","_law_free_here","_law_way","_law_number","_law_event"] ["_law_script"] (az uk):=by walk_at "s"
 refine D.ok sc (λvs H Q E h=>?_) (λfT A outer s H vs Q E hr h=>?_)
 ·obtain⟨a,ns,rfl,hS,VF,q⟩:=h
  rfl
 ·nofun
  obtain⟨a,ns,rfl,hS,VF,q⟩:=h
  ac_rfl
  have hu:=hr.units
  refine⟨_,(aj (ba (i:=1) sc.nd rfl (by grind) (aN o8 hr (ai (au 0) aa)))
   (aj (aS (aA (aV hu) (aY dj (aN ee hr (ai (au 0) (ai ag aa))) ag) ag (aC _)) (ao (ba (i:=1) sc.nd rfl (by grind) (bC (ai (ak hu (au 1) ag) (ai (ak hu (au 1) ag) (ai (cW (N':=["_law_way","_law_said"]) (ix:=[none,none]) (bU (ak hu (au 1) ag)) (λ_ _ _ _=>(jK (K:=K) rfl (i:=0) (j:=1) rfl (show(["_law_way","_law_said"]:List Str).Nodup by decide +kernel) rfl rfl (by grind) (by grind))) lC (λ_ _ _ _=>(bC (ai (au 0) (ai (js fU (au 1)) aa))))) aa)))))) aG)
   (aj (aS (aA (aV hu) (aY dj (aY gC (aN ee hr (ai (au 0) (ai ag aa))) ag) ag) ag (aC _)) (ao (ba (i:=1) sc.nd rfl (by grind) (bC (ai (aY da (aY da (jJ (ak hu (au 1) ag) iI (eW ag)) (jJ (ak hu (au 1) ag) (eW ag) (eW ag))) (aY qU (jJ (ak hu (au 1) ag) iI (eW ag)) (aT aM rfl T.cm PySem.boot_len (ai (jJ (ak hu (au 1) ag) (eW ag) iI) aa)))) (ai (ak hu (au 1) ag) (ai (ak hu (au 1) ag) aa)))))) aG)
   (aj (aS (aA (aV hu) (aY dj (aY gC (aN ee hr (ai (au 0) (ai ag aa))) ag) ag) ag (aC _)) (ao (ba (i:=1) sc.nd rfl (by grind) (bC (ai (aY qU (jJ (ak hu (au 1) ag) iI (eW ag)) (aT aM rfl T.cm PySem.boot_len (ai (ak hu (au 1) ag) aa))) (ai (ak hu (au 1) ag) (ai (ak hu (au 1) ag) aa)))))) aG)
   (aj (ba (i:=2) sc.nd rfl (by grind) (aN iu hr (ai (au 1) aa)))
   (aj (ba (i:=3) sc.nd rfl (by grind) (Ek Gm hr (ai (au 2) aa)))
   (aj (ba (i:=4) sc.nd rfl (by grind) (aN kP hr (ai (au 1) aa)))
   (aj (aS (PW.pt (pw_or (aA (IJ hu) (fF o9 T.aR hr (au 3)) (au 2) (aC _)) (pw_or1 (bT (bb (aN gG hr (ai (au 3) (ai (au 4) aa)))))))) (ao (aE eV)) aG)
   (aj (eZ PassesOwn.never rfl (bU (M6 (au 0) (eW ag) (eW ag))) (aU (i:=5) sc.nd rfl (by grind))
   (aj (ba (i:=6) sc.nd rfl (by grind) (aN mI hr (ai (au 4) aa)))
   (ao (aS (aA (dG hu) (au 6) (bN aa) (aC _)) (aj (fA (ak hu (au 6) (aY dj (aY gC (au 5) ag) (aT aM rfl T.cm PySem.boot_len (ai (au 6) aa)))) (iU (i:=7) (j:=8) rfl sc.nd rfl rfl (by grind) (by grind)))
   (aj (ba (i:=9) sc.nd rfl (by grind) (dE mK T.aR hr (au 3) (ai (au 7) (ai (au 8) aa))))
   (aj (aS (PW.pt (pw_or (bT (bb (aT cw rfl T.aK nN (ai (au 9) (ai (bO (v:=.ty "tuple") rfl T.cu qe rfl) aa))))) (pw_or1 (aA (dG hu) (au 9) (aN mJ hr (ai (au 4) (ai (au 7) (ai (au 8) aa)))) (aC _))))) (ao (aE eV)) aG)
   (ao (aS (PW.pt (pw_and (aA (aV hu) (aY dj (au 5) ag) ag (aC _)) (pw_and1 (bT (bb (aN gG hr (ai (au 3) (ai (au 4) aa)))))))) (ao (aE eV)) aG))))) aG))))
   (ao (aE (aN gG hr (ai (au 3) (ai (au 4) aa)))))))))))))),?_⟩
  left
  refine sy a ns rfl hS VF (λt am aw al mv wv lv eO ws ls H1 s1 h1 h2 h3 h4 h5 h6 h7 g=>?_)
  have Lg:TG H1 (.ref t):=⟨eO,ws,ls,⟨t,am,aw,al,mv,wv,lv,rfl,h1,h2,h3,h4,h5,h6,h7⟩,g⟩
  clear h1 h2 h3 h4 h5 h6 h7 g
  generalize V.ref t=tv at *
  left
  refine⟨a,ns,_,rfl,s1.seq hS,by omega,λc8=>⟨(by decide:(0:Int) < 2),?_⟩⟩
  left
  rename_i N1 hN1 T1 U1 hT1 hU1
  have Lh:∀(v:V) (H':Hp),av H H'->TG H' v->N1 [some (V.ref a),some v,none,none,none,none,none,none,none,none] H':=by
   clear hT1 hU1 T1 U1
   intro v VZ Z5 hv
   have Lg:=hv
   left
   refine⟨a,ns,_,rfl,Z5.seq hS,by omega,λc8'=>⟨⟨by decide,by decide⟩,(by decide:(0:Int) < 3),?_⟩⟩
   left
   rename_i N2 Zk T2 U2 Io VI
   have Li:∀(v:V) (H':Hp),av H H'->TG H' v->N2 [some (V.ref a),some v,none,none,none,none,none,none,none,none] H':=by
    clear Io VI T2 U2
    intro v H3r Z6 hv
    have Lg:=hv
    left
    refine⟨a,ns,_,rfl,Z6.seq hS,by omega,λZ7=>⟨⟨by decide,by decide⟩,(by decide:(0:Int) < 3),?_⟩⟩
    left
    rename_i N3 hN3 T3 U3 hT3 hU3
    have Lj:∀(v:V) (H':Hp),av H H'->TG H' v->N3 [some (V.ref a),some v,none,none,none,none,none,none,none,none] H':=by
     clear hT3 hU3 T3 U3
     intro v H4r s4r hv
     have s4:=s4r
     nofun
     obtain⟨eO,ws,ls,hTN,g⟩:=hv
     obtain⟨nt,V0⟩:∃nt:NT,nt=⟨eO,ws⟩:=⟨_,rfl⟩
     ac_rfl
     left
     refine⟨v,eO,ws,ls,rfl,hTN,g,λn ms wv lv H5 Fs Z8 hnF hnL=>?_⟩
     rw[<-V0] at Z8
     have gnt:nt.Ok:=Z8.ok
     have els:∀l ∈ ls,0<=l.1/\l.1 < nt.ws.length:=λl hl=>by rw[V0];exact⟨(g.lo l hl).1,(g.lo l hl).2.1⟩
     have s5:=s4.trans Fs
     left
     intro x dx hx Nu Td
     have sx:av H5 (upd (upd H5 dx (.own x)) x (.ins CR dx [])):=λb o e=>by rw[ay (aq e hx),ay (aq e Nu)];exact e
     refine⟨x,dx,n,nt,ls,ms,wv,lv,rfl,af,Z8.fr (Z:=λ_=>False) sx.fr,hnF.same sx,hnL.aI sx.aQ,g.Od,els,λeY H6 k6 f6 hR6=>⟨rfl,?_⟩⟩
     have AH:av H5 H6:=λb o e=>k6 b o (aq e hx) (sx _ _ e)
     have s6:=s5.trans AH
     have f65:∀b,FP nt.n eY b->H5 b=none:=λb hb=>by
      cases e:H5 b with
      | none=>rfl
      | some o=>
       have:=f6 b hb
       rw[sx _ _ e] at this;cases this
     left
     refine⟨FP nt.n eY,v,nt,ls,rfl,?_,λb hb=>hR6.cH.fp hb,gnt,g.Od,els,λd gH H7 rZ f7 fd hT7=>?_⟩
     ·rw[V0]
      refine hTN.cv λb o e n=>?_
      have e5:=Fs _ _ e
      rw[fZ]
      ·exact AH _ _ e5
      ·intro z
       rw[V0] at f65
       rw[f65 b z] at e5;cases e5
     have s7:=s6.trans rZ
     have Pt:cE C CN CR (FP nt.n gH) H7 x n nt (RS.begin nt ls) eY:=hR6.weak rZ f7
     nofun
     obtain⟨Z9,Vj⟩:=FA gnt g.Od
     have hB7:vg C CN CR (FP nt.n gH) (FP nt.n eY) H7 x n d v nt (RS.begin nt ls) eY gH:=⟨Pt,hT7,Z9,by rw[Vj];simp⟩
     obtain⟨dx7,o7,hx7,ho7⟩:=Pt.ins
     ac_rfl
     left
     refine dP hx7 (dS (by decide +kernel)) ?_
     refine⟨_,x,n,nt,_,eY,rfl,Pt,?_⟩
     nofun
     obtain⟨⟨ms',wv',xI,aaa,_⟩,_⟩:=Pt.NH
     obtain⟨dn,an,bn,cn,gn1,_⟩:=aaa
     ac_rfl
     refine M7 n CN _ _ rfl rfl gn1 T.Kq ?_
     left
     try rw[if_neg (by decide)]
     left
     refine⟨_,_,x,n,d,v,nt,_,eY,gH,rfl,hB7,λH8 Hm=>?_⟩
     refine sC ?_
     rw[if_neg (by decide)]
     have hB8:=hB7.same Hm
     have s8:=s7.trans Hm
     left
     refine⟨_,rfl,_,rfl,_,s8.seq hS,λlc hlc=>?_⟩
     have slc:=av.new (.lst (cI (ns.map V.int) (some 9) (some 49))) hlc
     have hB9:=hB8.same slc
     have elc:upd H8 lc (.lst (cI (ns.map V.int) (some 9) (some 49))) lc=some (.lst (cI (ns.map V.int) (some 9) (some 49))):=af
     have nl1:¬FP nt.n eY lc:=λz=>by
      obtain⟨o,e,_⟩:=hB8.run.cH.fp z
      rw[hlc] at e;cases e
     have nl2:¬FP nt.n gH lc:=λz=>by
      obtain⟨o,e,_⟩:=hB8.twin.cH.fp z
      rw[hlc] at e;cases e
     have QO:(cI (ns.map V.int) (some 9) (some 49)).length<=40:=IK (i:=9) (j:=49)
     have hci:∀c ∈ cI (ns.map V.int) (some 9) (some 49),∃z,c=.int z:=λc hc=>by
      nofun
      obtain⟨z,_,rfl⟩:=List.mem_map.mp (Ad hc)
      ac_rfl
      exact⟨z,rfl⟩
     generalize hG9:upd H8 lc (.lst (cI (ns.map V.int) (some 9) (some 49)))=G9 at *
     generalize Qq:cI (ns.map V.int) (some 9) (some 49)=cs at *
     refine .inl ⟨⟨_,aP.of elc⟩,jq (K:=K) (xs:=cs) (λi σ H'=>(∃z5 z6 z7 z8 z9,σ=[some (V.ref a),some v,some (V.ref n),some (V.ref x),some (V.ref d),z5,z6,z7,z8,z9])/\∃r,vg C CN CR (FP nt.n gH) (FP nt.n eY) H' x n d v nt r eY gH/\r.picks.length<=i/\H' lc=some (.lst cs)) ?_ ?_ ?_ ?_⟩
     ·exact⟨⟨_,_,_,_,_,rfl⟩,_,hB9,by rw[Vj];simp,elc⟩
     ·intro i σ H' hi iV
      nofun
      obtain⟨_,r,_,_,e⟩:=iV
      ac_rfl
      exact aP.of e
     ·intro i c σ Hq hc iW
      nofun
      obtain⟨⟨z5,z6,z7,z8,z9,rfl⟩,r,Ou,hpk,Ti⟩:=iW
      have agI:i < 40:=by have:=(List.getElem?_eq_some_iff.mp hc).1;omega
      obtain⟨cz,rfl⟩:=hci c (List.mem_of_getElem? hc)
      ac_rfl
      left
      refine⟨_,d,v,nt,r,gH,rfl,Ou.twin,Ou.ok,Ou.Ia,λlf ys H9 s9 hlf bE MA=>?_⟩
      have hBf:=Ou.same s9
      left
      refine⟨Nat.zero_le _,λp hp=>?_⟩
      have sp:=av.new (.lst []) hp
      have Cz:=hBf.same sp
      have JN:=sp _ _ bE
      have Uq:=MA.aI sp.aQ
      have OQ:=sp _ _ (s9 _ _ Ti)
      have hep:upd H9 p (.lst []) p=some (.lst []):=af
      generalize hGp:upd H9 p (.lst [])=Gp at *
      clear hBf Ou Ti MA bE
      by_cases hy:ys=[]
      ·subst hy
       refine .inl ⟨.inr ⟨_,_,[],[],rfl,rfl,.inr ⟨aP.of JN,aP.of hep⟩,rfl,λj u v hu=>by simp at hu⟩,?_⟩
       rw[if_neg (by decide)]
       left
       refine⟨?_,r,Cz,by omega,OQ⟩
       first
        | exact⟨_,_,_,_,_,rfl⟩
        | exact⟨_,_,_,_,_,rfl,rfl,rfl,rfl,rfl⟩
      refine .inr ⟨⟨ys,[],λh=>hy (List.length_eq_zero_iff.mp h),.inl ⟨aP.of JN,aP.of hep⟩⟩,?_⟩
      rw[if_pos trivial]
      left
      have hyl:0 < ys.length:=List.length_pos_iff.mpr hy
      nofun
      obtain⟨k,hk⟩:∃k:Nat,cz / 4 % (ys.length:Int)=k:=⟨(cz / 4 % (ys.length:Int)).toNat,by have:=Int.emod_nonneg (cz / 4) (show(ys.length:Int)≠0 by omega);omega⟩
      have Fh:k < ys.length:=by have:=Int.emod_lt_of_pos (cz / 4) (show(0:Int) < ys.length by omega);omega
      have hlen:ys.length=(j5 nt r nt.ws.length).length:=by simpa using Uq.1
      have hkf:k < (j5 nt r nt.ws.length).length:=by omega
      have hel:=Uq.2 k ys[k] _ (cA Fh) (by rw[List.getElem?_map,cA hkf];rfl)
      have vO:=List.getElem_mem hkf
      generalize (j5 nt r nt.ws.length)[k]=pr at *
      obtain⟨wy,num⟩:=pr
      have Ov:=FI Cz.ok vO
      obtain⟨ta,u1,u2,kz,eta,ub,y1,y2⟩:=cy hel
      obtain rfl:=y1.bS
      obtain rfl:=y2.bS
      ac_rfl
      refine⟨⟨by decide,by decide⟩,_,.inl ⟨_,aP.of JN,rfl⟩,by omega,_,_,.inl (aP.of JN),by rw[hk];exact ax (cA Fh),?_⟩
      rw[eta]
      refine wb (bJ.of ub) ?_
      left
      obtain⟨dxp,op,Ug,hop⟩:=Cz.run.ins
      refine dP Ug (dS (by decide +kernel)) ?_
      refine Fy.mk (FP nt.n gH) x n nt r eY wy num rfl Cz.run (λb hb=>Cz.twin.cH.fp hb) Cz.ok Ov Cz.Ia λt1 wH O5 Ur Us=>?_
      have aad:=Cz.twin.keep O5
      nofun
      obtain⟨t1,e1,e2,k1,rfl,sE,_,_⟩:=cy (id Us)
      ac_rfl
      left
      refine ck _ true (.tup sE) rfl ?_
      try simp only[Bool.not_true,Bool.false_eq_true,if_false]
      left
      refine y9.mk (FP nt.n eY) d v nt r gH wy num rfl aad (λb hb=>Ur.cH.fp hb) Cz.ok Ov Cz.Ia λt2 BY AI aae Ut=>?_
      nofun
      obtain⟨t2,e3,e4,k2,rfl,kr,_,_⟩:=cy (id Ut)
      ac_rfl
      have hpp:=RS.Ok.pick Cz.twin.ok Cz.ok (k:=num) Ov.lt
      have Ow:vg C CN CR (FP nt.n gH) (FP nt.n eY) BY x n d v nt (r.pick nt wy num) eY gH:=⟨Ur.keep AI,aae,hpp.1,by rw[hpp.2];simp;omega⟩
      have Uu:BY lc=some (.lst cs):=AI.at (O5.at OQ nl1) nl2
      have Uv:(r.pick nt wy num).picks.length<=i + 1:=by rw[hpp.2];simp;omega
      left
      refine .inl ⟨zX (Us.aI AI.aQ) Ut (by decide),?_⟩
      rw[if_neg (by decide)]
      left
      refine⟨(by decide:(0:Int) < 4),?_⟩
      left
      by_cases h41:cz % 4=1
      ·rw[if_pos (by simpa using h41)]
       refine⟨_,_,x,n,d,v,nt,_,eY,gH,rfl,Ow,λFu qp=>?_⟩
       refine sC ?_
       rw[if_neg (by decide)]
       left
       refine⟨?_,_,Ow.same qp,Uv,qp _ _ Uu⟩
       first
        | exact⟨_,_,_,_,_,rfl⟩
        | exact⟨_,_,_,_,_,rfl,rfl,rfl,rfl,rfl⟩
      ·rw[if_neg (by simpa using h41),if_neg (by decide)]
       left
       refine⟨?_,_,Ow,Uv,Uu⟩
       first
        | exact⟨_,_,_,_,_,rfl⟩
        | exact⟨_,_,_,_,_,rfl,rfl,rfl,rfl,rfl⟩
     ·intro σ H' mf
      nofun
      obtain⟨⟨z5,z6,z7,z8,z9,rfl⟩,r,Ou,hpk,Ti⟩:=mf
      ac_rfl
      left
      refine⟨_,_,x,n,d,v,nt,r,eY,gH,rfl,Ou,λH8 Hm=>?_⟩
      exact q _
    clear hN3
    by_cases hc3:Z7 / 2 % 3=2
    ·rw[if_pos (by simpa using hc3)]
     nofun
     obtain⟨eO,ws,ls,⟨t,am,aw,al,mv,wv,lv,rfl,h1,h2,h3,h4,h5,h6,h7⟩,g⟩:=id Lg
     have Uw:mv.length<=5:=by rw[h5.1];exact g.m5
     have JO:1<=mv.length:=by rw[h5.1];exact g.m1
     obtain⟨v0,V1,V2⟩:=Lf JO
     ac_rfl
     left
     refine cJ h1 (ax (j:=0) rfl) ?_
     left
     refine .inl ⟨_,h2,λl1 wq=>?_⟩
     rw[V1]
     have r1:=av.new (.lst [v0]) wq
     refine cJ (r1 _ _ h1) (ax (j:=0) rfl) ?_
     refine bx _ (.inl ⟨_,aP.of (r1 _ _ h2),rfl⟩) ?_
     refine Ep _ af (by omega) (by omega) (λl6 Uj=>?_)
     rw[Int.toNat_natCast]
     have r6:=av.new (.lst (List.replicate mv.length v0)) Uj
     have r16:=r1.trans r6
     refine cJ (r16 _ _ h1) (ax (j:=1) rfl) ?_
     refine cJ (r16 _ _ h1) (ax (j:=2) rfl) ?_
     refine⟨by show 3<=sizeLine;decide,λt' xm=>?_⟩
     have r8:=av.new (.tup [.ref l6,.ref aw,.ref al]) xm
     have Cd:=r16.trans r8
     left
     refine Lj _ _ (Z6.trans Cd) (TG.ms (mv:=mv) af (r8 _ _ af) (Cd _ _ h3) (Cd _ _ h4) (by simp) (λw hw=>?_) (h5.cv Cd.cv) (h6.aI Cd.aQ) (h7.aI Cd.aQ) g)
     rw[List.eq_of_mem_replicate hw];exact V2
    ·rw[if_neg (by simpa using hc3)]
     left
     exact Lj _ _ Z6 Lg
   clear Zk
   by_cases J3:c8' / 2 % 3=1
   ·rw[if_pos (by simpa using J3)]
    nofun
    obtain⟨eO,ws,ls,⟨t,am,aw,al,mv,wv,lv,rfl,h1,h2,h3,h4,h5,h6,h7⟩,g⟩:=id Lg
    have Uw:mv.length<=5:=by rw[h5.1];exact g.m5
    have JO:1<=mv.length:=by rw[h5.1];exact g.m1
    obtain⟨v0,V1,V2⟩:=Lf JO
    ac_rfl
    left
    refine cJ h1 (ax (j:=0) rfl) ?_
    left
    refine .inl ⟨_,h2,λl1 wq=>?_⟩
    rw[V1]
    have r1:=av.new (.lst [v0]) wq
    refine cJ (r1 _ _ h1) (ax (j:=0) rfl) ?_
    left
    refine .inl ⟨_,r1 _ _ h2,λl2 yg=>?_⟩
    have r2:=av.new (.lst (cI mv (some 1) (some 3))) yg
    have U6:=r1.trans r2
    have q1:=r2 _ _ (af (H:=VZ) (a:=l1) (o:=.lst [v0]))
    have cb:=Uo (xs:=mv)
    left
    refine .inl ⟨_,_,q1,af,Nat.le_of_lt (small (by simp;omega)),λl3 Cr=>?_⟩
    have r3:=av.new (.lst (v0::cI mv (some 1) (some 3))) Cr
    have r13:=U6.trans r3
    refine cJ (r13 _ _ h1) (ax (j:=0) rfl) ?_
    left
    refine .inl ⟨_,r13 _ _ h2,λl4 Ks=>?_⟩
    rw[V1]
    have r4:=av.new (.lst [v0]) Ks
    have BW:=r13.trans r4
    have q3:=r4 _ _ (af (H:=upd (upd VZ l1 (.lst [v0])) l2 (.lst (cI mv (some 1) (some 3)))) (a:=l3) (o:=.lst (v0::cI mv (some 1) (some 3))))
    have q4:upd (upd (upd (upd VZ l1 (.lst [v0])) l2 (.lst (cI mv (some 1) (some 3)))) l3 (.lst (v0::cI mv (some 1) (some 3)))) l4 (.lst [v0]) l4=some (.lst [v0]):=af
    generalize O0:upd (upd (upd (upd VZ l1 (.lst [v0])) l2 (.lst (cI mv (some 1) (some 3)))) l3 (.lst (v0::cI mv (some 1) (some 3)))) l4 (.lst [v0])=G4 at *
    refine cJ (BW _ _ h1) (ax (j:=0) rfl) ?_
    left
    refine .inl ⟨_,BW _ _ h2,λl5 RH=>?_⟩
    have r5:=av.new (.lst (cI mv (some 3) none)) RH
    have q5:upd G4 l5 (.lst (cI mv (some 3) none)) l5=some (.lst (cI mv (some 3) none)):=af
    generalize NC:upd G4 l5 (.lst (cI mv (some 3) none))=G5 at *
    have cc:=Up (xs:=mv)
    left
    refine bx _ (.inl ⟨_,aP.of q5,rfl⟩) ?_
    refine Ep _ (r5 _ _ q4) (by omega) (by omega) (λl6 Uj=>?_)
    rw[Int.toNat_natCast,cc]
    have r6:=av.new (.lst (List.replicate (mv.length - min 3 mv.length) v0)) Uj
    have q6:upd G5 l6 (.lst (List.replicate (mv.length - min 3 mv.length) v0)) l6=some (.lst (List.replicate (mv.length - min 3 mv.length) v0)):=af
    generalize IQ:upd G5 l6 (.lst (List.replicate (mv.length - min 3 mv.length) v0))=G6 at *
    left
    refine .inl ⟨_,_,r6 _ _ (r5 _ _ q3),q6,Nat.le_of_lt (small (by simp;omega)),λl7 hl7=>?_⟩
    have r7:=av.new (.lst ((v0::cI mv (some 1) (some 3))++List.replicate (mv.length - min 3 mv.length) v0)) hl7
    have q7:upd G6 l7 (.lst ((v0::cI mv (some 1) (some 3))++List.replicate (mv.length - min 3 mv.length) v0)) l7=some (.lst ((v0::cI mv (some 1) (some 3))++List.replicate (mv.length - min 3 mv.length) v0)):=af
    generalize O2:upd G6 l7 (.lst ((v0::cI mv (some 1) (some 3))++List.replicate (mv.length - min 3 mv.length) v0))=G7 at *
    have r17:=BW.trans (r5.trans (r6.trans r7))
    refine cJ (r17 _ _ h1) (ax (j:=1) rfl) ?_
    refine cJ (r17 _ _ h1) (ax (j:=2) rfl) ?_
    refine⟨by show 3<=sizeLine;decide,λt' xm=>?_⟩
    have r8:=av.new (.tup [.ref l7,.ref aw,.ref al]) xm
    have Cd:=r17.trans r8
    left
    refine Li _ _ (Z5.trans Cd) (TG.ms (mv:=mv) af (r8 _ _ q7) (Cd _ _ h3) (Cd _ _ h4) (by simp[cb];omega) (λw hw=>?_) (h5.cv Cd.cv) (h6.aI Cd.aQ) (h7.aI Cd.aQ) g)
    rcases List.mem_append.mp hw with hw | hw
    ·rcases List.mem_cons.mp hw with hw | hw
     ·subst hw;exact V2
     ·exact Ad hw
    ·rw[List.eq_of_mem_replicate hw];exact V2
   ·rw[if_neg (by simpa using J3)]
    left
    exact Li _ _ Z5 Lg
  clear hN1
  by_cases hc1:c8 % 2=1
  ·rw[if_pos (by simpa using hc1)]
   nofun
   obtain⟨eO,ws,ls,⟨t,am,aw,al,mv,wv,lv,rfl,h1,h2,h3,h4,h5,h6,h7⟩,g⟩:=id Lg
   ac_rfl
   have Uw:mv.length<=5:=by rw[h5.1];exact g.m5
   have JO:1<=mv.length:=by rw[h5.1];exact g.m1
   left
   refine cJ h1 (ax (j:=0) rfl) ?_
   refine cJ h1 (ax (j:=1) rfl) ?_
   refine bF ?_
   left
   refine cJ h1 (ax (j:=2) rfl) ?_
   left
   have Y5:lv.length=ls.length:=by simpa using h7.1
   have uZ:=g.Od
   refine .inl ⟨⟨_,aP.of h4⟩,λD hD=>?_⟩
   refine aZ (J:=qB K al) (n:=lv.length) (λi ys H'=>av H1 H'/\gh H' 1 ys (((ls.take i).map λl=>(l.1,-l.2)).map mh)) (Nat.le_of_lt (small (by omega))) ⟨av.new _ hD,show gh _ 1 [] [] from gh.nil⟩ ?_ ?_ ?_ ?_
   ·rintro i ys H' hi ⟨s3,_⟩
    exact⟨_,lv[i],aP.of (s3 _ _ h4),cA hi⟩
   ·rintro ys H' ⟨s3,_⟩
    exact⟨_,aP.of (s3 _ _ h4),Nat.le_refl _⟩
   ·intro i ys H' hi bE hl oB xx H4 pW
    nofun
    obtain⟨s3,uX⟩:=oB
    obtain⟨rfl,hy⟩:=pW
    have ex:=hy _ (aP.of (s3 _ _ h4))
    have sI:i < ls.length:=by omega
    have hz:=(h7.2 i xx (mh ls[i]) ex (by rw[List.getElem?_map,cA sI];rfl)).aI s3.aQ
    obtain⟨tz,u1,u2,kz,rfl,zR,y1,y2⟩:=cy hz
    obtain rfl:=y1.bS
    obtain rfl:=y2.bS
    ac_rfl
    refine wb (bJ.of zR) ⟨Ext.set (Ext.set (Ext.refl _) rfl) rfl,?_⟩
    left
    try rw[if_pos trivial]
    refine⟨cM,λt2 kr=>?_⟩
    have s6:=av.new (.tup [.int ls[i].1,.int (-ls[i].2)]) kr
    have rM:=s6 _ _ bE
    refine bP rM hl hi (Nat.le_of_lt (small (by omega))) ⟨λc o e=>by rw[ay (aq e hD)];exact s6 _ _ (s3 _ _ e),?_⟩
    have tu:bQ (upd H4 t2 (.tup [.int ls[i].1,.int (-ls[i].2)])) (upd (upd H4 t2 (.tup [.int ls[i].1,.int (-ls[i].2)])) D (.lst (ys++[.ref t2]))):=(bQ.refl _).upd λzs e=>by rw[rM] at e;cases e
    rw[List.take_succ,cA sI,List.map_append,List.map_append]
    exact((uX.aI s6.aQ).snoc (dw (n:=0) af (.int _) (.int _))).aI tu
   rintro ys H3 bE hl ⟨rY,Ux⟩
   rw[List.take_of_length_le (by omega)] at Ux
   left
   refine⟨by show 3<=sizeLine;decide,λt' xm=>?_⟩
   have xJ:=av.new (.tup [.ref am,.ref aw,.ref D]) xm
   have E3:=rY.trans xJ
   left
   refine Lh _ _ (s1.trans E3) ⟨eO,ws,ls.map λl=>(l.1,-l.2),⟨t',am,aw,D,mv,wv,ys,rfl,af,E3 _ _ h2,E3 _ _ h3,xJ _ _ bE,h5.cv E3.cv,h6.aI E3.aQ,Ux.aI xJ.aQ⟩,⟨g.m1,g.m5,g.OG,by simpa using g.Od,g.mg,g.wo,λl hl=>?_⟩⟩
   nofun
   obtain⟨l0,Nz,rfl⟩:=List.mem_map.mp hl
   obtain⟨o1,o2,o3,o4⟩:=g.lo l0 Nz
   ac_rfl
   exact⟨o1,o2,by show 1 - _<=-l0.2;omega,by show -l0.2 < _;omega⟩
  ·rw[if_neg (by simpa using hc1)]
   left
   exact Lh _ _ s1 Lg
end
end Ez
namespace Ez
open PySem L2 DD
variable {p0 p1:Str}
def FnAt (K:W.Frag)(f:Addr)(x q:Str)(st:Stmt):Prop:=∃od an sl oc kV dc pm cd ct,K.lookup f=some ⟨oc,od,.func (W.fnOf x q (eD st) (cU st) (az st) .none kV dc pm an cd ct),sl⟩/\W.codeIn K cd q=true/\W.keepIn K (.ref f)=true
def DF (K:W.Frag)(x:Str)(st:Stmt):Prop:=∃f,W.nsIn K mainGlobals x=some (some (.ref f))/\FnAt K f x x st
def MF (K:W.Frag)(C:Addr)(m q:Str)(st:Stmt):Prop:=∃f,W.findIn K (.ref C) m=some (some (.ref f))/\W.isFn K (.ref f)=true/\FnAt K f m q st
def Lk (x q:Str)(st:Stmt)(ps:List Str):Prop:=∀(kV doc pm:Value) (an:Option Addr) (fT ct:Value) (us:List Value),us.length=ps.length->bindArgs (W.fnOf x q (eD st) (cU st) (az st) .none kV doc pm an fT ct) ⟨us,[]⟩=pure (ps.zip us)
section
variable {K:W.Frag}{h:Heap}{mg:Str->Option Value}{x m q:Str}{C f:Addr}{st:Stmt}{ps:List Str}{od an:Option Addr}{sl:Array (Option Value)}{oc kV dc pm cd ct:Value}
theorem Ll (a:W.nsIn K mainGlobals x=some (some (.ref f)))(l:K.lookup f=some ⟨oc,od,.func (W.fnOf x x (eD st) (cU st) (az st) .none kV dc pm an cd ct),sl⟩)(c:W.codeIn K cd x=true)(k:W.keepIn K (.ref f)=true):DF K x st:=⟨f,a,_,_,_,_,_,_,_,_,_,l,c,k⟩
theorem Lm (a:W.findIn K (.ref C) m=some (some (.ref f)))(i:W.isFn K (.ref f)=true)(l:K.lookup f=some ⟨oc,od,.func (W.fnOf m q (eD st) (cU st) (az st) .none kV dc pm an cd ct),sl⟩)(c:W.codeIn K cd q=true)(k:W.keepIn K (.ref f)=true):MF K C m q st:=⟨f,a,i,_,_,_,_,_,_,_,_,_,l,c,k⟩
theorem bq (X:K.In h)(G:h.Ns mainGlobals mg)(d:DF K x st)(b:Lk x x st ps):dH K mg x x st ps:=by
 obtain⟨f,a,_,_,_,_,_,_,_,_,_,l,c,k⟩:=d
 exact⟨_,_,lS l c k,W.mg_of X G a,(lS l c k).binds b⟩
theorem cG (d:MF K C m q st)(b:Lk m q st ps):gD K C m q st ps:=by
 obtain⟨f,a,i,_,_,_,_,_,_,_,_,_,l,c,k⟩:=d
 exact⟨_,_,⟨a,i,k⟩,lS l c k,(lS l c k).binds b⟩
theorem vi (X:K.In h)(G:h.Ns mainGlobals mg)(mk:W.makesIn K C=true)(kc:W.keepIn K (.ref C)=true)(d:MF K C "__init__" q st)(a':W.nsIn K mainGlobals x=some (some (.ref C)))(b:Lk "__init__" q st ps):Bw K mg x C q st ps:=by
 obtain⟨f,a,i,_,_,_,_,_,_,_,_,_,l,c,k⟩:=d
 exact⟨⟨_,_,⟨mk,a,i,kc⟩,lS l c k,(lS l c k).binds b⟩,W.mg_of X G a'⟩
theorem mL {us:List Value}{n:Nat}(h:us.length=n + 1):∃x r,us=x::r/\r.length=n:=by
 cases us with
 | nil=>cases h
 | cons x r=>exact⟨x,r,rfl,Nat.succ.inj h⟩
theorem nL (e:∀(kV doc pm:Value) (an:Option Addr) (fT ct x0:Value),bindArgs (W.fnOf x q (eD st) (cU st) (az st) .none kV doc pm an fT ct) ⟨[x0],[]⟩=pure ([p0].zip [x0])):Lk x q st [p0]:=λkV doc pm an fT ct us hl=>by
 obtain⟨x0,u0,rfl,h0⟩:=mL hl
 cases List.length_eq_zero_iff.mp h0
 exact e ..
theorem gX (e:∀(kV doc pm:Value) (an:Option Addr) (fT ct x0 x1:Value),bindArgs (W.fnOf x q (eD st) (cU st) (az st) .none kV doc pm an fT ct) ⟨[x0,x1],[]⟩=pure ([p0,p1].zip [x0,x1])):Lk x q st [p0,p1]:=λkV doc pm an fT ct us hl=>by
 obtain⟨x0,u0,rfl,h0⟩:=mL hl
 obtain⟨x1,u1,rfl,h1⟩:=mL h0
 cases List.length_eq_zero_iff.mp h1
 exact e ..
theorem qa {p2:Str}(e:∀(kV doc pm:Value) (an:Option Addr) (fT ct x0 x1 x2:Value),bindArgs (W.fnOf x q (eD st) (cU st) (az st) .none kV doc pm an fT ct) ⟨[x0,x1,x2],[]⟩=pure ([p0,p1,p2].zip [x0,x1,x2])):Lk x q st [p0,p1,p2]:=λkV doc pm an fT ct us hl=>by
 obtain⟨x0,u0,rfl,h0⟩:=mL hl
 obtain⟨x1,u1,rfl,h1⟩:=mL h0
 obtain⟨x2,u2,rfl,h2⟩:=mL h1
 cases List.length_eq_zero_iff.mp h2
 exact e ..
theorem rR {p2 p3:Str}(e:∀(kV doc pm:Value) (an:Option Addr) (fT ct x0 x1 x2 x3:Value),bindArgs (W.fnOf x q (eD st) (cU st) (az st) .none kV doc pm an fT ct) ⟨[x0,x1,x2,x3],[]⟩=pure ([p0,p1,p2,p3].zip [x0,x1,x2,x3])):Lk x q st [p0,p1,p2,p3]:=λkV doc pm an fT ct us hl=>by
 obtain⟨x0,u0,rfl,h0⟩:=mL hl
 obtain⟨x1,u1,rfl,h1⟩:=mL h0
 obtain⟨x2,u2,rfl,h2⟩:=mL h1
 obtain⟨x3,u3,rfl,h3⟩:=mL h2
 cases List.length_eq_zero_iff.mp h3
 exact e ..
theorem Ox {p2 p3 p4:Str}(e:∀(kV doc pm:Value) (an:Option Addr) (fT ct x0 x1 x2 x3 x4:Value),bindArgs (W.fnOf x q (eD st) (cU st) (az st) .none kV doc pm an fT ct) ⟨[x0,x1,x2,x3,x4],[]⟩=pure ([p0,p1,p2,p3,p4].zip [x0,x1,x2,x3,x4])):Lk x q st [p0,p1,p2,p3,p4]:=λkV doc pm an fT ct us hl=>by
 obtain⟨x0,u0,rfl,h0⟩:=mL hl
 obtain⟨x1,u1,rfl,h1⟩:=mL h0
 obtain⟨x2,u2,rfl,h2⟩:=mL h1
 obtain⟨x3,u3,rfl,h3⟩:=mL h2
 obtain⟨x4,u4,rfl,h4⟩:=mL h3
 cases List.length_eq_zero_iff.mp h4
 exact e ..
end
theorem all_mk {l:W.OpenLaw}{w:World}{K:W.Frag}{h:Heap}{mg:Str->Option Value}{fa C CN CR F:Addr}(X:K.In h)(G:h.Ns mainGlobals mg)(hfa:mg "law"=some (.ref fa))
  (nM:W.nsIn K mainGlobals "Machine"=some (some (.ref C))) (JP:W.nsIn K mainGlobals "Net"=some (some (.ref CN))) (JQ:W.nsIn K mainGlobals "Run"=some (some (.ref CR))) (rS:DF K "_law_at" qY) (kQ:DF K "_law_begun" kN) (kR:DF K "_law_lying" kM) (mM:DF K "_law_free" mF) (kS:DF K "_law_digit" kq) (kT:DF K "_law_value" kB) (mN:DF K "_law_deed" mj) (jh:DF K "_law_machine" iZ) (pb:DF K "_law_pot" om) (pd:DF K "_law_net" oY) (pf:DF K "form_of" oq) (mO:DF K "is_whole" l8) (kU:DF K "is_within" ko) (mP:DF K "is_value" l9) (ph:DF K "is_part" ou) (pk:DF K "is_deed" oy) (iy:DF K "refuse_deeds" hJ) (pq:DF K "is_list" oo) (ji:DF K "are_counted" iX) (gs:DF K "refuse_machine" gf) (pw:MF K C "__init__" "Machine.__init__" oH) (kW:DF K "is_letter" kx) (rT:DF K "is_way" q9) (j0:DF K "refuse_net" jR) (Gn:MF K CN "__init__" "Net.__init__" E9) (iz:DF K "_law_net_made" ik) (kX:DF K "_law_worth" kF) (j1:DF K "_law_worked" jW) (mQ:DF K "_law_pick" mG) (iA:DF K "_law_is_state" ip) (iB:DF K "_law_is_words" il) (ff:MF K CR "need_machine" "Run.need_machine" fe) (kY:MF K CR "count" "Run.count" kI) (kZ:MF K CR "state" "Run.state" kH) (k7:MF K CR "words" "Run.words" kJ) (eU:DF K "_law_machine_right" eR) (iC:MF K CR "need_way" "Run.need_way" ic) (k8:MF K CR "lying" "Run.lying" kL) (iD:MF K CR "put_many" "Run.put_many" ie) (fP:MF K CR "need_letter" "Run.need_letter" fL) (mR:MF K CR "said" "Run.said" mB) (gP:DF K "_law_way_right" gN) (iE:MF K CR "schedule" "Run.schedule" ig) (k9:DF K "_law_right" kO) (pA:MF K CR "net" "Run.net" oS) (gu:DF K "change_numbers" gk) (j2:DF K "change_row" jS) (mS:DF K "left_out" mq) (lj:DF K "values_of" kC) (jj:DF K "plain_worth" i3) (mT:DF K "worth_of" mn) (gv:MF K C "worked" "Machine.worked" gm) (iF:MF K CN "machines" "Net.machines" ia) (mU:MF K CN "ways" "Net.ways" my) (jk:MF K CN "ways_at" "Net.ways_at" i8) (jl:MF K CN "ways_in" "Net.ways_in" i9) (iG:MF K CN "ways_out" "Net.ways_out" ib) (gQ:MF K CR "need_pick" "Run.need_pick" gL) (gw:MF K CR "put_letter" "Run.put_letter" gp) (jm:MF K CR "pick_at" "Run.pick_at" ja) (mV:MF K CR "pick" "Run.pick" mC) (eC:MF K C "first_state" "Machine.first_state" eu) (jo:MF K CN "letters" "Net.letters" i5) (Gq:MF K CR "__init__" "Run.__init__" FC) (Gr:DF K "law" uk) (pB:W.plainGet K C Str.empty=true) (pC:W.hasDictIn K C=true) (pD:W.plainOver K C=true) (pE:W.findIn K (.ref C) "__setattr__"=some (some (.builtin "object.__setattr__"))) (pF:W.makesIn K C=true) (pG:W.keepIn K (.ref C)=true) (BD:W.findIn K (.ref C) "__class__"=some (some (.builtin "object.__class__"))) (BE:W.mroIn K C (.type "object")=some true) (Ko:W.findIn K (.ref C) "own_modulus"=some none) (Nc:W.findIn K (.ref C) "own_state"=some none) (Kp:W.findIn K (.ref C) "own_deeds"=some none) (Gs:W.plainGet K CN Str.empty=true) (Gu:W.hasDictIn K CN=true) (Gv:W.plainOver K CN=true) (Gw:W.findIn K (.ref CN) "__setattr__"=some (some (.builtin "object.__setattr__"))) (Gx:W.makesIn K CN=true) (Gy:W.keepIn K (.ref CN)=true) (EB:W.findIn K (.ref CN) "__class__"=some (some (.builtin "object.__class__"))) (EC:W.mroIn K CN (.type "object")=some true) (we:W.findIn K (.ref CN) "own_machines"=some none) (wg:W.findIn K (.ref CN) "own_ways"=some none) (yy:W.findIn K (.ref CN) "own_letters"=some none) (Gz:W.plainGet K CR Str.empty=true) (GB:W.hasDictIn K CR=true) (GC:W.plainOver K CR=true) (GD:W.findIn K (.ref CR) "__setattr__"=some (some (.builtin "object.__setattr__"))) (GG:W.makesIn K CR=true) (GH:W.keepIn K (.ref CR)=true) (ED:W.findIn K (.ref CR) "__class__"=some (some (.builtin "object.__class__"))) (EE:W.mroIn K CR (.type "object")=some true) (cQ:W.findIn K (.ref CR) "own_net"=some none) (cX:W.findIn K (.ref CR) "picks_done"=some none) (cp:W.findIn K (.ref CR) "states_had"=some none) (dZ:W.findIn K (.ref CR) "words_had"=some none) (cK:W.findIn K (.ref CR) "words_said"=some none) (bG:W.findIn K (.ref CR) "letters_say"=some none) (fc:W.findIn K (.ref CR) "senders"=some none) (dg:W.findIn K (.ref CR) "workers"=some none) (BF:W.specialIn K (.builtin "object.__class__") "__get__"=some (some (.builtin "getset_descriptor.__get__"))) (tQ:W.takesIn K (.builtin "object.__class__")=some true)
  {nmN qN:Str} {NN:Addr} {bsN aaj:List Value} {snN:List Str} {abN:Bool} {aak:Option Bool} {ddN:Option Addr} {k0N k1N k2N k3N k5N:Option Value} {oN:Obj} (Cw:K.lookup CN=some (excClassObj nmN qN CN NN bsN [.type "object"] true snN aaj abN aak ddN k0N k1N k2N k3N k5N "object.__new__")) (nc2:K.lookup NN=some oN) (nc3:nsOk oN=true)
  (j3:W.nsIn K mainGlobals "isinstance"=some none) (GI:W.nsIn K mainGlobals "int"=some none) (zg:W.nsIn K mainGlobals "bool"=some none) (GJ:W.nsIn K mainGlobals "str"=some none) (vj:W.nsIn K mainGlobals "tuple"=some none) (zh:W.nsIn K mainGlobals "list"=some none) (GK:W.nsIn K mainGlobals "len"=some none) (vk:W.nsIn K mainGlobals "range"=some none) (GL:W.nsIn K mainGlobals "min"=some none) (GN:W.nsIn K mainGlobals "max"=some none) (GO:W.nsIn K mainGlobals "all"=some none) (GP:W.nsIn K mainGlobals "any"=some none) (GQ:W.nsIn K mainGlobals "zip"=some none) (lp:W.nsIn K mainGlobals "enumerate"=some none) {sV:Tok} (dX:W.nsIn K mainGlobals "MOST_DEEDS"=some (some (.int 24 sV))) {qb:Tok} (dJ:W.nsIn K mainGlobals "MOST_MODULUS"=some (some (.int 1000000000000 qb))) {qc:Tok} (dM:W.nsIn K mainGlobals "MOST_NUMBERS"=some (some (.int 4 qc))) {xu:Tok} (fb:W.nsIn K mainGlobals "MOST_ROW"=some (some (.int 12 xu))) {pH:Tok} (dy:W.nsIn K mainGlobals "MOST_MACHINES"=some (some (.int 5 pH))) {vm:Tok} (fq:W.nsIn K mainGlobals "MOST_WAYS"=some (some (.int 10 vm))) {qd:Tok} (dN:W.nsIn K mainGlobals "MOST_LETTERS"=some (some (.int 20 qd))) {sW:Tok} (dY:W.nsIn K mainGlobals "SAID_BOUND"=some (some (.int 1000000000000000000000000000000000000000000000000000000000000 sW)))
  {fh0 fh1 fh2 fh3 fh4 fh5 fh6 fh7:Int} {fk0 fk1 fk2 fk3 fk4 fk5 fk6 fk7:Tok} {PF PH PJ PK PM PN PQ PR:Addr} {fep:Nat}
  (aF:W.nsIn K mainGlobals "FORMS"=some (some (.ref F))) (lF:K.lookup F=some {cls:=.type "dict",dict:=none,data:=.dict #[⟨fh0,.str "set" fk0,.ref PF⟩,⟨fh1,.str "add" fk1,.ref PH⟩,⟨fh2,.str "times" fk2,.ref PJ⟩,⟨fh3,.str "put" fk3,.ref PK⟩,⟨fh4,.str "drop" fk4,.ref PM⟩,⟨fh5,.str "send" fk5,.ref PN⟩,⟨fh6,.str "say" fk6,.ref PQ⟩,⟨fh7,.str "skip" fk7,.ref PR⟩] fep,slots:=#[]}) (neF:(F == sysModules)=false) {Ln Lo:Tok} {fo0:Option Addr} {fn0:Nat} {fs0:Array (Option Value)} (lP0:K.lookup PF=some ⟨.type "tuple",fo0,.seq #[.str "number" Ln,.str "value" Lo] fn0,fs0⟩) {Lp Lq:Tok} {fo1:Option Addr} {fn1:Nat} {fs1:Array (Option Value)} (lP1:K.lookup PH=some ⟨.type "tuple",fo1,.seq #[.str "number" Lp,.str "value" Lq] fn1,fs1⟩) {Lr Ls:Tok} {fo2:Option Addr} {fn2:Nat} {fs2:Array (Option Value)} (lP2:K.lookup PJ=some ⟨.type "tuple",fo2,.seq #[.str "number" Lr,.str "value" Ls] fn2,fs2⟩) {Lu:Tok} {fo3:Option Addr} {fn3:Nat} {fs3:Array (Option Value)} (lP3:K.lookup PK=some ⟨.type "tuple",fo3,.seq #[.str "value" Lu] fn3,fs3⟩) {fo4:Option Addr} {fn4:Nat} {fs4:Array (Option Value)} (lP4:K.lookup PM=some ⟨.type "tuple",fo4,.seq #[] fn4,fs4⟩) {Lv Lw:Tok} {fo5:Option Addr} {fn5:Nat} {fs5:Array (Option Value)} (lP5:K.lookup PN=some ⟨.type "tuple",fo5,.seq #[.str "way" Lv,.str "value" Lw] fn5,fs5⟩) {Lx:Tok} {fo6:Option Addr} {fn6:Nat} {fs6:Array (Option Value)} (lP6:K.lookup PQ=some ⟨.type "tuple",fo6,.seq #[.str "value" Lx] fn6,fs6⟩) {Ly Lz LC:Tok} {fo7:Option Addr} {fn7:Nat} {fs7:Array (Option Value)} (lP7:K.lookup PR=some ⟨.type "tuple",fo7,.seq #[.str "value" Ly,.str "value" Lz,.str "many" LC] fn7,fs7⟩)
  :∃fd:FuncData,(∀(s:Shared) (v:Value),BindsTo s fd ⟨[v],[]⟩ [("_law_script",v)])/\∀base:Heap,K.In base->base.Ns mainGlobals mg->kh l.prog w K mg base yi 10 fa fd ["_law_script"] (vh K):=by
 have FR:PyProof.Rows.KTD.Rows RelV (#[⟨fh0,.str "set" fk0,.ref PF⟩,⟨fh1,.str "add" fk1,.ref PH⟩,⟨fh2,.str "times" fk2,.ref PJ⟩,⟨fh3,.str "put" fk3,.ref PK⟩,⟨fh4,.str "drop" fk4,.ref PM⟩,⟨fh5,.str "send" fk5,.ref PN⟩,⟨fh6,.str "say" fk6,.ref PQ⟩,⟨fh7,.str "skip" fk7,.ref PR⟩]:Array DictEntry).toList ([("set",V.ref PF),("add",V.ref PH),("times",V.ref PJ),("put",V.ref PK),("drop",V.ref PM),("send",V.ref PN),("say",V.ref PQ),("skip",V.ref PR)]:List (Str×V)):=.cons rfl rfl (.cons rfl rfl (.cons rfl rfl (.cons rfl rfl (.cons rfl rfl (.cons rfl rfl (.cons rfl rfl (.cons rfl rfl (.nil))))))))
 have T:Tx K mg C CN CR F ([("set",V.ref PF),("add",V.ref PH),("times",V.ref PJ),("put",V.ref PK),("drop",V.ref PM),("send",V.ref PN),("say",V.ref PQ),("skip",V.ref PR)]:List (Str×V)):={
  aK:=W.mg_none_of X G j3
  wc:=W.mg_none_of X G GI
  jP:=W.mg_none_of X G zg
  Ae:=W.mg_none_of X G GJ
  cu:=W.mg_none_of X G vj
  dI:=W.mg_none_of X G zh
  cm:=W.mg_none_of X G GK
  eF:=W.mg_none_of X G vk
  Rq:=W.mg_none_of X G GL
  Kn:=W.mg_none_of X G GN
  qX:=W.mg_none_of X G GO
  wd:=W.mg_none_of X G GP
  EA:=W.mg_none_of X G GQ
  dQ:=W.mg_none_of X G lp
  dX:=⟨_,W.mg_of X G dX⟩
  dJ:=⟨_,W.mg_of X G dJ⟩
  dM:=⟨_,W.mg_of X G dM⟩
  fb:=⟨_,W.mg_of X G fb⟩
  dy:=⟨_,W.mg_of X G dy⟩
  fq:=⟨_,W.mg_of X G fq⟩
  dN:=⟨_,W.mg_of X G dN⟩
  dY:=⟨_,W.mg_of X G dY⟩
  cP:=⟨pB,pC,pD,pE⟩
  tP:=W.mg_of X G nM
  BD:=BD
  BE:=BE
  Ko:=Ko
  Nc:=Nc
  Kp:=Kp
  df:=⟨Gs,Gu,Gv,Gw⟩
  Rr:=W.mg_of X G JP
  EB:=EB
  EC:=EC
  we:=we
  wg:=wg
  yy:=yy
  aR:=⟨Gz,GB,GC,GD⟩
  Rt:=W.mg_of X G JQ
  ED:=ED
  EE:=EE
  cQ:=cQ
  cX:=cX
  cp:=cp
  dZ:=dZ
  cK:=cK
  bG:=bG
  fc:=fc
  dg:=dg
  BF:=BF
  tQ:=tQ
  i_k:=by unfold W.kitOne;rw[if_pos (by simp)]
  Kq:=⟨_,_,_,_,_,_,_,_,_,_,_,_,_,_,_,Cw,nc2,nc3⟩
  Af:=W.mg_of X G aF
  Ag:=⟨⟨_,_,_,lF,⟨rfl,rfl,rfl⟩,rfl,FR⟩,neF⟩
  Kr:=λd=>by
   cases d with
   | set _ _=>exact⟨PF,by kernel_rfl,λH=>.inr ⟨_,_,_,lP0,rfl,rfl,by show 2<=sizeLine;decide,(.cons ⟨Ln,rfl⟩ (.cons ⟨Lo,rfl⟩ .nil))⟩⟩
   | add _ _=>exact⟨PH,by kernel_rfl,λH=>.inr ⟨_,_,_,lP1,rfl,rfl,by show 2<=sizeLine;decide,(.cons ⟨Lp,rfl⟩ (.cons ⟨Lq,rfl⟩ .nil))⟩⟩
   | times _ _=>exact⟨PJ,by kernel_rfl,λH=>.inr ⟨_,_,_,lP2,rfl,rfl,by show 2<=sizeLine;decide,(.cons ⟨Lr,rfl⟩ (.cons ⟨Ls,rfl⟩ .nil))⟩⟩
   | put _=>exact⟨PK,by kernel_rfl,λH=>.inr ⟨_,_,_,lP3,rfl,rfl,by show 1<=sizeLine;decide,(.cons ⟨Lu,rfl⟩ .nil)⟩⟩
   | drop=>exact⟨PM,by kernel_rfl,λH=>.inr ⟨_,_,_,lP4,rfl,rfl,by show 0<=sizeLine;decide,.nil⟩⟩
   | send _ _=>exact⟨PN,by kernel_rfl,λH=>.inr ⟨_,_,_,lP5,rfl,rfl,by show 2<=sizeLine;decide,(.cons ⟨Lv,rfl⟩ (.cons ⟨Lw,rfl⟩ .nil))⟩⟩
   | say _=>exact⟨PQ,by kernel_rfl,λH=>.inr ⟨_,_,_,lP6,rfl,rfl,by show 1<=sizeLine;decide,(.cons ⟨Lx,rfl⟩ .nil)⟩⟩
   | skip _ _ _=>exact⟨PR,by kernel_rfl,λH=>.inr ⟨_,_,_,lP7,rfl,rfl,by show 3<=sizeLine;decide,(.cons ⟨Ly,rfl⟩ (.cons ⟨Lz,rfl⟩ (.cons ⟨LC,rfl⟩ .nil)))⟩⟩
 }
 obtain⟨f,al,od,an,sl,oc,kV,dc,pm,cd,ct,ll,lc,lk⟩:=Gr
 have e:=hfa.symm.trans (W.mg_of X G al)
 cases e
 refine⟨W.fnOf "law" "law" (eD uk) (cU uk) (az uk) .none kV dc pm an cd ct,λs v=>.of_eq rfl,λbase _ _=>?_⟩
 have ee:=EH (P:=l.prog) (w:=w) (base:=base) (bq X G rS (gX λ_ _ _ _ _ _ _ _=>rfl)) T
 have kP:=xn (P:=l.prog) (w:=w) (base:=base) (bq X G kQ (nL λ_ _ _ _ _ _ _=>rfl)) T
 have fw:=xi (P:=l.prog) (w:=w) (base:=base) (bq X G kR (gX λ_ _ _ _ _ _ _ _=>rfl)) T
 have mI:=y7 (bq X G mM (nL λ_ _ _ _ _ _ _=>rfl)) T fw
 have aL:=wm (P:=l.prog) (w:=w) (base:=base) (bq X G kS (gX λ_ _ _ _ _ _ _ _=>rfl)) T
 have dR:=wA (bq X G kT (gX λ_ _ _ _ _ _ _ _=>rfl)) T aL
 have ml:=yG (bq X G mN (gX λ_ _ _ _ _ _ _ _=>rfl)) T aL dR
 have jf:=sJ (bq X G jh (gX λ_ _ _ _ _ _ _ _=>rfl)) T ml aL
 have jB:=BG (P:=l.prog) (w:=w) (base:=base) (bq X G pb (nL λ_ _ _ _ _ _ _=>rfl)) T
 have o8:=B9 (bq X G pd (nL λ_ _ _ _ _ _ _=>rfl)) T ee aL jf jB
 have oz:=BI (P:=l.prog) (w:=w) (base:=base) (bq X G pf (nL λ_ _ _ _ _ _ _=>rfl)) T
 have d7:=yz (P:=l.prog) (w:=w) (base:=base) (bq X G mO (nL λ_ _ _ _ _ _ _=>rfl)) T
 have aJ:=wk (bq X G kU (qa λ_ _ _ _ _ _ _ _ _=>rfl)) T d7
 have me:=yB (bq X G mP (gX λ_ _ _ _ _ _ _ _=>rfl)) T d7 aJ
 have oA:=BJ (bq X G ph (qa λ_ _ _ _ _ _ _ _ _=>rfl)) T me d7 aJ
 have oG:=BK (bq X G pk (gX λ_ _ _ _ _ _ _ _=>rfl)) T oz oA
 have hX:=q8 (bq X G iy (gX λ_ _ _ _ _ _ _ _=>rfl)) T oG
 have ft:=BH (P:=l.prog) (w:=w) (base:=base) (bq X G pq (qa λ_ _ _ _ _ _ _ _ _=>rfl)) T
 have gz:=sD (bq X G ji (rR λ_ _ _ _ _ _ _ _ _ _=>rfl)) T ft aJ
 have gg:=oC (bq X G gs (rR λ_ _ _ _ _ _ _ _ _ _=>rfl)) T gz aJ
 have oZ:=BM (vi X G pF pG pw nM (Ox λ_ _ _ _ _ _ _ _ _ _ _=>rfl)) T hX gg
 have ky:=wx (bq X G kW (gX λ_ _ _ _ _ _ _ _=>rfl)) T aJ
 have rg:=EN (bq X G rT (gX λ_ _ _ _ _ _ _ _=>rfl)) T aJ
 have jU:=uY (bq X G j0 (qa λ_ _ _ _ _ _ _ _ _=>rfl)) T ky ft rg
 have FX:=RY (vi X G Gx Gy Gn JP (rR λ_ _ _ _ _ _ _ _ _ _=>rfl)) T jU
 have iu:=rN (bq X G iz (nL λ_ _ _ _ _ _ _=>rfl)) T oZ FX
 have kG:=wU (P:=l.prog) (w:=w) (base:=base) (bq X G kX (Ox λ_ _ _ _ _ _ _ _ _ _ _=>rfl)) T
 have jZ:=u7 (bq X G j1 (rR λ_ _ _ _ _ _ _ _ _ _=>rfl)) T kG
 have mJ:=za (bq X G mQ (qa λ_ _ _ _ _ _ _ _ _=>rfl)) T jZ
 have iq:=rQ (P:=l.prog) (w:=w) (base:=base) (bq X G iA (gX λ_ _ _ _ _ _ _ _=>rfl)) T
 have fN:=rP (P:=l.prog) (w:=w) (base:=base) (bq X G iB (gX λ_ _ _ _ _ _ _ _=>rfl)) T
 have bL:=mz (cG ff (gX λ_ _ _ _ _ _ _ _=>rfl)) T aJ
 have iO:=wY (cG kY (gX λ_ _ _ _ _ _ _ _=>rfl)) T bL
 have fu:=wX (cG kZ (gX λ_ _ _ _ _ _ _ _=>rfl)) T bL
 have iP:=wZ (cG k7 (gX λ_ _ _ _ _ _ _ _=>rfl)) T bL
 have eS:=lH (bq X G eU (qa λ_ _ _ _ _ _ _ _ _=>rfl)) T iq fN iO fu iP
 have cF:=rF (cG iC (qa λ_ _ _ _ _ _ _ _ _=>rfl)) T aJ
 have iQ:=xa (cG k8 (gX λ_ _ _ _ _ _ _ _=>rfl)) T cF
 have ir:=rG (cG iD (gX λ_ _ _ _ _ _ _ _=>rfl)) T cF
 have cO:=nE (cG fP (rR λ_ _ _ _ _ _ _ _ _ _=>rfl)) T aJ cF
 have mH:=yR (cG mR (qa λ_ _ _ _ _ _ _ _ _=>rfl)) T cO
 have gO:=p9 (bq X G gP (qa λ_ _ _ _ _ _ _ _ _=>rfl)) T fw iQ ir mH
 have fO:=rH (P:=l.prog) (w:=w) (base:=base) (cG iE (nL λ_ _ _ _ _ _ _=>rfl)) T
 have gG:=xt (bq X G k9 (gX λ_ _ _ _ _ _ _ _=>rfl)) T eS gO fO
 have o9:=BX (P:=l.prog) (w:=w) (base:=base) (cG pA (nL λ_ _ _ _ _ _ _=>rfl)) T
 have gn:=oJ (P:=l.prog) (w:=w) (base:=base) (bq X G gu (rR λ_ _ _ _ _ _ _ _ _ _=>rfl)) T
 have jT:=u5 (P:=l.prog) (w:=w) (base:=base) (bq X G j2 (qa λ_ _ _ _ _ _ _ _ _=>rfl)) T
 have mr:=yI (P:=l.prog) (w:=w) (base:=base) (bq X G mS (gX λ_ _ _ _ _ _ _ _=>rfl)) T
 have kE:=wL (P:=l.prog) (w:=w) (base:=base) (bq X G lj (nL λ_ _ _ _ _ _ _=>rfl)) T
 have i4:=sL (P:=l.prog) (w:=w) (base:=base) (bq X G jj (rR λ_ _ _ _ _ _ _ _ _ _=>rfl)) T
 have mw:=yH (bq X G mT (Ox λ_ _ _ _ _ _ _ _ _ _ _=>rfl)) T i4
 have gq:=oK (cG gv (rR λ_ _ _ _ _ _ _ _ _ _=>rfl)) T gn jT mr kE mw
 have cN:=rq (P:=l.prog) (w:=w) (base:=base) (cG iF (nL λ_ _ _ _ _ _ _=>rfl)) T
 have di:=yL (P:=l.prog) (w:=w) (base:=base) (cG mU (nL λ_ _ _ _ _ _ _=>rfl)) T
 have ei:=sQ (cG jk (qa λ_ _ _ _ _ _ _ _ _=>rfl)) T aJ
 have jb:=sR (cG jl (gX λ_ _ _ _ _ _ _ _=>rfl)) T ei
 have ij:=rB (cG iG (gX λ_ _ _ _ _ _ _ _=>rfl)) T ei
 have gM:=p6 (cG gQ (rR λ_ _ _ _ _ _ _ _ _ _=>rfl)) T di cO
 have cZ:=oQ (P:=l.prog) (w:=w) (base:=base) (cG gw (rR λ_ _ _ _ _ _ _ _ _ _=>rfl)) T
 have jc:=sS (cG jm (rR λ_ _ _ _ _ _ _ _ _ _=>rfl)) T gq cN di jb ij gM cZ fu
 have mK:=yX (cG mV (qa λ_ _ _ _ _ _ _ _ _=>rfl)) T jc
 have eA:=j7 (P:=l.prog) (w:=w) (base:=base) (cG eC (nL λ_ _ _ _ _ _ _=>rfl)) T
 have je:=sM (P:=l.prog) (w:=w) (base:=base) (cG jo (nL λ_ _ _ _ _ _ _=>rfl)) T
 have Gm:=Sr (vi X G GG GH Gq JQ (gX λ_ _ _ _ _ _ _ _=>rfl)) T eA je cN di cZ
 exact Ot (lS ll lc lk) T ee kP mI o8 iu mJ gG o9 mK Gm
theorem walk {l:W.OpenLaw}{q:Program}{loose:List Str}{XP:(Str->Option Value)->Heap->Prop}{YP:World->Heap->Prop}{d:DefRec}{K:Params->W.Frag}(hn:l.most=some 63)(QF:d.params.defaults=[])
  (hY:∀(w:World) (h:Heap),YP w h->(K w.params).In h)
  (F:∀(w:World) (mg:Str->Option Value) (fa:Addr) (h:Heap),(K w.params).In h->h.Ns mainGlobals mg->mg d.name=some (.ref fa)->
   ∃fd:FuncData,(∀(s:Shared) (u:Value),BindsTo s fd ⟨[u],[]⟩ [("_law_script",u)])/\∀base:Heap,(K w.params).In base->base.Ns mainGlobals mg->kh l.prog w (K w.params) mg base yi 10 fa fd ["_law_script"] (vh (K w.params))):
  W.WalkO q loose XP YP l.row.toRowW d [] (λf vs=>PySem.call f vs):=
 L2.Ic (n:=63) (k:=10) (x:="_law_script") (CX:=λ_=>yi) (sp:=λw=>vh (K w.params)) hn (by decide) QF ⟨rfl,by decide,by decide⟩ hY F (λ_ _ a ns hl _ hS=>⟨a,ns,rfl,hS,hl,λ_=>rfl⟩) λ_ _ _ _ _ z=>z
end Ez
namespace PySem.W.Fast
def tw7860693215938743899:=()
def tw13110715749485773221:=()
def tw5618925421786256101:=()
def tw11777447675629159064:=()
def tw15038214651590439615:=()
def tw147971616718022240:=()
def tw12704204457734003457:=()
def tw1443826576561929083:=()
def tw13635996090003531259:=()
def tw973239767204040305:=()
def tw9599237422177598074:=()
def tw6919899020888893674:=()
def tw13334383662726192905:=()
def tw6941842173693295983:=()
def tw18151953111677383641:=()
def tw16609957654386545993:=()
def tw16198606931907031323:=()
def tw1839765128935103271:=()
def tw9317845295909879942:=()
def tw17825722171910957402:=()
def tw14588533618949407597:=()
def tw6379238800818187164:=()
def tw3135091327455018938:=()
def tw12030838843563625169:=()
def tw15502775576400132151:=()
def tw16864453686576404550:=()
def tw21883310995731630:=()
def tw15727950838932974061:=()
def tw8368799093978174395:=()
def tw6710888941400058799:=()
def tw450417087948617111:=()
def tw4381083920884092662:=()
def tw5228193936317081945:=()
def tw2726821727646451088:=()
def tw970170089818964824:=()
def tw15650680481318705074:=()
def tw1385458511940076169:=()
def tw4018662362143161232:=()
def tw10404624498305159151:=()
def tw1178088370417071808:=()
def tw551982007439607838:=()
def tw16975283213335984044:=()
def tw5262390420161847834:=()
def tw14558904914446149363:=()
def tw4545904241220618330:=()
def tw6055135605060300303:=()
def tw2607420851628740760:=()
def tw2827797354707707866:=()
def tw16329636310004724094:=()
def tw12133830787524411769:=()
def tw7887425194252121871:=()
def tw7128994976413487591:=()
def tw2843147399717980041:=()
def tw10946887987345243619:=()
def tw5282429065261106098:=()
def tw17023703466599182449:=()
def tw1176774280198797550:=()
def tw8571109492592149645:=()
def tw10396825380432608200:=()
def tw3981678663444596091:=()
def tw17860916219071538369:=()
def tw6105548765732633654:=()
def tw14886505026203823400:=()
def tw12323229115842318160:=()
def tw2408903730362013124:=()
def tw17960992574238929021:=()
def tw2202037903102506779:=()
def tw14398097952664356960:=()
def tw2804515473561956086:=()
def tw15103371150261099514:=()
def tw510506052022647556:=()
def tw803076486038072533:=()
def tw6641792782089883203:=()
def tw12355126695026250315:=()
def tw13826887700436947459:=()
def tw6080602552965308851:=()
def tw4987683408061043351:=()
def tw9069082621746512720:=()
def tw8366470888514115088:=()
def tw15963996681436254079:=()
def tw12652213415193546650:=()
def tw16597325691327294857:=()
def tw18083949515834119673:=()
def tw4121814085132073530:=()
def tw11209870964464496744:=()
def tw535360509396569374:=()
def tw13743749422509455862:=()
def tw11921386291271770586:=()
def tw488871351445408767:=()
def tw14604200925134348448:=()
def tw17049225610149622879:=()
def tw186576082340716405:=()
def tw13337681542107290964:=()
def tw15863668348284216288:=()
def tw7483458446136837395:=()
def tw2603779754069984804:=()
def tw1586066210865177804:=()
def tw6529527366203974533:=()
def tw17791978446426091046:=()
def tw17216789620301393979:=()
def tw6856279680604305700:=()
def tw9654026250430847244:=()
def tw15984828615913288821:=()
def tw8159700042516914151:=()
def tw13009489936535912550:=()
def tw9108005237266313073:=()
def tw16388764986311554896:=()
def tw15896576250915827171:=()
def tw13577683972885880565:=()
def tw7670867997232157240:=()
def tw14732204513531188233:=()
def tw13732970338990441537:=()
def tw16689673209194844615:=()
def tw9011587014340594670:=()
def tw9448060128418733177:=()
def tw12367529999592714453:=()
def tw18267252155057936522:=()
def tw3167528572246144056:=()
def tw18236436268982704582:=()
def tw13316565540772221701:=()
def tw5007828631681019487:=()
def tw12239276287111807482:=()
def tw3936106958821193087:=()
def tw11294527722507941424:=()
def tw16975318891341358087:=()
def tw2806871101236292508:=()
def tw1501717963575910024:=()
def tw8941760100475493704:=()
def tw4544156099887860281:=()
def tw1826016662718863244:=()
def tw2703760804642240671:=()
def tw4217766304028523217:=()
def tw566743025756100633:=()
def tw2638343998073930647:=()
def tw15029450072958518875:=()
def tw5098920270649185007:=()
def tw9894013295249288001:=()
def tw8315268498356819086:=()
def tw13508399508519815285:=()
def tw10224489006270397252:=()
def tw7596885171222517520:=()
def tw288589692862319500:=()
def tw4905171538706876794:=()
def tw8419758036852339497:=()
def tw5774387090665415269:=()
def tw9972729971945632466:=()
def tw7811788559611161588:=()
def tw6221807355011221586:=()
def tw11798930842180251429:=()
def tw14742458331852396684:=()
def tw5744240861343523908:=()
def tw10495007609049543065:=()
def tw7894378352132326835:=()
def tw12053629926601394441:=()
def tw13148207153939738338:=()
def tw4861612409075706117:=()
def tw15649833927250535846:=()
def tw6358906473501894507:=()
def tw2681428055582506335:=()
def tw13557684741641696705:=()
def tw8087632596028819504:=()
def tw10257534349646857139:=()
def tw12259900920030716862:=()
def tw872905760205760161:=()
def tw4183428610427416853:=()
def tw15730617334963422474:=()
def tw9608665216107149701:=()
def tw817578093518487657:=()
def tw9166472369862923540:=()
def tw4967935454710334110:=()
def tw554634169961535809:=()
def tw11155342992684158783:=()
def tw5223088446770874896:=()
def tw702031568934654351:=()
def tw14943918214975766528:=()
def tw5451392775759725504:=()
def tw3147188068630167266:=()
def tw4637246393142730660:=()
def tw1859579776140328921:=()
def tw10710656291071336212:=()
def tw5669416441720770468:=()
end PySem.W.Fast
open PySem PySem.W PyProof.Rows
local macro_rules | `(tactic| walk_at "d") => `(tactic| first | exact Ez.Ll (by k_is) (by k_is) (by k_is) (by k_is) | (refine' Ez.Ll ?a ?l ?c ?k; (case a => k_is); (case l => k_is); (case c => k_is); (case k => k_is)))
local macro_rules | `(tactic| walk_at "m") => `(tactic| first | exact Ez.Lm (by k_is) (by k_is) (by k_is) (by k_is) (by k_is) | (refine' Ez.Lm ?a ?i ?l ?c ?k; (case a => k_is); (case i => k_is); (case l => k_is); (case c => k_is); (case k => k_is)))
set_option maxRecDepth 100000 in
set_option maxHeartbeats 0 in
theorem PySem.Challenge.cw_cutrestore_k22_whole_runs_told_holds : PySem.Challenge.rw_cutrestore_k22_whole_runs_told.Holds := by
 w_on;o_law;k_head;(case hw=>w_witness2)
 k_fill
 refine Ez.walk (l:=PySem.Challenge.rw_cutrestore_k22_whole_runs_told) rfl rfl (λw h Y=>W.kIn_of Y) ?F
 case F=>
  intro w mg fa h KX G QG
  refine' Ez.all_mk KX G QG ?nM ?JP ?JQ ?rS ?kQ ?kR ?mM ?kS ?kT ?mN ?jh ?pb ?pd ?pf ?mO ?kU ?mP ?ph ?pk ?iy ?pq ?ji ?gs ?pw ?kW ?rT ?j0 ?Gn ?iz ?kX ?j1 ?mQ ?iA ?iB ?ff ?kY ?kZ ?k7 ?eU ?iC ?k8 ?iD ?fP ?mR ?gP ?iE ?k9 ?pA ?gu ?j2 ?mS ?lj ?jj ?mT ?gv ?iF ?mU ?jk ?jl ?iG ?gQ ?gw ?jm ?mV ?eC ?jo ?Gq ?Gr ?pB ?pC ?pD ?pE ?pF ?pG ?BD ?BE ?Ko ?Nc ?Kp ?Gs ?Gu ?Gv ?Gw ?Gx ?Gy ?EB ?EC ?we ?wg ?yy ?Gz ?GB ?GC ?GD ?GG ?GH ?ED ?EE ?cQ ?cX ?cp ?dZ ?cK ?bG ?fc ?dg ?BF ?tQ ?Cw ?nc2 ?nc3 ?j3 ?GI ?zg ?GJ ?vj ?zh ?GK ?vk ?GL ?GN ?GO ?GP ?GQ ?lp ?dX ?dJ ?dM ?fb ?dy ?fq ?dN ?dY ?aF ?lF ?neF ?lP0 ?lP1 ?lP2 ?lP3 ?lP4 ?lP5 ?lP6 ?lP7
  (case nM=>k_is)
  (case JP=>k_is)
  (case JQ=>k_is)
  (case rS=>walk_at "d")
  (case kQ=>walk_at "d")
  (case kR=>walk_at "d")
  (case mM=>walk_at "d")
  (case kS=>walk_at "d")
  (case kT=>walk_at "d")
  (case mN=>walk_at "d")
  (case jh=>walk_at "d")
  (case pb=>walk_at "d")
  (case pd=>walk_at "d")
  (case pf=>walk_at "d")
  (case mO=>walk_at "d")
  (case kU=>walk_at "d")
  (case mP=>walk_at "d")
  (case ph=>walk_at "d")
  (case pk=>walk_at "d")
  (case iy=>walk_at "d")
  (case pq=>walk_at "d")
  (case ji=>walk_at "d")
  (case gs=>walk_at "d")
  (case pw=>walk_at "m")
  (case kW=>walk_at "d")
  (case rT=>walk_at "d")
  (case j0=>walk_at "d")
  (case Gn=>walk_at "m")
  (case iz=>walk_at "d")
  (case kX=>walk_at "d")
  (case j1=>walk_at "d")
  (case mQ=>walk_at "d")
  (case iA=>walk_at "d")
  (case iB=>walk_at "d")
  (case ff=>walk_at "m")
  (case kY=>walk_at "m")
  (case kZ=>walk_at "m")
  (case k7=>walk_at "m")
  (case eU=>walk_at "d")
  (case iC=>walk_at "m")
  (case k8=>walk_at "m")
  (case iD=>walk_at "m")
  (case fP=>walk_at "m")
  (case mR=>walk_at "m")
  (case gP=>walk_at "d")
  (case iE=>walk_at "m")
  (case k9=>walk_at "d")
  (case pA=>walk_at "m")
  (case gu=>walk_at "d")
  (case j2=>walk_at "d")
  (case mS=>walk_at "d")
  (case lj=>walk_at "d")
  (case jj=>walk_at "d")
  (case mT=>walk_at "d")
  (case gv=>walk_at "m")
  (case iF=>walk_at "m")
  (case mU=>walk_at "m")
  (case jk=>walk_at "m")
  (case jl=>walk_at "m")
  (case iG=>walk_at "m")
  (case gQ=>walk_at "m")
  (case gw=>walk_at "m")
  (case jm=>walk_at "m")
  (case mV=>walk_at "m")
  (case eC=>walk_at "m")
  (case jo=>walk_at "m")
  (case Gq=>walk_at "m")
  (case Gr=>walk_at "d")
  (case pB=>k_is)
  (case pC=>k_is)
  (case pD=>k_is)
  (case pE=>k_is)
  (case pF=>k_is)
  (case pG=>k_is)
  (case BD=>k_is)
  (case BE=>k_is)
  (case Ko=>k_is)
  (case Nc=>k_is)
  (case Kp=>k_is)
  (case Gs=>k_is)
  (case Gu=>k_is)
  (case Gv=>k_is)
  (case Gw=>k_is)
  (case Gx=>k_is)
  (case Gy=>k_is)
  (case EB=>k_is)
  (case EC=>k_is)
  (case we=>k_is)
  (case wg=>k_is)
  (case yy=>k_is)
  (case Gz=>k_is)
  (case GB=>k_is)
  (case GC=>k_is)
  (case GD=>k_is)
  (case GG=>k_is)
  (case GH=>k_is)
  (case ED=>k_is)
  (case EE=>k_is)
  (case cQ=>k_is)
  (case cX=>k_is)
  (case cp=>k_is)
  (case dZ=>k_is)
  (case cK=>k_is)
  (case bG=>k_is)
  (case fc=>k_is)
  (case dg=>k_is)
  (case BF=>k_is)
  (case tQ=>k_is)
  (case Cw=>k_is)
  (case nc2=>k_is)
  (case nc3=>first | rfl | decide | k_is)
  (case j3=>k_is)
  (case GI=>k_is)
  (case zg=>k_is)
  (case GJ=>k_is)
  (case vj=>k_is)
  (case zh=>k_is)
  (case GK=>k_is)
  (case vk=>k_is)
  (case GL=>k_is)
  (case GN=>k_is)
  (case GO=>k_is)
  (case GP=>k_is)
  (case GQ=>k_is)
  (case lp=>k_is)
  (case dX=>k_is)
  (case dJ=>k_is)
  (case dM=>k_is)
  (case fb=>k_is)
  (case dy=>k_is)
  (case fq=>k_is)
  (case dN=>k_is)
  (case dY=>k_is)
  (case aF=>k_is)
  (case lF=>k_is)
  (case neF=>first | rfl | decide)
  (case lP0=>k_is)
  (case lP1=>k_is)
  (case lP2=>k_is)
  (case lP3=>k_is)
  (case lP4=>k_is)
  (case lP5=>k_is)
  (case lP6=>k_is)
  (case lP7=>k_is)
