import PyProof.Rows.All
import Wide.All
import OpenK.AllK
import Wide.FinOn
import Lean
import PyProof.EqAt
import PyProof.EqKinds
import PyProof.TupleCall
import PyProof.NeKinds
import PyProof.Rows.Range3
import PyProof.Draws
import PyProof.ZipIter
import PyProof.SumWalk
import PyProof.Rows.FactsT2
import PyProof.EnumMake
import PyProof.Rows.EnumRows
import KE.KTab
import KE.KIsAll
import PyProof.ExcClass3
import PyProof.InstStoreFacts
import PyProof.ExcArgsOwn
import PyProof.ExcBaseAll.ValueError
import PyProof.ExcAttrAll.ValueError
import PyProof.StationsW
import PyProof.RulesAs
import PyProof.NsDelKeeps
import PyProof.PassesOwn
import PyProof.Rows.ListMulArg
import PySem.Challenge.RW_cutrestore_k14_machines_refused

set_option Elab.async false
set_option linter.all false
set_option maxRecDepth 100000

namespace L2
open PySem PySem.Spec PyProof.Rows

abbrev Key := Sum Int Str
def keyIs : Key → Value → Bool
  | .inl k, v => Value.isInt k v
  | .inr x, v => Value.isStrOf x v
def keyH (w : World) : Key → Int
  | .inl k => hashInt k
  | .inr x => hashStr w x
theorem keyIs_shape : ∀ {k : Key} {v : Value}, keyIs k v = true → (∃ i t, k = Sum.inl i ∧ v = Value.int i t) ∨ (∃ x t, k = Sum.inr x ∧ v = Value.str x t)
  | .inl i, v, h => by
    obtain ⟨t, e⟩ := Value.isInt_shape (k := i) (v := v) h
    exact .inl ⟨i, t, rfl, e⟩
  | .inr x, v, h => by
    obtain ⟨t, e⟩ := Value.isStrOf_shape (x := x) (v := v) h
    exact .inr ⟨x, t, rfl, e⟩
theorem keyIs_int (i : Int) (t : Tok) : keyIs (.inl i) (.int i t) = true := by simp [keyIs, Value.isInt]
theorem keyIs_str (x : Str) (t : Tok) : keyIs (.inr x) (.str x t) = true := by simp [keyIs, Value.isStrOf]
theorem key_ll (a b : Int) : decide ((Sum.inl a : Key) = Sum.inl b) = (a == b) := by
  by_cases e : a = b
  · subst e; simp
  · have h : ¬ (Sum.inl a : Key) = Sum.inl b := fun q => e (Sum.inl.inj q)
    rw [decide_eq_false h]
    exact (beq_eq_false_iff_ne.mpr e).symm
theorem key_rr (a b : Str) : decide ((Sum.inr a : Key) = Sum.inr b) = decide (a = b) := by
  by_cases e : a = b
  · subst e; simp
  · have h : ¬ (Sum.inr a : Key) = Sum.inr b := fun q => e (Sum.inr.inj q)
    rw [decide_eq_false h, decide_eq_false e]
theorem key_lr (a : Int) (b : Str) : decide ((Sum.inl a : Key) = Sum.inr b) = false := decide_eq_false (fun q => nomatch q)
theorem key_rl (a : Str) (b : Int) : decide ((Sum.inr a : Key) = Sum.inl b) = false := decide_eq_false (fun q => nomatch q)

def mixKind (prog : Program) (w : World) : PySem.KeyKind prog w Key where
  is := keyIs
  hash := keyH w
  inj := fun v a b ha hb => by
    rcases keyIs_shape ha with ⟨i, t, rfl, rfl⟩ | ⟨x, t, rfl, rfl⟩
    · rcases keyIs_shape hb with ⟨j, u, rfl, e⟩ | ⟨y, u, rfl, e⟩
      · injection e with e1 _; rw [e1]
      · exact nomatch e
    · rcases keyIs_shape hb with ⟨j, u, rfl, e⟩ | ⟨y, u, rfl, e⟩
      · exact nomatch e
      · injection e with e1 _; rw [e1]
  byValue := fun k v h => by
    rcases keyIs_shape h with ⟨i, t, rfl, rfl⟩ | ⟨x, t, rfl, rfl⟩ <;> rfl
  pyHash := fun hv h => by
    rcases keyIs_shape hv with ⟨i, t, rfl, rfl⟩ | ⟨x, t, rfl, rfl⟩
    · exact wpAny_pyHash_int h
    · exact wpAny_pyHash_str h
  eqBool := fun hu hv h => by
    rcases keyIs_shape hu with ⟨i, t, rfl, rfl⟩ | ⟨x, t, rfl, rfl⟩
    · rcases keyIs_shape hv with ⟨j, u, rfl, rfl⟩ | ⟨y, u, rfl, rfl⟩
      · rw [key_ll] at h; exact wpAny_eqBool_int h
      · rw [key_lr] at h; exact SeqAt.EqAt.int_str i t y u _ _ _ _ h
    · rcases keyIs_shape hv with ⟨j, u, rfl, rfl⟩ | ⟨y, u, rfl, rfl⟩
      · rw [key_rl] at h; exact SeqAt.EqAt.str_int x t j u _ _ _ _ h
      · rw [key_rr] at h; exact wpAny_eqBool_str h
  «strs» := fun k x t v h => by
    rcases keyIs_shape h with ⟨i, u, rfl, e⟩ | ⟨y, u, rfl, e⟩
    · exact nomatch e
    · injection e with e1 _
      subst e1
      cases v <;> rfl

theorem mixKind_int (prog : Program) (w : World) (i : Int) (t : Tok) : (mixKind prog w).is (.inl i) (.int i t) = true := keyIs_int i t
theorem mixKind_str (prog : Program) (w : World) (x : Str) (t : Tok) : (mixKind prog w).is (.inr x) (.str x t) = true := keyIs_str x t
end L2

namespace L2
open PySem PySem.Spec PyProof.Rows

inductive V where
  | non | bl (b : Bool) | int (i : Int) | str (x : Str) | byt (b : Array UInt8) | flt (b : UInt64) | ref (a : Addr) | ty (n : String)
  deriving DecidableEq

def RelV : V → Value → Prop
  | .non, u => u = Value.none
  | .bl b, u => u = Value.bool b
  | .int i, u => ∃ t, u = Value.int i t
  | .str x, u => ∃ t, u = Value.str x t
  | .byt b, u => ∃ t, u = Value.bytes b t
  | .flt b, u => ∃ t, u = Value.float b t
  | .ref a, u => u = Value.ref a
  | .ty n, u => u = Value.type n

abbrev Vals : List V → List Value → Prop := Paired RelV
theorem Vals.length {xs : List V} {us : List Value} (r : Vals xs us) : xs.length = us.length := Paired.length r
theorem Vals.get : ∀ {xs : List V} {us : List Value} {i : Nat} {x : V}, Vals xs us → xs[i]? = some x → ∃ u, us[i]? = some u ∧ RelV x u
  | _, _, _, _, .nil, e => by simp at e
  | _, _, 0, _, .cons r _, e => by simp at e; subst e; exact ⟨_, rfl, r⟩
  | _, _, i + 1, x, .cons _ t, e => by
    obtain ⟨u, h1, h2⟩ := Vals.get (i := i) (x := x) t (by simpa using e)
    exact ⟨u, by simpa using h1, h2⟩
theorem Vals.set {x : V} {u : Value} (r : RelV x u) : ∀ {xs : List V} {us : List Value} (i : Nat), Vals xs us → Vals (xs.set i x) (us.set i u)
  | _, _, _, .nil => .nil
  | _, _, 0, .cons _ t => .cons r t
  | _, _, i + 1, .cons q t => .cons q (Vals.set r i t)
theorem Vals.append : ∀ {xs ys : List V} {us ws : List Value}, Vals xs us → Vals ys ws → Vals (xs ++ ys) (us ++ ws)
  | _, _, _, _, .nil, s => s
  | _, _, _, _, .cons r t, s => .cons r (Vals.append t s)
theorem Vals.take : ∀ {xs : List V} {us : List Value} (n : Nat), Vals xs us → Vals (xs.take n) (us.take n)
  | _, _, 0, _ => .nil
  | _, _, _ + 1, .nil => .nil
  | _, _, n + 1, .cons r t => .cons r (Vals.take n t)
theorem Vals.drop : ∀ {xs : List V} {us : List Value} (n : Nat), Vals xs us → Vals (xs.drop n) (us.drop n)
  | _, _, 0, r => r
  | _, _, _ + 1, .nil => .nil
  | _, _, n + 1, .cons _ t => Vals.drop n t
def RelO : Option V → Option Value → Prop
  | some v, some u => RelV v u
  | none, none => True
  | _, _ => False
def KV {κ : Type} : List (κ × V) → List (κ × Value) → Prop := Paired fun (p : κ × V) (q : κ × Value) => p.1 = q.1 ∧ RelV p.2 q.2

def kV : Key → V
  | .inl i => .int i
  | .inr x => .str x

inductive HO where

  | lst (xs : List V)

  | tup (xs : List V)

  | dK (kvs : List (Key × V)) | dT (kvs : List (List Key × V))

  | set (S : Int → Bool) (n : Nat)

  | ins (C dx : Addr) (fs : List (Str × V))

  | own (x : Addr)

  | xd (fs : List (Str × V))

  | met (f x : Addr)

  | rng (lo hi : Int)

  | frz (o : Obj) (u : HO)

  | tbl (ps : Array Value)

  | ext (φ : Heap → Prop)

abbrev Hp := Addr → Option HO
def upd (H : Hp) (a : Addr) (o : HO) : Hp := fun b => if b = a then some o else H b
theorem upd_same {H : Hp} {a : Addr} {o : HO} : upd H a o a = some o := by unfold upd; rw [if_pos rfl]
theorem upd_ne {H : Hp} {a b : Addr} {o : HO} (h : b ≠ a) : upd H a o b = H b := by unfold upd; rw [if_neg h]
theorem ne_of_none {H : Hp} {a b : Addr} {o : HO} (h : H a = some o) (h' : H b = none) : a ≠ b := by
  intro e; subst e; rw [h] at h'; cases h'

section
variable (P : Program) (w : World)
def ObjOk (H : Hp) (h : Heap) (a : Addr) : HO → Prop
  | .lst xs => xs.length ≤ sizeLine ∧ ∃ (its : List Value) (n : Nat), Vals xs its ∧ h.get? a = some { cls := .type "list", data := .seq its.toArray n }
  | .tup xs => xs.length ≤ sizeLine ∧ ∃ its : List Value, Vals xs its ∧ IsTup h a its.toArray
  | .dK kvs => kvs.length ≤ sizeLine ∧ (a == sysModules) = false ∧ ∃ vs, KV kvs vs ∧ h.DictOf (mixKind P w) a vs
  | .dT kvs => kvs.length ≤ sizeLine ∧ (a == sysModules) = false ∧ ∃ xs : List (List Key × Addr × Value),
      Paired (fun (p : List Key × V) (q : List Key × Addr × Value) => p.1 = q.1 ∧ H q.2.1 = some (.tup (p.1.map kV)) ∧ RelV p.2 q.2.2) kvs xs ∧
      ∃ o es ep, h.get? a = some o ∧ o.ExactDict ∧ o.data = .dict es ep ∧ es.toList = xs.map (entryOfKey (tupleKind (mixKind P w))) ∧ (xs.map (·.1)).Nodup
  | .set S n => h.SetOf (intKind P w) a S n
  | .ins C dx fs => H dx = some (.own a) ∧ fs.length ≤ 1000 ∧ dx ≠ a ∧ h.get? a = some (PySem.W.instObj C dx) ∧
      ∃ mA, h.Ns1 dx mA ∧ (∀ f, RelO (fs.lookup f) (mA f)) ∧ PySem.Within mA (fs.map (·.1))
  | .own _ => ∃ o, h.get? a = some o
  | .xd fs => ∃ mA, h.Ns1 a mA ∧ ∀ f, RelO (fs.lookup f) (mA f)
  | .rng lo hi => ∃ t u v, h.get? a = some { cls := .type "range", data := .fields #[.int lo t, .int hi u, .int 1 v] }
  | .frz o u => h.get? a = some o ∧ ObjOk H h a u
  | .tbl ps => h.get? a = some { cls := .none, data := .fields ps }
  | .met f x => h.get? a = some (PySem.W.methodObj (.ref f) (.ref x))
  | .ext φ => φ h ∧ (∃ o, h.get? a = some o) ∧ ∀ h1 h2 : Heap, φ h1 → (∀ o, h1.get? a = some o → h2.get? a = some o) → φ h2

def HOk (H : Hp) (h : Heap) : Prop := ∀ a o, H a = some o → ObjOk P w H h a o
end

section
variable {P : Program} {w : World} {H H' : Hp} {h h' : Heap} {a : Addr} {o : HO}
theorem ObjOk.lt (x : ObjOk P w H h a o) : a < h.objs.size := by
  cases o with
  | lst xs => obtain ⟨_, _, _, _, e⟩ := x; exact Heap.lt_size e
  | tup xs => obtain ⟨_, _, _, p⟩ := x; exact p.lt
  | dK kvs => obtain ⟨_, _, _, _, o, _, _, e, _⟩ := x; exact Heap.lt_size e
  | dT kvs => obtain ⟨_, _, _, _, o, _, _, e, _⟩ := x; exact Heap.lt_size e
  | set S n => obtain ⟨o, _, _, _, e, _⟩ := x; exact Heap.lt_size e
  | ins C dx fs => obtain ⟨_, _, _, e, _⟩ := x; exact Heap.lt_size e
  | own y => obtain ⟨_, e⟩ := x; exact Heap.lt_size e
  | xd fs => obtain ⟨_, ⟨_, _, _, e, _⟩, _⟩ := x; exact Heap.lt_size e
  | rng lo hi => obtain ⟨_, _, _, e⟩ := x; exact Heap.lt_size e
  | frz ob u => obtain ⟨e, _⟩ := x; exact Heap.lt_size e
  | tbl ps => exact Heap.lt_size (show h.get? a = some _ from x)
  | met f y => exact Heap.lt_size (show h.get? a = some _ from x)
  | ext φ => obtain ⟨_, ⟨_, e⟩, _⟩ := x; exact Heap.lt_size e
theorem Paired.mapP {α β : Type} {F G : α → β → Prop} : ∀ {l₁ : List α} {l₂ : List β}, Paired F l₁ l₂ → (∀ a b, F a b → G a b) → Paired G l₁ l₂
  | _, _, .nil, _ => .nil
  | _, _, .cons r t, f => .cons (f _ _ r) (Paired.mapP t f)
theorem ObjOk.stay (x : ObjOk P w H h a o) (k : ∀ b u, (b = a ∨ H b = some (.own a)) → h.get? b = some u → h'.get? b = some u)
    (ho : ∀ b, H b = some (.own a) → H' b = some (.own a)) (ht : ∀ b xs, H b = some (.tup xs) → H' b = some (.tup xs)) : ObjOk P w H' h' a o := by
  induction o with
  | lst xs => obtain ⟨z, its, n, r, e⟩ := x; exact ⟨z, its, n, r, k _ _ (.inl rfl) e⟩
  | tup xs => obtain ⟨z, its, r, ob, e, c⟩ := x; exact ⟨z, its, r, ob, k _ _ (.inl rfl) e, c⟩
  | dK kvs => obtain ⟨z, y, vs, r, ob, es, ep, e, c⟩ := x; exact ⟨z, y, vs, r, ob, es, ep, k _ _ (.inl rfl) e, c⟩
  | dT kvs =>
    obtain ⟨z, y, xs, r, ob, es, ep, e, c⟩ := x
    exact ⟨z, y, xs, Paired.mapP r fun p q z => ⟨z.1, ht _ _ z.2.1, z.2.2⟩, ob, es, ep, k _ _ (.inl rfl) e, c⟩
  | set S n => obtain ⟨ob, es, ep, t, e, c⟩ := x; exact ⟨ob, es, ep, t, k _ _ (.inl rfl) e, c⟩
  | ins C dx fs =>
    obtain ⟨d, z, ne, e, mA, ⟨od, es, ep, e2, c⟩, r⟩ := x
    exact ⟨ho _ d, z, ne, k _ _ (.inl rfl) e, mA, ⟨od, es, ep, k _ _ (.inr d) e2, c⟩, r⟩
  | own y => obtain ⟨ob, e⟩ := x; exact ⟨ob, k _ _ (.inl rfl) e⟩
  | xd fs => obtain ⟨mA, ⟨od, es, ep, e, c⟩, r⟩ := x; exact ⟨mA, ⟨od, es, ep, k _ _ (.inl rfl) e, c⟩, r⟩
  | rng lo hi => obtain ⟨t, u, v, e⟩ := x; exact ⟨t, u, v, k _ _ (.inl rfl) e⟩
  | frz ob u ih => obtain ⟨e, q⟩ := x; exact ⟨k _ _ (.inl rfl) e, ih q⟩
  | tbl ps =>
    have e : h.get? a = some { cls := .none, data := .fields ps } := x
    show h'.get? a = some { cls := .none, data := .fields ps }
    exact k a _ (.inl rfl) e
  | met f y =>
    have e : h.get? a = some (PySem.W.methodObj (.ref f) (.ref y)) := x
    show h'.get? a = some (PySem.W.methodObj (.ref f) (.ref y))
    exact k a _ (.inl rfl) e
  | ext φ => obtain ⟨p, ⟨o, e⟩, st⟩ := x; exact ⟨st _ _ p fun o q => k _ _ (.inl rfl) q, ⟨o, k _ _ (.inl rfl) e⟩, st⟩
theorem HOk.lt (x : HOk P w H h) (e : H a = some o) : a < h.objs.size := (x a o e).lt
theorem HOk.fresh (x : HOk P w H h) (e : h.objs.size ≤ a) : H a = none := by
  cases q : H a with
  | none => rfl
  | some u => exact absurd (Nat.lt_of_lt_of_le (x.lt q) e) (Nat.lt_irrefl _)

theorem HOk.kept (x : HOk P w H h) (k : ∀ b u, h.get? b = some u → h'.get? b = some u) : HOk P w H h' := fun a o e =>
  (x a o e).stay (fun b u _ q => k b u q) (fun _ q => q) fun _ _ q => q

theorem HOk.laid (x : HOk P w H h) (k : ∀ b u, h.get? b = some u → h'.get? b = some u) (hp : h.objs.size ≤ a) (new : ObjOk P w (upd H a o) h' a o) : HOk P w (upd H a o) h' := fun b u e => by
  have hn := x.fresh hp
  by_cases hb : b = a
  · subst hb; rw [upd_same] at e; cases e; exact new
  · rw [upd_ne hb] at e
    exact (x b u e).stay (fun c v _ q => k c v q) (fun c q => by rw [upd_ne (ne_of_none q hn)]; exact q) fun c xs q => by rw [upd_ne (ne_of_none q hn)]; exact q
end

def Rd (H : Hp) (a : Addr) (u : HO) : Prop := H a = some u ∨ ∃ o, H a = some (.frz o u)
theorem Rd.of {H : Hp} {a : Addr} {u : HO} (h : H a = some u) : Rd H a u := .inl h
theorem Rd.ok {P : Program} {w : World} {H : Hp} {h : Heap} {a : Addr} {u : HO} (r : Rd H a u) (x : HOk P w H h) : ObjOk P w H h a u := by
  rcases r with r | ⟨o, r⟩
  · exact x a u r
  · obtain ⟨_, q⟩ := x a _ r
    exact q

def Mut : Option HO → Prop
  | some (.lst _) => True
  | some (.dK _) => True
  | some (.dT _) => True
  | some (.set _ _) => True
  | some (.ins _ _ _) => True
  | some (.ext _) => True
  | _ => False
section
variable {P : Program} {w : World} {H : Hp} {h h' : Heap} {x e : Addr} {o' : HO}

theorem HOk.write (ok : HOk P w H h) (mu : Mut (H x)) (he : e = x ∨ H e = some (.own x)) (k : ∀ b u, b ≠ e → h.get? b = some u → h'.get? b = some u) (heo : ∃ u, h'.get? e = some u)
    (new : ObjOk P w (upd H x o') h' x o') : HOk P w (upd H x o') h' := fun b u q => by
  have nown : ∀ c y, H c = some (.own y) → c ≠ x := fun c y r z => by subst z; rw [r] at mu; exact mu
  have ntup : ∀ c xs, H c = some (.tup xs) → c ≠ x := fun c xs r z => by subst z; rw [r] at mu; exact mu
  by_cases hb : b = x
  · subst hb; rw [upd_same] at q; cases q; exact new
  · rw [upd_ne hb] at q
    by_cases hbe : b = e
    · have q' : H b = some (.own x) := by
        rcases he with z | z
        · exact absurd (hbe.trans z) hb
        · rw [hbe]; exact z
      rw [q] at q'; cases q'
      obtain ⟨v, hv⟩ := heo
      exact ⟨v, by rw [hbe]; exact hv⟩
    · refine (ok b u q).stay (fun c v hc r => k c v ?_ r) (fun c r => by rw [upd_ne (nown c b r)]; exact r) fun c xs r => by rw [upd_ne (ntup c xs r)]; exact r
      rcases hc with rfl | hc
      · exact hbe
      · rintro rfl
        rcases he with z | z
        · exact nown c b hc z
        · rw [hc] at z; cases z; exact hb rfl
end

structure Un (fs ex : List Addr) (H H' : Hp) (h h' : Heap) : Prop where
  keep : ∀ b o, h.get? b = some o → H b = none → b ∉ fs → b ∉ ex → h'.get? b = some o
  slot : ∀ b o, h.get? b = some o → H b = none → b ∈ fs → b ∉ ex → ∃ sl, h'.get? b = some { o with slots := sl }
  free : ∀ b o, h.get? b = some o → H b = none → b ∉ ex → H' b = none
  there : ∀ b o, h.get? b = some o → b ∉ ex → ∃ o', h'.get? b = some o'
  tups : ∀ b xs, H b = some (.tup xs) → H' b = some (.tup xs)
  frzs : ∀ b o u, H b = some (.frz o u) → H' b = some (.frz o u)
  tbls : ∀ b ps, H b = some (.tbl ps) → ∃ more, H' b = some (.tbl (ps ++ more))
section
variable {fs fs' ex ex' : List Addr} {H H1 H2 : Hp} {h h1 h2 h' : Heap} {a x e : Addr} {o : HO}
theorem Un.any (u : Un fs ex H H1 h h1) {b : Addr} {ob : Obj} (q : h.get? b = some ob) (n : H b = none) (hx : b ∉ ex) : ∃ sl, h1.get? b = some { ob with slots := sl } := by
  by_cases hb : b ∈ fs
  · exact u.slot b ob q n hb hx
  · exact ⟨ob.slots, u.keep b ob q n hb hx⟩
theorem Un.kept (k : ∀ b u, h.get? b = some u → h'.get? b = some u) : Un fs ex H H h h' :=
  ⟨fun b ob q _ _ _ => k b ob q, fun b ob q _ _ _ => ⟨ob.slots, k b ob q⟩, fun _ _ _ n _ => n, fun b ob q _ => ⟨ob, k b ob q⟩, fun _ _ q => q, fun _ _ _ q => q, fun _ ps q => ⟨#[], by rw [q]; simp⟩⟩
theorem Un.refl : Un fs ex H H h h := Un.kept fun _ _ q => q
theorem Un.laid (k : ∀ b u, h.get? b = some u → h'.get? b = some u) (hp : h.objs.size ≤ a) (hn : H a = none) : Un fs ex H (upd H a o) h h' where
  keep := fun b u q _ _ _ => k b u q
  slot := fun b u q _ _ _ => ⟨u.slots, k b u q⟩
  free := fun b u q n _ => by rw [upd_ne (Nat.ne_of_lt (Nat.lt_of_lt_of_le (Heap.lt_size q) hp))]; exact n
  there := fun b u q _ => ⟨u, k b u q⟩
  tups := fun b xs q => by rw [upd_ne (ne_of_none q hn)]; exact q
  frzs := fun b u xs q => by rw [upd_ne (ne_of_none q hn)]; exact q
  tbls := fun b ps q => ⟨#[], by rw [upd_ne (ne_of_none q hn), q]; simp⟩
theorem Un.write (mu : Mut (H x)) (he : e = x ∨ H e = some (.own x)) (k : ∀ b u, b ≠ e → h.get? b = some u → h'.get? b = some u) (heo : ∃ u, h'.get? e = some u) : Un fs ex H (upd H x o) h h' := by
  have hx : ∀ b, H b = none → b ≠ x := fun b n z => by subst z; rw [n] at mu; exact mu
  have hb : ∀ b, H b = none → b ≠ e := fun b n z => by
    subst z
    rcases he with r | r
    · exact hx b n r
    · rw [n] at r; cases r
  have hm : ∀ b u, H b = some u → ¬ Mut (some u) → b ≠ x := fun b u q nm z => by subst z; rw [q] at mu; exact nm mu
  refine ⟨fun b u q n _ _ => k b u (hb b n) q, fun b u q n _ _ => ⟨u.slots, k b u (hb b n) q⟩, fun b u q n _ => by rw [upd_ne (hx b n)]; exact n, fun b u q _ => ?_,
    fun b xs q => by rw [upd_ne (hm b _ q fun z => z)]; exact q, fun b u xs q => by rw [upd_ne (hm b _ q fun z => z)]; exact q, fun b ps q => ⟨#[], by rw [upd_ne (hm b _ q fun z => z), q]; simp⟩⟩
  by_cases hbe : b = e
  · subst hbe; exact heo
  · exact ⟨u, k b u hbe q⟩
end

def trk (h : Heap) (H : Hp) : List Addr := (List.range h.objs.size).filter fun a => (H a).isSome
def hidT (h : Heap) (H : Hp) : Heap := PySem.W.hideAll h (trk h H)
theorem hidT_size (h : Heap) (H : Hp) : (hidT h H).objs.size = h.objs.size := PySem.W.hideAll_size _ _
theorem hidT_get {h : Heap} {H : Hp} {b : Addr} {o : Obj} (e : h.get? b = some o) (n : H b = none) : (hidT h H).get? b = some o :=
  PySem.W.hideAll_get _ e fun hm => by
    have q : (H b).isSome = true := (List.mem_filter.mp hm).2
    rw [n] at q; simp at q
theorem of_hidT {h : Heap} {H : Hp} {b : Addr} {o : Obj} (e : (hidT h H).get? b = some o) : h.get? b = some o ∧ H b = none := by
  have e' : h.get? b = some o := PySem.W.of_hideAll (trk h H) e
  refine ⟨e', ?_⟩
  cases q : H b with
  | none => rfl
  | some x =>
    have hm : b ∈ trk h H := List.mem_filter.mpr ⟨List.mem_range.mpr (Heap.lt_size e'), by simp [q]⟩
    have z : (hidT h H).get? b = none := PySem.W.hideAll_none (trk h H) hm
    rw [z] at e; cases e

def allNews (g h : Heap) (L : Addr) : List (Addr × Obj) := (List.range h.objs.size).filterMap fun a => if a = L ∨ (g.get? a).isSome = true then none else (h.get? a).map fun o => (a, o)
def rest (g h : Heap) (L d : Addr) : List (Addr × Obj) := (allNews g h L).filter fun p => decide (p.1 ≠ d)
end L2

namespace L2
open PySem PySem.Spec PyProof.Rows

structure Mod (K : PySem.W.Frag) (mg : Str → Option Value) (base : Heap) : Prop where
  kin : K.In base
  glob : base.Ns mainGlobals mg
  blt : ∃ mb, base.Ns builtinsNs mb ∧ ∀ x : Str, x ≠ "__name__" → mb x = bootBuiltins x
  nolimit : base.NoLimit

structure Cx where
  prog : Program
  w : World
  K : PySem.W.Frag
  mg : Str → Option Value
  base : Heap
  A : Around
  N : List Str
  s₀ : Shared
  H₀ : Hp
  env : Env
  outer : List Env
  stack : List Env
  ex : List Addr
  fn : Str → Bool
  calm : Bool
  pn : List (Addr × Obj)
  xe : Value → Shared → Prop

def frs (l : List Env) : List Addr := l.filterMap (·.frame)
abbrev Cx.fs (X : Cx) : List Addr := frs X.outer

def Vis (sc : Scope) (x : Str) : Prop := sc.names.lookup x = some .local ∨ sc.names.lookup x = some .cell ∨ sc.names.lookup x = some .free
def Loc (sc : Scope) (x : Str) : Prop := sc.names.lookup x = some .local ∨ sc.names.lookup x = some .cell
def Look (env : Env) (h : Heap) (m : Str → Option Value) (x : Str) (u : Value) : Prop :=
  (env.kindOf x = some .local ∧ m x = some u) ∨ ((env.kindOf x = some .cell ∨ env.kindOf x = some .free) ∧ ∃ c, env.cells.lookup x = some c ∧ h.IsCell c (some u))

structure Cx.Ok (X : Cx) : Prop where
  mod : Mod X.K X.mg X.base
  kind : X.env.scope.kind = .function
  glob : X.env.globals = mainGlobals
  blt : X.env.builtins = builtinsNs
  above : X.s₀.heap.objs.size ≤ X.env.locals
  inj : ∀ x y c, X.env.cells.lookup x = some c → X.env.cells.lookup y = some c → x = y
  has : ∀ x, (X.env.kindOf x = some .cell ∨ X.env.kindOf x = some .free) → ∃ c, X.env.cells.lookup x = some c
  cab : ∀ x c, X.fn x = true → X.env.cells.lookup x = some c → X.s₀.heap.objs.size ≤ c
  hd : X.calm = true → X.A.handled = none
  frames : X.A.frames = some X.stack
  stk : X.stack = X.outer ∨ (X.stack = X.env :: X.outer ∧ X.env.frame = some X.env.locals)
  exf : ∀ b ∈ X.ex, b ≠ X.env.locals ∧ ∀ x c, X.env.cells.lookup x = some c → c ≠ b
  bs : ∀ b o, X.base.get? b = some o → X.s₀.heap.get? b = some o ∧ X.H₀ b = none
  bsz : X.base.objs.size ≤ X.s₀.heap.objs.size
  noex : ∀ b o, X.base.get? b = some o → b ∉ X.ex
  exfs : ∀ b ∈ X.ex, b ∉ X.fs
  funs : X.s₀.heap.FunFrames X.base X.outer
  frf : ∀ b ∈ X.fs, X.H₀ b = none

structure Inv (X : Cx) (pins : List (Addr × Obj)) (σ : List (Option V)) (H : Hp) (s : Shared) : Prop where
  ok : X.Ok
  os : s.os = X.s₀.os
  bare : AllBare s.gens
  base : Un X.fs X.ex X.H₀ H X.s₀.heap s.heap
  loc : ∃ m, s.heap.Ns X.env.locals m ∧ ∀ (i : Nat) (x : Str) (v : V), X.N[i]? = some x → σ[i]? = some (some v) → Vis X.env.scope x → ∃ u, RelV v u ∧ Look X.env s.heap m x u
  cell : ∀ x c, X.env.cells.lookup x = some c → ∃ v, s.heap.IsCell c v
  free : H X.env.locals = none
  freeC : ∀ x c, X.env.cells.lookup x = some c → H c = none
  pin : ∀ p ∈ X.pn ++ pins, s.heap.get? p.1 = some p.2 ∧ H p.1 = none ∧ p.1 ≠ X.env.locals ∧ p.1 ∉ X.fs ∧ ∀ v, p.2.data ≠ .cell v
  hok : HOk X.prog X.w H s.heap
  len : σ.length = X.N.length

section
variable {X : Cx} {pins : List (Addr × Obj)} {σ : List (Option V)} {H H' : Hp} {s : Shared} {h' : Heap}

theorem Cx.Ok.nofr (ok : X.Ok) {b : Addr} {o : Obj} (e : X.base.get? b = some o) : b ∉ X.fs := fun hb => by
  have := (ok.funs.mem hb).1
  rw [e] at this; cases this
theorem Inv.bs (I : Inv X pins σ H s) : ∀ b o, X.base.get? b = some o → s.heap.get? b = some o ∧ H b = none := fun b o e =>
  ⟨I.base.keep b o (I.ok.bs b o e).1 (I.ok.bs b o e).2 (I.ok.nofr e) (I.ok.noex b o e), I.base.free b o (I.ok.bs b o e).1 (I.ok.bs b o e).2 (I.ok.noex b o e)⟩
theorem Inv.bk (I : Inv X pins σ H s) : ∀ b o, X.base.get? b = some o → s.heap.get? b = some o := fun b o e => (I.bs b o e).1
theorem Inv.mod (I : Inv X pins σ H s) : Mod X.K X.mg X.base := I.ok.mod
theorem Inv.kIn (I : Inv X pins σ H s) : X.K.In s.heap := I.ok.mod.kin.keeps I.bk
theorem Inv.lt (I : Inv X pins σ H s) : X.env.locals < s.heap.objs.size := let ⟨_, hn, _⟩ := I.loc; hn.lt
theorem Inv.sz (I : Inv X pins σ H s) : X.s₀.heap.objs.size ≤ s.heap.objs.size := Nat.le_trans I.ok.above (Nat.le_of_lt I.lt)
theorem Inv.nofs (I : Inv X pins σ H s) {a : Addr} (h : s.heap.objs.size ≤ a) : a ∉ X.fs := fun hb => by
  obtain ⟨_, o, ho, _⟩ := I.ok.funs.mem hb
  exact absurd (Nat.lt_of_lt_of_le (Heap.lt_size ho) (Nat.le_trans I.sz h)) (Nat.lt_irrefl _)
theorem Inv.cne (I : Inv X pins σ H s) : ∀ x c, X.env.cells.lookup x = some c → c ≠ X.env.locals := fun x c e z => by
  obtain ⟨v, o, ho, hd⟩ := I.cell x c e
  obtain ⟨m, ⟨o', es, ep, ho', hd', _⟩, _⟩ := I.loc
  rw [z, ho'] at ho; cases ho; rw [hd'] at hd; cases hd
theorem Inv.funs (I : Inv X pins σ H s) : s.heap.FunFrames X.base X.outer := by
  have all : ∀ (l : List Env), (∀ b ∈ frs l, b ∈ X.fs) → X.s₀.heap.FunFrames X.base l → s.heap.FunFrames X.base l := by
    intro l
    induction l with
    | nil => intro _ _; trivial
    | cons env r ih =>
      intro hs hl
      obtain ⟨hk, ⟨L, o, hf, hn, ho, hd⟩, hr⟩ := hl
      have hL : L ∈ X.fs := hs L (by unfold frs; rw [List.filterMap_cons, hf]; exact List.mem_cons_self)
      obtain ⟨sl, e⟩ := I.base.slot L o ho (I.ok.frf L hL) hL fun z => I.ok.exfs L z hL
      exact ⟨hk, ⟨L, _, hf, hn, e, hd⟩, ih (fun b hb => hs b (by unfold frs; rw [List.filterMap_cons, hf]; exact List.mem_cons_of_mem _ hb)) hr⟩
  exact all X.outer (fun _ hb => hb) I.ok.funs

theorem Inv.stack (I : Inv X pins σ H s) : s.heap.FunFrames X.base X.stack := by
  rcases I.ok.stk with e | ⟨e, hf⟩
  · rw [e]; exact I.funs
  · rw [e]
    obtain ⟨m, hn, _⟩ := I.loc
    refine .cons (by rw [I.ok.kind]; decide) hf hn ?_ I.funs
    exact Heap.get?_none_of_le (Nat.le_trans I.ok.bsz I.ok.above)
theorem Inv.stkSub (I : Inv X pins σ H s) : ∀ b ∈ frs X.stack, b ∈ X.env.locals :: X.fs := fun b hb => by
  rcases I.ok.stk with e | ⟨e, hf⟩
  · rw [e] at hb; exact List.mem_cons_of_mem _ hb
  · rw [e] at hb
    unfold frs at hb
    rw [List.filterMap_cons, hf] at hb
    exact hb
theorem Inv.stkFree (I : Inv X pins σ H s) : ∀ b ∈ frs X.stack, H b = none := fun b hb => by
  rcases List.mem_cons.mp (I.stkSub b hb) with e | hb
  · rw [e]; exact I.free
  · obtain ⟨_, o, ho, _⟩ := I.ok.funs.mem hb
    exact I.base.free b o ho (I.ok.frf b hb) fun z => I.ok.exfs b z hb

theorem Inv.step {g' : Array GenState} {t' : Nat} {d' : Drawn} {ch : List Addr} (I : Inv X pins σ H s)
    (hch : ∀ b ∈ ch, (b ∈ X.ex ∨ X.s₀.heap.objs.size ≤ b) ∧ b ≠ X.env.locals ∧ (∀ x c, X.env.cells.lookup x = some c → c ≠ b) ∧ ∀ p ∈ X.pn ++ pins, p.1 ≠ b)
    (keep : ∀ b o, b ≠ X.env.locals → b ∉ X.fs → b ∉ ch → s.heap.get? b = some o → H b = none → h'.get? b = some o)
    (slot : ∀ b o, b ≠ X.env.locals → b ∈ X.fs → b ∉ ch → s.heap.get? b = some o → H b = none → ∃ sl, h'.get? b = some { o with slots := sl }) (free : ∀ b o, b ∉ ch → s.heap.get? b = some o → H b = none → H' b = none)
    (there : ∀ b o, b ∉ ch → s.heap.get? b = some o → ∃ o', h'.get? b = some o')
    (tups : ∀ b xs, H b = some (.tup xs) → H' b = some (.tup xs)) (frzs : ∀ b o u, H b = some (.frz o u) → H' b = some (.frz o u)) (tbls : ∀ b ps, H b = some (.tbl ps) → ∃ more, H' b = some (.tbl (ps ++ more)))
    (ns : ∀ m, s.heap.Ns X.env.locals m → h'.Ns X.env.locals m) (hok : HOk X.prog X.w H' h') (hg : AllBare g') :
    Inv X pins σ H' { s with heap := h', gens := g', drawn := d', toks := t' } := by
  have neL : ∀ b o, X.s₀.heap.get? b = some o → b ≠ X.env.locals := fun b o e => Nat.ne_of_lt (Nat.lt_of_lt_of_le (Heap.lt_size e) I.ok.above)
  have neC : ∀ b o, X.s₀.heap.get? b = some o → b ∉ X.ex → b ∉ ch := fun b o e hx hb => by
    rcases (hch b hb).1 with z | z
    · exact hx z
    · exact absurd (Nat.lt_of_lt_of_le (Heap.lt_size e) z) (Nat.lt_irrefl _)
  have cellK : ∀ x c, X.env.cells.lookup x = some c → ∀ v, s.heap.IsCell c v → h'.IsCell c v := fun x c e v ⟨o, ho, hd⟩ => by
    have nch : c ∉ ch := fun z => (hch c z).2.2.1 x c e rfl
    by_cases hc : c ∈ X.fs
    · obtain ⟨sl, q⟩ := slot c o (I.cne x c e) hc nch ho (I.freeC x c e)
      exact ⟨_, q, hd⟩
    · exact ⟨o, keep c o (I.cne x c e) hc nch ho (I.freeC x c e), hd⟩
  refine ⟨I.ok, I.os, hg, ⟨fun b o e n hb hx => ?_, fun b o e n hb hx => ?_, fun b o e n hx => ?_, fun b o e hx => ?_, fun b xs e => tups b xs (I.base.tups b xs e), fun b o xs e => frzs b o xs (I.base.frzs b o xs e), fun b ps e => ?_⟩, ?_, fun x c e => ?_, ?_, fun x c e => ?_, fun p hp => ?_, hok, I.len⟩
  · exact keep b o (neL b o e) hb (neC b o e hx) (I.base.keep b o e n hb hx) (I.base.free b o e n hx)
  · obtain ⟨sl, e1⟩ := I.base.slot b o e n hb hx
    obtain ⟨sl', e2⟩ := slot b _ (neL b o e) hb (neC b o e hx) e1 (I.base.free b o e n hx)
    exact ⟨sl', e2⟩
  · obtain ⟨o', e1⟩ := I.base.there b o e hx
    exact free b o' (neC b o e hx) e1 (I.base.free b o e n hx)
  · obtain ⟨o', e1⟩ := I.base.there b o e hx
    exact there b o' (neC b o e hx) e1
  · obtain ⟨m1, e1⟩ := I.base.tbls b ps e
    obtain ⟨m2, e2⟩ := tbls b _ e1
    exact ⟨m1 ++ m2, by rw [e2, Array.append_assoc]⟩
  · obtain ⟨m, hn, hl⟩ := I.loc
    refine ⟨m, ns m hn, fun i x v e1 e2 e3 => ?_⟩
    obtain ⟨u, r, l⟩ := hl i x v e1 e2 e3
    refine ⟨u, r, ?_⟩
    rcases l with l | ⟨k, c, e, z⟩
    · exact .inl l
    · exact .inr ⟨k, c, e, cellK x c e _ z⟩
  · obtain ⟨v, z⟩ := I.cell x c e
    exact ⟨v, cellK x c e v z⟩
  · obtain ⟨m, ⟨o, _, _, ho, _⟩, _⟩ := I.loc
    exact free _ o (fun z => (hch _ z).2.1 rfl) ho I.free
  · obtain ⟨v, o, ho, hd⟩ := I.cell x c e
    exact free c o (fun z => (hch c z).2.2.1 x c e rfl) ho (I.freeC x c e)
  · obtain ⟨e, n, ne, nf, d⟩ := I.pin p hp
    have nch : p.1 ∉ ch := fun z => (hch p.1 z).2.2.2 p hp rfl
    exact ⟨keep p.1 p.2 ne nf nch e n, free p.1 p.2 nch e n, ne, nf, d⟩

theorem Inv.un {t' : Nat} (I : Inv X pins σ H s) (u : Un X.fs [] H H' s.heap h') (hok : HOk X.prog X.w H' h') : Inv X pins σ H' { s with heap := h', toks := t' } := by
  obtain ⟨m, ⟨o, es, ep, ho, r⟩, _⟩ := id I.loc
  obtain ⟨sl, hL⟩ := u.any ho I.free (by simp)
  exact I.step (g' := s.gens) (d' := s.drawn) (ch := []) (fun _ z => nomatch z) (fun b o _ hb _ e n => u.keep b o e n hb (by simp)) (fun b o _ hb _ e n => u.slot b o e n hb (by simp)) (fun b o _ e n => u.free b o e n (by simp)) (fun b o _ e => u.there b o e (by simp)) u.tups u.frzs u.tbls (fun m' hm => by
    obtain ⟨o', es', ep', ho', r'⟩ := hm
    rw [ho] at ho'; cases ho'
    exact ⟨_, es', ep', hL, r'⟩) hok I.bare

theorem Inv.call {g' : Array GenState} {t' : Nat} {d' : Drawn} {ch : List Addr} (I : Inv X pins σ H s) (u : Un (frs X.stack) ch H H' s.heap h') (hok : HOk X.prog X.w H' h') (hg : AllBare g')
    (hch : ∀ b ∈ ch, (b ∈ X.ex ∨ X.s₀.heap.objs.size ≤ b) ∧ b ≠ X.env.locals ∧ (∀ x c, X.env.cells.lookup x = some c → c ≠ b) ∧ ∀ p ∈ X.pn ++ pins, p.1 ≠ b) :
    Inv X pins σ H' { s with heap := h', gens := g', drawn := d', toks := t' } := by
  obtain ⟨m, ⟨o, es, ep, ho, r⟩, _⟩ := id I.loc
  obtain ⟨sl, hL⟩ := u.any ho I.free fun z => (hch _ z).2.1 rfl
  exact I.step (ch := ch) hch (fun b o hL hb hc e n => u.keep b o e n (fun z => (List.mem_cons.mp (I.stkSub b z)).elim hL hb) hc) (fun b o _ _ hc e n => u.any e n hc) (fun b o hc e n => u.free b o e n hc) (fun b o hc e => u.there b o e hc) u.tups u.frzs u.tbls (fun m' hm => by
    obtain ⟨o', es', ep', ho', r'⟩ := hm
    rw [ho] at ho'; cases ho'
    exact ⟨_, es', ep', hL, r'⟩) hok hg

theorem Inv.turned {t' : Nat} {it : Addr} (I : Inv X pins σ H s) (k : ∀ b o, b ≠ it → s.heap.get? b = some o → h'.get? b = some o) (hn : H it = none) (hL : it ≠ X.env.locals)
    (h1 : it ∈ X.ex ∨ X.s₀.heap.objs.size ≤ it) (h2 : ∀ x c, X.env.cells.lookup x = some c → c ≠ it) (h3 : ∀ p ∈ X.pn ++ pins, p.1 ≠ it) : Inv X pins σ H { s with heap := h', toks := t' } := by
  have nit : ∀ b u, H b = some u → b ≠ it := fun b u e z => by rw [z, hn] at e; cases e
  refine I.step (g' := s.gens) (d' := s.drawn) (ch := [it]) (fun b hb => ?_) (fun b o _ _ hc e _ => k b o (fun z => hc (by simp [z])) e) (fun b o _ _ hc e _ => ⟨o.slots, k b o (fun z => hc (by simp [z])) e⟩) (fun _ _ _ _ n => n)
    (fun b o hc e => ⟨o, k b o (fun z => hc (by simp [z])) e⟩) (fun _ _ e => e) (fun _ _ _ e => e) (fun b ps e => ⟨#[], by rw [e]; simp⟩) (fun m hm => ?_) (fun b u e => ?_) I.bare
  · have e : b = it := by simpa using hb
    subst e
    exact ⟨h1, hL, h2, h3⟩
  · obtain ⟨o, es, ep, ho, r⟩ := hm
    exact ⟨o, es, ep, k _ o (Ne.symm hL) ho, r⟩
  · refine (I.hok b u e).stay (fun c v hc q => k c v ?_ q) (fun _ q => q) fun _ _ q => q
    rcases hc with z | z
    · rw [z]; exact nit b u e
    · exact nit c _ z
theorem Inv.tok (I : Inv X pins σ H s) (t : Nat) : Inv X pins σ H { s with toks := t } := I.un (h' := s.heap) (t' := t) Un.refl I.hok

theorem Inv.kept {t' : Nat} (I : Inv X pins σ H s) (k : ∀ b u, s.heap.get? b = some u → h'.get? b = some u) : Inv X pins σ H { s with heap := h', toks := t' } := I.un (Un.kept k) (I.hok.kept k)

theorem Inv.laid {a : Addr} {o : HO} {t' : Nat} (I : Inv X pins σ H s) (k : ∀ b u, s.heap.get? b = some u → h'.get? b = some u) (hp : s.heap.objs.size ≤ a) (new : ObjOk X.prog X.w (upd H a o) h' a o) :
    Inv X pins σ (upd H a o) { s with heap := h', toks := t' } := I.un (Un.laid k hp (I.hok.fresh hp)) (I.hok.laid k hp new)

theorem Inv.write {x e : Addr} {o : HO} {t' : Nat} (I : Inv X pins σ H s) (mu : Mut (H x)) (he : e = x ∨ H e = some (.own x)) (k : ∀ b u, b ≠ e → s.heap.get? b = some u → h'.get? b = some u) (heo : ∃ u, h'.get? e = some u)
    (new : ObjOk X.prog X.w (upd H x o) h' x o) : Inv X pins σ (upd H x o) { s with heap := h', toks := t' } := I.un (Un.write mu he k heo) (I.hok.write mu he k heo new)

theorem Inv.pins_of {pins' : List (Addr × Obj)} (I : Inv X pins σ H s) (h : ∀ p ∈ pins', s.heap.get? p.1 = some p.2 ∧ H p.1 = none ∧ p.1 ≠ X.env.locals ∧ p.1 ∉ X.fs ∧ ∀ v, p.2.data ≠ .cell v) : Inv X pins' σ H s :=
  ⟨I.ok, I.os, I.bare, I.base, I.loc, I.cell, I.free, I.freeC, fun p hp => (List.mem_append.mp hp).elim (fun z => I.pin p (List.mem_append_left _ z)) (h p), I.hok, I.len⟩

theorem nodup_ix {N : List Str} (hN : N.Nodup) {i j : Nat} {x : Str} (a : N[i]? = some x) (b : N[j]? = some x) : i = j := by
  obtain ⟨h1, e1⟩ := List.getElem?_eq_some_iff.mp a
  obtain ⟨h2, e2⟩ := List.getElem?_eq_some_iff.mp b
  exact (List.getElem_inj hN).mp (e1.trans e2.symm)

theorem store_ok2 {M : Model} {A : Around} {E : Value → Shared → Prop} {i : Nat} {x : Str} {v : V} {u : Value} {Q : Unit → Shared → Prop} (I : Inv X pins σ H s) (hN : X.N.Nodup) (hi : X.N[i]? = some x) (hx : Loc X.env.scope x) (r : RelV v u)
    (h : ∀ s', Inv X pins (σ.set i (some v)) H s' → (∃ a, Heap.SameBut a s.heap s'.heap ∧ (a = X.env.locals ∨ X.env.cells.lookup x = some a)) → Q () s') (hf : X.fn x = true ∨ X.env.scope.names.lookup x = some .local := by first | exact .inl rfl | exact .inr rfl | assumption) : wpAny M A (storeName X.env x u) Q E s := by
  obtain ⟨m, hn, hl⟩ := id I.loc
  have hcls : (X.env.scope.kind == .class || (X.env.scope.kind == .module && X.env.locals != X.env.globals)) = false := by rw [I.ok.kind]; rfl
  have hiσ : i < σ.length := by rw [I.len]; exact (List.getElem?_eq_some_iff.mp hi).1
  have cne := I.cne
  have tracked : ∀ {a : Addr} {h' : Heap}, (∃ o, s.heap.get? a = some o ∧ H a = none) → Heap.SameBut a s.heap h' → HOk X.prog X.w H h' := fun {a h'} ha hs b ob e => by
    obtain ⟨_, _, hfree⟩ := ha
    refine (I.hok b ob e).stay (fun c w' hc q => (hs.2 c ?_).trans q) (fun _ q => q) fun _ _ q => q
    rintro rfl
    rcases hc with rfl | hc
    · rw [hfree] at e; cases e
    · rw [hfree] at hc; cases hc
  rcases hx with hk | hk
  · refine wpAny_storeName_local hk hn (fun h' hn' hs => ?_) hcls
    obtain ⟨oL, _, _, hoL, _⟩ := id hn
    refine h _ ⟨I.ok, I.os, I.bare, ⟨fun b o e n hb hx => ?_, fun b o e n hb hx => ?_, I.base.free, fun b o e hx => ?_, I.base.tups, I.base.frzs, I.base.tbls⟩, ⟨_, hn', fun j y v' e1 e2 e3 => ?_⟩, fun y c e => ?_, I.free, I.freeC, fun p hp => ?_, tracked ⟨oL, hoL, I.free⟩ hs, by simpa using I.len⟩ ⟨_, hs, .inl rfl⟩
    · exact (hs.2 b (Nat.ne_of_lt (Nat.lt_of_lt_of_le (Heap.lt_size e) I.ok.above))).trans (I.base.keep b o e n hb hx)
    · obtain ⟨sl, e1⟩ := I.base.slot b o e n hb hx
      exact ⟨sl, (hs.2 b (Nat.ne_of_lt (Nat.lt_of_lt_of_le (Heap.lt_size e) I.ok.above))).trans e1⟩
    · obtain ⟨o', e1⟩ := I.base.there b o e hx
      exact ⟨o', (hs.2 b (Nat.ne_of_lt (Nat.lt_of_lt_of_le (Heap.lt_size e) I.ok.above))).trans e1⟩
    · by_cases hj : j = i
      · subst hj
        rw [hi] at e1; cases e1
        rw [List.getElem?_set_self hiσ] at e2
        cases e2
        exact ⟨u, r, .inl ⟨hk, by simp⟩⟩
      · rw [List.getElem?_set_ne (Ne.symm hj)] at e2
        obtain ⟨u', r', q⟩ := hl j y v' e1 e2 e3
        refine ⟨u', r', ?_⟩
        rcases q with ⟨k, e⟩ | ⟨k, c, e, z⟩
        · refine .inl ⟨k, ?_⟩
          have : y ≠ x := fun e => hj (nodup_ix hN e1 (e ▸ hi))
          simp [this, e]
        · exact .inr ⟨k, c, e, z.sameBut hs (cne y c e)⟩
    · obtain ⟨w', z⟩ := I.cell y c e
      exact ⟨w', z.sameBut hs (cne y c e)⟩
    · obtain ⟨e, n, ne, nf, d⟩ := I.pin p hp
      exact ⟨(hs.2 p.1 ne).trans e, n, ne, nf, d⟩
  · have hfn : X.fn x = true := by
      rcases hf with z | z
      · exact z
      · rw [z] at hk; cases hk
    obtain ⟨c, hc⟩ := I.ok.has x (.inl hk)
    obtain ⟨w', z⟩ := I.cell x c hc
    refine wpAny_storeName_cell I.ok.kind hk hc z (fun h' hc' hs => ?_)
    obtain ⟨oc, hoc, hocd⟩ := id z
    refine h { s with heap := h' } ⟨I.ok, I.os, I.bare, ⟨fun b o e n hb hx => ?_, fun b o e n hb hx => ?_, I.base.free, fun b o e hx => ?_, I.base.tups, I.base.frzs, I.base.tbls⟩, ⟨m, hn.sameBut hs (Ne.symm (cne x c hc)), fun j y v' e1 e2 e3 => ?_⟩, fun y c' e => ?_, I.free, I.freeC, fun p hp => ?_, tracked ⟨oc, hoc, I.freeC x c hc⟩ hs, by simpa using I.len⟩ ⟨c, hs, .inr hc⟩
    · exact (hs.2 b (Nat.ne_of_lt (Nat.lt_of_lt_of_le (Heap.lt_size e) (I.ok.cab x c hfn hc)))).trans (I.base.keep b o e n hb hx)
    · obtain ⟨sl, e1⟩ := I.base.slot b o e n hb hx
      exact ⟨sl, (hs.2 b (Nat.ne_of_lt (Nat.lt_of_lt_of_le (Heap.lt_size e) (I.ok.cab x c hfn hc)))).trans e1⟩
    · obtain ⟨o', e1⟩ := I.base.there b o e hx
      exact ⟨o', (hs.2 b (Nat.ne_of_lt (Nat.lt_of_lt_of_le (Heap.lt_size e) (I.ok.cab x c hfn hc)))).trans e1⟩
    · by_cases hj : j = i
      · subst hj
        rw [hi] at e1; cases e1
        rw [List.getElem?_set_self hiσ] at e2
        cases e2
        exact ⟨u, r, .inr ⟨.inl hk, c, hc, hc'⟩⟩
      · rw [List.getElem?_set_ne (Ne.symm hj)] at e2
        obtain ⟨u', r', q⟩ := hl j y v' e1 e2 e3
        refine ⟨u', r', ?_⟩
        rcases q with q | ⟨k, c', e, z'⟩
        · exact .inl q
        · refine .inr ⟨k, c', e, z'.sameBut hs ?_⟩
          rintro rfl
          exact hj (nodup_ix hN e1 (I.ok.inj _ _ _ e hc ▸ hi))
    · by_cases hcc : c' = c
      · subst hcc; exact ⟨_, hc'⟩
      · obtain ⟨w2, z2⟩ := I.cell y c' e
        exact ⟨w2, z2.sameBut hs hcc⟩
    · obtain ⟨e, n, ne, nf, d⟩ := I.pin p hp
      refine ⟨(hs.2 p.1 ?_).trans e, n, ne, nf, d⟩
      intro q
      rw [q, hoc] at e
      have q' : oc = p.2 := Option.some.inj e
      exact d w' (by rw [← q']; exact hocd)
theorem store_ok {M : Model} {A : Around} {E : Value → Shared → Prop} {i : Nat} {x : Str} {v : V} {u : Value} {Q : Unit → Shared → Prop} (I : Inv X pins σ H s) (hN : X.N.Nodup) (hi : X.N[i]? = some x) (hx : Loc X.env.scope x) (r : RelV v u)
    (h : ∀ s', Inv X pins (σ.set i (some v)) H s' → Q () s') (hf : X.fn x = true ∨ X.env.scope.names.lookup x = some .local := by first | exact .inl rfl | exact .inr rfl | assumption) : wpAny M A (storeName X.env x u) Q E s :=
  store_ok2 I hN hi hx r (fun s' I' _ => h s' I') hf

theorem Inv.call' {s' : Shared} {ch : List Addr} (I : Inv X pins σ H s) (ho : s'.os = s.os) (u : Un (frs X.stack) ch H H' s.heap s'.heap) (hok : HOk X.prog X.w H' s'.heap) (hg : AllBare s'.gens)
    (hch : ∀ b ∈ ch, (b ∈ X.ex ∨ X.s₀.heap.objs.size ≤ b) ∧ b ≠ X.env.locals ∧ (∀ x c, X.env.cells.lookup x = some c → c ≠ b) ∧ ∀ p ∈ X.pn ++ pins, p.1 ≠ b) : Inv X pins σ H' s' := by
  obtain ⟨h', g', d', t', o'⟩ := s'
  have e : o' = s.os := ho
  subst e
  exact I.call (g' := g') (t' := t') (d' := d') u hok hg hch
end

abbrev XK := Value → Option Addr → Hp → Prop
abbrev St := List (Option V)
abbrev VK := V → Hp → Prop

abbrev TE := St → Hp → VK → Prop
abbrev TT := St → Hp → (Bool → Hp → Prop) → Prop
abbrev TA := St → Hp → (List V → Hp → Prop) → Prop

structure Ends where
  nx : St → Hp → Prop
  rt : VK
  bk : St → Hp → Prop := fun _ _ => False
  ct : St → Hp → Prop := fun _ _ => False
abbrev TS := Ends → St → Hp → Prop

def EP (X : Cx) (pins : List (Addr × Obj)) (σ : St) (Q : VK) (u : Value) (s' : Shared) : Prop := ∃ v H', Inv X pins σ H' s' ∧ RelV v u ∧ Q v H'
def TP (X : Cx) (pins : List (Addr × Obj)) (σ : St) (Q : Bool → Hp → Prop) (b : Bool) (s' : Shared) : Prop := ∃ H', Inv X pins σ H' s' ∧ Q b H'
def AP (X : Cx) (pins : List (Addr × Obj)) (σ : St) (Q : List V → Hp → Prop) (us : List Value) (s' : Shared) : Prop := ∃ vs H', Inv X pins σ H' s' ∧ Vals vs us ∧ Q vs H'
def SP (X : Cx) (pins : List (Addr × Obj)) (D : Ends) (f : Flow) (s' : Shared) : Prop :=
  match f with
  | .next => ∃ σ' H', Inv X pins σ' H' s' ∧ D.nx σ' H'
  | .brk => ∃ σ' H', Inv X pins σ' H' s' ∧ D.bk σ' H'
  | .cont => ∃ σ' H', Inv X pins σ' H' s' ∧ D.ct σ' H'
  | .ret u => ∃ v σ' H', Inv X pins σ' H' s' ∧ RelV v u ∧ D.rt v H'

structure PE (X : Cx) (e : Expr) (t : TE) : Prop where
  out :
    ∀ (pins : List (Addr × Obj)) (s : Shared) (σ : St) (H : Hp) (Q : VK), Inv X pins σ H s → t σ H Q → wpAny (model X.prog X.w) X.A (eval e X.env) (EP X pins σ Q) X.xe s
instance {X : Cx} {e : Expr} {t : TE} : CoeFun (PE X e t) fun _ =>
  ∀ (pins : List (Addr × Obj)) (s : Shared) (σ : St) (H : Hp) (Q : VK), Inv X pins σ H s → t σ H Q → wpAny (model X.prog X.w) X.A (eval e X.env) (EP X pins σ Q) X.xe s := ⟨PE.out⟩
structure PT (X : Cx) (e : Expr) (t : TT) : Prop where
  out :
    ∀ (pins : List (Addr × Obj)) (s : Shared) (σ : St) (H : Hp) (Q : Bool → Hp → Prop), Inv X pins σ H s → t σ H Q → wpAny (model X.prog X.w) X.A (isTrue e X.env (eval e X.env)) (TP X pins σ Q) X.xe s
instance {X : Cx} {e : Expr} {t : TT} : CoeFun (PT X e t) fun _ =>
  ∀ (pins : List (Addr × Obj)) (s : Shared) (σ : St) (H : Hp) (Q : Bool → Hp → Prop), Inv X pins σ H s → t σ H Q → wpAny (model X.prog X.w) X.A (isTrue e X.env (eval e X.env)) (TP X pins σ Q) X.xe s := ⟨PT.out⟩

structure PW (X : Cx) (e : Expr) (t : TT) : Prop where
  out :
    ∀ (whole : Sem Value) (pins : List (Addr × Obj)) (s : Shared) (σ : St) (H : Hp) (Q : Bool → Hp → Prop), Inv X pins σ H s → t σ H Q → wpAny (model X.prog X.w) X.A (isTrue e X.env whole) (TP X pins σ Q) X.xe s
instance {X : Cx} {e : Expr} {t : TT} : CoeFun (PW X e t) fun _ =>
  ∀ (whole : Sem Value) (pins : List (Addr × Obj)) (s : Shared) (σ : St) (H : Hp) (Q : Bool → Hp → Prop), Inv X pins σ H s → t σ H Q → wpAny (model X.prog X.w) X.A (isTrue e X.env whole) (TP X pins σ Q) X.xe s := ⟨PW.out⟩
theorem PW.pt {X : Cx} {e : Expr} {t : TT} (h : PW X e t) : PT X e t := ⟨h.out _⟩

structure PA (X : Cx) (es : List Expr) (t : TA) : Prop where
  out :
    ∀ (pos : Pos) (pins : List (Addr × Obj)) (s : Shared) (σ : St) (H : Hp) (Q : List V → Hp → Prop), Inv X pins σ H s → t σ H Q → wpAny (model X.prog X.w) X.A (spliced (backTo pos (starEach es X.env))) (AP X pins σ Q) X.xe s
instance {X : Cx} {es : List Expr} {t : TA} : CoeFun (PA X es t) fun _ =>
  ∀ (pos : Pos) (pins : List (Addr × Obj)) (s : Shared) (σ : St) (H : Hp) (Q : List V → Hp → Prop), Inv X pins σ H s → t σ H Q → wpAny (model X.prog X.w) X.A (spliced (backTo pos (starEach es X.env))) (AP X pins σ Q) X.xe s := ⟨PA.out⟩
structure PS (X : Cx) (st : Stmt) (t : TS) : Prop where
  out :
    ∀ (pins : List (Addr × Obj)) (s : Shared) (σ : St) (H : Hp) (D : Ends), Inv X pins σ H s → t D σ H → wpAny (model X.prog X.w) X.A (exec st X.env) (SP X pins D) X.xe s
instance {X : Cx} {st : Stmt} {t : TS} : CoeFun (PS X st t) fun _ =>
  ∀ (pins : List (Addr × Obj)) (s : Shared) (σ : St) (H : Hp) (D : Ends), Inv X pins σ H s → t D σ H → wpAny (model X.prog X.w) X.A (exec st X.env) (SP X pins D) X.xe s := ⟨PS.out⟩
structure PSs (X : Cx) (st : List Stmt) (t : TS) : Prop where
  out :
    ∀ (pins : List (Addr × Obj)) (s : Shared) (σ : St) (H : Hp) (D : Ends), Inv X pins σ H s → t D σ H → wpAny (model X.prog X.w) X.A (execs st X.env) (SP X pins D) X.xe s
instance {X : Cx} {st : List Stmt} {t : TS} : CoeFun (PSs X st t) fun _ =>
  ∀ (pins : List (Addr × Obj)) (s : Shared) (σ : St) (H : Hp) (D : Ends), Inv X pins σ H s → t D σ H → wpAny (model X.prog X.w) X.A (execs st X.env) (SP X pins D) X.xe s := ⟨PSs.out⟩

theorem thn {α : Type} {t : Sem α} {Q Q' : α → Shared → Prop} {M : Model} {A : Around} {E : Value → Shared → Prop} {s : Shared} (h : wpAny M A t Q E s) (hQ : ∀ a s, Q a s → Q' a s) : wpAny M A t Q' E s := wpAny_mono h hQ fun _ _ x => x
end L2

namespace L2
open PySem PySem.Spec PyProof.Rows
section
variable {X : Cx}

theorem bin {a b : Expr} {ta tb : TE} (ha : PE X a ta) (hb : PE X b tb) {pins : List (Addr × Obj)} {s : Shared} {σ : St} {H : Hp} {R : V → V → Hp → Prop} (I : Inv X pins σ H s) (h : ta σ H fun x H1 => tb σ H1 fun y H2 => R x y H2)
    {α : Type} {Q : α → Shared → Prop} {f : Value → Value → Sem α}
    (hf : ∀ v u s2 x y H2, Inv X pins σ H2 s2 → RelV x v → RelV y u → R x y H2 → wpAny (model X.prog X.w) X.A (f v u) Q X.xe s2) :
    wpAny (model X.prog X.w) X.A (eval a X.env) (fun v s₁ => wpAny (model X.prog X.w) X.A (eval b X.env) (fun u s₂ => wpAny (model X.prog X.w) X.A (f v u) Q X.xe s₂) X.xe s₁) X.xe s := by
  refine thn (ha pins s σ H _ I h) fun v s1 ⟨x, H1, I1, r1, q1⟩ => ?_
  refine thn (hb pins s1 σ H1 _ I1 q1) fun u s2 ⟨y, H2, I2, r2, q2⟩ => ?_
  exact hf v u s2 x y H2 I2 r1 r2 q2

def tVar (i : Nat) : TE := fun σ H Q => ∃ v, σ[i]? = some (some v) ∧ Q v H
def tC (v : V) : TE := fun _ H Q => Q v H
theorem pe_var {i : Nat} {x : Str} {pos : Pos} (hN : X.N[i]? = some x) (hv : Vis X.env.scope x) (hd : (x == ("__debug__" : Str)) = false := by decide) (hcd : (x == ("__classdict__" : Str)) = false := by decide) : PE X (.Name x pos) (tVar i) := by
  refine ⟨?_⟩
  intro pins s σ H Q I h
  obtain ⟨v, e, h⟩ := h
  obtain ⟨m, hn, hl⟩ := I.loc
  obtain ⟨u, r, l⟩ := hl i x v hN e hv
  have fin : EP X pins σ Q u s := ⟨v, H, I, r, h⟩
  rcases l with ⟨hk, hm⟩ | ⟨hk, c, hc, hcell⟩
  · exact wpAny_Name (wpAny_loadName_local I.ok.kind hk hn hm fin) hd
  · rcases hk with hk | hk
    · exact wpAny_Name (wpAny_loadName_cell I.ok.kind hk hc hcell fin) hd
    · exact wpAny_Name (wpAny_loadName_free I.ok.kind hk hc hcell fin hcd) hd
theorem pe_int {i j pos} : PE X (.Constant (.int i) j pos) (tC (.int i)) := .mk fun _ _ _ H _ I h => wpAny_Constant_int ⟨.int i, H, I.tok _, ⟨_, rfl⟩, h⟩
theorem pe_bl {b j pos} : PE X (.Constant (.bool b) j pos) (tC (.bl b)) := .mk fun _ _ _ H _ I h => Constant_bool ⟨.bl b, H, I, rfl, h⟩
theorem pe_non {j pos} : PE X (.Constant .none j pos) (tC .non) := .mk fun _ _ _ H _ I h => Constant_none ⟨.non, H, I, rfl, h⟩
theorem pe_str {x j pos} : PE X (.Constant (.str x) j pos) (tC (.str x)) := .mk fun _ _ _ H _ I h => Calls.Constant_str ⟨.str x, H, I.tok _, ⟨_, rfl⟩, h⟩

def Gl (X : Cx) (x : Str) : Prop := X.env.kindOf x = some .globalImplicit
theorem ld_glob {E : Value → Shared → Prop} {pins : List (Addr × Obj)} {s : Shared} {σ : St} {H : Hp} {x : Str} {u : Value} {pos : Pos} {Q : Value → Shared → Prop} (I : Inv X pins σ H s) (hg : Gl X x) (hm : X.mg x = some u) (h : Q u s)
    (hd : (x == ("__debug__" : Str)) = false := by decide) : wpAny (model X.prog X.w) X.A (eval (.Name x pos) X.env) Q E s :=
  Calls.Name_function_global I.ok.kind hg (Calls.loadGlobal_global (by rw [I.ok.glob]; exact I.mod.glob.keeps I.bk) hm h) hd
theorem ld_blt {E : Value → Shared → Prop} {pins : List (Addr × Obj)} {s : Shared} {σ : St} {H : Hp} {x : Str} {u : Value} {pos : Pos} {Q : Value → Shared → Prop} (I : Inv X pins σ H s) (hg : Gl X x) (hm : X.mg x = none) (hv : bootBuiltins x = some u) (h : Q u s)
    (hn : x ≠ "__name__" := by decide) (hd : (x == ("__debug__" : Str)) = false := by decide) : wpAny (model X.prog X.w) X.A (eval (.Name x pos) X.env) Q E s := by
  obtain ⟨mb, h1, h2⟩ := I.mod.blt
  exact Calls.Name_function_global I.ok.kind hg (Calls.loadGlobal_builtin (by rw [I.ok.glob]; exact I.mod.glob.keeps I.bk) hm (by rw [I.ok.blt]; exact h1.keeps I.bk) ((h2 x hn).trans hv) h) hd

theorem pe_glob {x : Str} {v : V} {u : Value} {pos : Pos} (hg : Gl X x) (hm : X.mg x = some u) (r : RelV v u) (hd : (x == ("__debug__" : Str)) = false := by decide) : PE X (.Name x pos) (tC v) :=
  .mk fun _ _ _ H _ I h => ld_glob I hg hm ⟨v, H, I, r, h⟩ hd
theorem pe_bltn {x : Str} {v : V} {u : Value} {pos : Pos} (hg : Gl X x) (hm : X.mg x = none) (hv : bootBuiltins x = some u) (r : RelV v u) (hn : x ≠ "__name__" := by decide) (hd : (x == ("__debug__" : Str)) = false := by decide) : PE X (.Name x pos) (tC v) :=
  .mk fun _ _ _ H _ I h => ld_blt I hg hm hv ⟨v, H, I, r, h⟩ hn hd

variable {a b : Expr} {ta tb : TE} {pos : Pos}
structure PC (X : Cx) (op : CmpOp) (a b : Expr) (t : TE) : Prop where
  out :
    ∀ (pins : List (Addr × Obj)) (s : Shared) (σ : St) (H : Hp) (Q : VK), Inv X pins σ H s → t σ H Q →
      wpAny (model X.prog X.w) X.A (eval a X.env) (fun v s₁ => wpAny (model X.prog X.w) X.A (eval b X.env) (fun u s₂ => wpAny (model X.prog X.w) X.A (compareOp op v u) (EP X pins σ Q) X.xe s₂) X.xe s₁) X.xe s
instance {X : Cx} {op : CmpOp} {a b : Expr} {t : TE} : CoeFun (PC X op a b t) fun _ =>
  ∀ (pins : List (Addr × Obj)) (s : Shared) (σ : St) (H : Hp) (Q : VK), Inv X pins σ H s → t σ H Q →
    wpAny (model X.prog X.w) X.A (eval a X.env) (fun v s₁ => wpAny (model X.prog X.w) X.A (eval b X.env) (fun u s₂ => wpAny (model X.prog X.w) X.A (compareOp op v u) (EP X pins σ Q) X.xe s₂) X.xe s₁) X.xe s := ⟨PC.out⟩
theorem nobehind (b : Expr) {op : CmpOp} (h : op ≠ .In) (h2 : op ≠ .NotIn) : behindInMarks op b = false := by
  have e1 : (op == CmpOp.In) = false := by cases op <;> first | rfl | exact absurd rfl h
  have e2 : (op == CmpOp.NotIn) = false := by cases op <;> first | rfl | exact absurd rfl h2
  cases b <;> simp [behindInMarks, e1, e2]
def tB (t : TE) : TT := fun σ H Q => t σ H fun x H1 => ∃ c, x = .bl c ∧ Q c H1
theorem pt_cmp {op : CmpOp} {t : TE} (h : PC X op a b t) (h1 : behindInMarks op b = false := by first | exact nobehind _ (by decide) (by decide) | rfl) : PT X (.Compare a [op] [b] pos) (tB t) := by
  refine ⟨?_⟩
  intro pins s σ H Q I hw
  refine wpAny_isTrue_Compare1 (thn (h pins s σ H _ I hw) fun v s1 h1 => thn h1 fun u s2 h2 => thn h2 fun c s3 ⟨x, H1, I1, r1, q1⟩ => ?_) h1
  obtain ⟨d, rfl, q⟩ := q1
  cases r1
  exact wpAny_truthy_bool ⟨H1, I1, q⟩

theorem pt_val {e : Expr} {t : TE} (h : PE X e t) (he : ∀ whole, isTrue e X.env whole = (do let v ← whole; standAt e.pos; holding [v] (truthy v)) := by intro _; rfl) : PT X e (tB t) := by
  refine ⟨?_⟩
  intro pins s σ H Q I hw
  refine isTrue_plain (thn (h pins s σ H _ I hw) fun v s1 ⟨x, H1, I1, r1, q1⟩ => ?_) (he _)
  obtain ⟨d, rfl, q⟩ := q1
  cases r1
  exact wpAny_truthy_bool ⟨H1, I1, q⟩

variable {tA tB' : TT} {rest : List Expr}
def tAnd (t u : TT) : TT := fun σ H Q => t σ H fun c H1 => if c = true then u σ H1 Q else Q false H1
def tOr (t u : TT) : TT := fun σ H Q => t σ H fun c H1 => if c = true then Q true H1 else u σ H1 Q
def tNot (t : TT) : TT := fun σ H Q => t σ H fun c H1 => Q (!c) H1
theorem pw_and1 (ha : PT X a tA) : PW X (.BoolOp .And [a] pos) tA := by
  refine ⟨?_⟩
  intro wh pins s σ H Q I h
  refine isTrue_and (thn (ha pins s σ H Q I h) fun c s1 e => ?_)
  cases c with
  | true => exact isTrue_and_nil e
  | false => exact e
theorem pw_or1 (ha : PT X a tA) : PW X (.BoolOp .Or [a] pos) tA := by
  refine ⟨?_⟩
  intro wh pins s σ H Q I h
  refine isTrue_or (thn (ha pins s σ H Q I h) fun c s1 e => ?_)
  cases c with
  | false => exact isTrue_or_nil e
  | true => exact e
theorem pw_and (ha : PT X a tA) (hb : PW X (.BoolOp .And (b :: rest) pos) tB') : PW X (.BoolOp .And (a :: b :: rest) pos) (tAnd tA tB') := by
  refine ⟨?_⟩
  intro wh pins s σ H Q I h
  refine isTrue_and (thn (ha pins s σ H _ I h) fun c s1 ⟨H1, I1, q1⟩ => ?_)
  cases c with
  | true => exact hb wh pins s1 σ H1 Q I1 q1
  | false => exact ⟨H1, I1, q1⟩
theorem pw_or (ha : PT X a tA) (hb : PW X (.BoolOp .Or (b :: rest) pos) tB') : PW X (.BoolOp .Or (a :: b :: rest) pos) (tOr tA tB') := by
  refine ⟨?_⟩
  intro wh pins s σ H Q I h
  refine isTrue_or (thn (ha pins s σ H _ I h) fun c s1 ⟨H1, I1, q1⟩ => ?_)
  cases c with
  | true => exact ⟨H1, I1, q1⟩
  | false => exact hb wh pins s1 σ H1 Q I1 q1
theorem pt_not (ha : PT X a tA) : PT X (.UnaryOp .Not a pos) (tNot tA) := by
  refine ⟨?_⟩
  intro pins s σ H Q I h
  exact isTrue_not (ha pins s σ H (fun c H1 => Q (!c) H1) I h)

def tAndV (ta tb : TE) : TE := fun σ H Q => ta σ H fun x H1 => ∃ c, x = .bl c ∧ if c = true then tb σ H1 Q else Q (.bl false) H1
def tOrV (ta tb : TE) : TE := fun σ H Q => ta σ H fun x H1 => ∃ c, x = .bl c ∧ if c = true then Q (.bl true) H1 else tb σ H1 Q
def tNotV (ta : TE) : TE := fun σ H Q => ta σ H fun x H1 => ∃ c, x = .bl c ∧ Q (.bl (!c)) H1
theorem pe_one {op} {t : TE} (h : PE X a t) : PE X (.BoolOp op [a] pos) t := .mk fun pins s σ H Q I hw => BoolOp_one (h pins s σ H Q I hw)
theorem pe_and (ha : PE X a ta) (hb : PE X (.BoolOp .And (b :: rest) pos) tb) : PE X (.BoolOp .And (a :: b :: rest) pos) (tAndV ta tb) := by
  refine ⟨?_⟩
  intro pins s σ H Q I h
  refine BoolOp_and (thn (ha pins s σ H _ I h) fun v s1 ⟨x, H1, I1, r1, q1⟩ => ?_)
  obtain ⟨c, rfl, q1⟩ := q1
  cases r1
  refine wpAny_truthy_bool ?_
  cases c with
  | true => exact hb pins s1 σ H1 Q I1 q1
  | false => exact ⟨.bl false, H1, I1, rfl, q1⟩
theorem pe_not (ha : PE X a ta) : PE X (.UnaryOp .Not a pos) (tNotV ta) := by
  refine ⟨?_⟩
  intro pins s σ H Q I h
  refine UnaryOp_ (thn (ha pins s σ H _ I h) fun v s1 ⟨x, H1, I1, r1, q1⟩ => ?_)
  obtain ⟨c, rfl, q1⟩ := q1
  cases r1
  exact not_of (wpAny_truthy_bool ⟨.bl (!c), H1, I1, rfl, q1⟩)

def tIf (t : TT) (ta tb : TE) : TE := fun σ H Q => t σ H fun c H1 => if c = true then ta σ H1 Q else tb σ H1 Q
end
end L2

namespace L2
open PySem PySem.Spec PyProof.Rows

def SqL (K : PySem.W.Frag) (H : Hp) (a : Addr) (xs : List V) : Prop :=
  Rd H a (.lst xs) ∨
    ∃ (o : Obj) (its : Array Value) (n : Nat), K.lookup a = some o ∧ o.cls = .type "list" ∧ o.dict = none ∧ o.data = .seq its n ∧ its.size ≤ sizeLine ∧ Vals xs its.toList
def SqT (K : PySem.W.Frag) (H : Hp) (a : Addr) (xs : List V) : Prop :=
  Rd H a (.tup xs) ∨
    ∃ (o : Obj) (its : Array Value) (n : Nat), K.lookup a = some o ∧ o.cls = .type "tuple" ∧ o.data = .seq its n ∧ its.size ≤ sizeLine ∧ Vals xs its.toList
def absV : Value → Option V
  | .none => some .non
  | .bool b => some (.bl b)
  | .int i _ => some (.int i)
  | .str x _ => some (.str x)
  | .bytes b _ => some (.byt b)
  | .float b _ => some (.flt b)
  | .ref a => some (.ref a)
  | .type n => some (.ty n)
  | _ => none
theorem RelV.abs {x : V} {u : Value} (r : RelV x u) : absV u = some x := by
  cases x with
  | non => cases r; rfl
  | bl _ => cases r; rfl
  | int _ => obtain ⟨t, rfl⟩ := r; rfl
  | str _ => obtain ⟨t, rfl⟩ := r; rfl
  | byt _ => obtain ⟨t, rfl⟩ := r; rfl
  | flt _ => obtain ⟨t, rfl⟩ := r; rfl
  | ref _ => cases r; rfl
  | ty _ => cases r; rfl
theorem RelV.inj {x y : V} {u : Value} (r : RelV x u) (q : RelV y u) : x = y := Option.some.inj (r.abs.symm.trans q.abs)
theorem Vals.inj : ∀ {xs ys : List V} {us : List Value}, Vals xs us → Vals ys us → xs = ys
  | _, _, _, .nil, .nil => rfl
  | _, _, _, .cons r t, .cons r' t' => by rw [r.inj r', Vals.inj t t']
section
variable {X : Cx} {pins : List (Addr × Obj)} {σ : St} {H : Hp} {s : Shared} {a : Addr} {xs ys : List V}
theorem SqL.of {K : PySem.W.Frag} (h : H a = some (.lst xs)) : SqL K H a xs := .inl (.inl h)
theorem SqT.of {K : PySem.W.Frag} (h : H a = some (.tup xs)) : SqT K H a xs := .inl (.inl h)
theorem Inv.list (I : Inv X pins σ H s) (h : SqL X.K H a xs) : ∃ its : List Value, Vals xs its ∧ PlainL s.heap a its.toArray ∧ xs.length ≤ sizeLine := by
  rcases h with h | ⟨o, its, n, hk, hc, hd, hs, hz, r⟩
  · obtain ⟨z, its, n, r, e⟩ := h.ok I.hok
    exact ⟨its, r, ⟨_, n, e, rfl, rfl, rfl⟩, z⟩
  · refine ⟨its.toList, r, ⟨o, n, I.kIn a o hk, hc, hd, by simpa using hs⟩, ?_⟩
    have e := r.length
    simp only [Array.length_toList] at e
    omega
theorem Inv.tuple (I : Inv X pins σ H s) (h : SqT X.K H a xs) : ∃ its : List Value, Vals xs its ∧ IsTup s.heap a its.toArray ∧ xs.length ≤ sizeLine := by
  rcases h with h | ⟨o, its, n, hk, hc, hs, hz, r⟩
  · obtain ⟨z, its, r, p⟩ := h.ok I.hok
    exact ⟨its, r, p, z⟩
  · refine ⟨its.toList, r, ⟨o, I.kIn a o hk, hc, n, by simpa using hs⟩, ?_⟩
    have e := r.length
    simp only [Array.length_toList] at e
    omega
theorem Inv.list_inj (I : Inv X pins σ H s) (h : SqL X.K H a xs) (h' : SqL X.K H a ys) : xs = ys := by
  obtain ⟨its, r, ⟨o, n, e, _, _, d⟩, _⟩ := I.list h
  obtain ⟨its', r', ⟨o', n', e', _, _, d'⟩, _⟩ := I.list h'
  rw [e] at e'; cases e'
  rw [d] at d'
  injection d' with d1 _
  have : its = its' := by simpa using congrArg Array.toList d1
  subst this
  exact r.inj r'
theorem Inv.tuple_inj (I : Inv X pins σ H s) (h : SqT X.K H a xs) (h' : SqT X.K H a ys) : xs = ys := by
  obtain ⟨its, r, ⟨o, e, _, n, d⟩, _⟩ := I.tuple h
  obtain ⟨its', r', ⟨o', e', _, n', d'⟩, _⟩ := I.tuple h'
  rw [e] at e'; cases e'
  rw [d] at d'
  injection d' with d1 _
  have : its = its' := by simpa using congrArg Array.toList d1
  subst this
  exact r.inj r'
end

abbrev Cx.wish (X : Cx) (E : Value → Shared → Prop) : Cx := { X with xe := E }

abbrev Cx.nox (X : Cx) : Cx := X.wish fun _ _ => False
theorem Cx.Ok.wish {X : Cx} (ok : X.Ok) (E : Value → Shared → Prop) : (X.wish E).Ok :=
  ⟨ok.mod, ok.kind, ok.glob, ok.blt, ok.above, ok.inj, ok.has, ok.cab, ok.hd, ok.frames, ok.stk, ok.exf, ok.bs, ok.bsz, ok.noex, ok.exfs, ok.funs, ok.frf⟩
theorem Cx.Ok.unwish {X : Cx} {E : Value → Shared → Prop} (ok : (X.wish E).Ok) : X.Ok :=
  ⟨ok.mod, ok.kind, ok.glob, ok.blt, ok.above, ok.inj, ok.has, ok.cab, ok.hd, ok.frames, ok.stk, ok.exf, ok.bs, ok.bsz, ok.noex, ok.exfs, ok.funs, ok.frf⟩
section
variable {X : Cx} {pins : List (Addr × Obj)} {σ : St} {H : Hp} {s : Shared} {E : Value → Shared → Prop}
theorem Inv.wish (I : Inv X pins σ H s) (E : Value → Shared → Prop) : Inv (X.wish E) pins σ H s := ⟨I.ok.wish E, I.os, I.bare, I.base, I.loc, I.cell, I.free, I.freeC, I.pin, I.hok, I.len⟩
theorem Inv.unwish (I : Inv (X.wish E) pins σ H s) : Inv X pins σ H s := ⟨I.ok.unwish, I.os, I.bare, I.base, I.loc, I.cell, I.free, I.freeC, I.pin, I.hok, I.len⟩
theorem SP.unwish {D : Ends} {f : Flow} {s' : Shared} (h : SP (X.wish E) pins D f s') : SP X pins D f s' := by
  cases f with
  | next => obtain ⟨σ', H', I, q⟩ := h; exact ⟨σ', H', I.unwish, q⟩
  | brk => obtain ⟨σ', H', I, q⟩ := h; exact ⟨σ', H', I.unwish, q⟩
  | cont => obtain ⟨σ', H', I, q⟩ := h; exact ⟨σ', H', I.unwish, q⟩
  | ret u => obtain ⟨v, σ', H', I, r, q⟩ := h; exact ⟨v, σ', H', I.unwish, r, q⟩
theorem PE.nox {e : Expr} {t : TE} (h : PE X.nox e t) : PE X e t := .mk fun pins s σ H Q I hw =>
  wpAny_mono (h pins s σ H Q (I.wish _) hw) (fun _ _ ⟨v, H', I', r, q⟩ => ⟨v, H', I'.unwish, r, q⟩) fun _ _ z => False.elim z
theorem PT.nox {e : Expr} {t : TT} (h : PT X.nox e t) : PT X e t := .mk fun pins s σ H Q I hw =>
  wpAny_mono (h pins s σ H Q (I.wish _) hw) (fun _ _ ⟨H', I', q⟩ => ⟨H', I'.unwish, q⟩) fun _ _ z => False.elim z
theorem PSs.nox {st : List Stmt} {t : TS} (h : PSs X.nox st t) : PSs X st t := .mk fun pins s σ H D I hw =>
  wpAny_mono (h pins s σ H D (I.wish _) hw) (fun _ _ q => q.unwish) fun _ _ z => False.elim z
end

section
variable {X : Cx} {st : Stmt} {rest : List Stmt} {t u : TS} {e : Expr} {te : TE} {pos : Pos}
def tNext : TS := fun D σ H => D.nx σ H
def tSeq (t u : TS) : TS := fun D σ H => t { D with nx := u D } σ H
theorem pss_nil : PSs X [] tNext := .mk fun _ _ σ H _ I h => wpAny_execs_nil ⟨σ, H, I, h⟩
theorem pss_cons (h1 : PS X st t) (h2 : PSs X rest u) : PSs X (st :: rest) (tSeq t u) := by
  refine ⟨?_⟩
  intro pins s σ H D I h
  refine wpAny_execs_cons (thn (h1 pins s σ H { D with nx := u D } I h) fun f s1 q => ?_)
  cases f with
  | next =>
    obtain ⟨σ', H', I', q⟩ := q
    exact h2 pins s1 σ' H' D I' q
  | ret v => exact q
  | brk => exact q
  | cont => exact q
theorem pss_one (h1 : PS X st t) : PSs X [st] t := by
  refine ⟨?_⟩
  intro pins s σ H D I h
  refine wpAny_execs_cons (thn (h1 pins s σ H D I h) fun f s1 q => ?_)
  cases f with
  | next => exact wpAny_execs_nil q
  | ret v => exact q
  | brk => exact q
  | cont => exact q
theorem Inv.quiet {pins : List (Addr × Obj)} {σ : St} {H : Hp} {s : Shared} (I : Inv X pins σ H s) : interactive X.env = false := by simp [interactive, I.ok.kind]

def tDrop (te : TE) : TS := fun D σ H => te σ H fun _ H1 => D.nx σ H1
theorem ps_expr (he : PE X e te) (hs : swapsWith e none pos.line X.env = pure false := by rfl) : PS X (.Expr e pos) (tDrop te) := by
  refine ⟨?_⟩
  intro pins s σ H D I h
  exact wpAny_Expr_any (thn (he pins s σ H _ I h) fun v s1 ⟨x, H1, I1, r1, q1⟩ => ⟨σ, H1, I1, q1⟩) I.quiet hs
def tRet (te : TE) : TS := fun D σ H => te σ H D.rt
theorem ps_ret (he : PE X e te) : PS X (.Return (some e) pos) (tRet te) := by
  refine ⟨?_⟩
  intro pins s σ H D I h
  exact wpAny_Return_some (thn (he pins s σ H _ I h) fun v s1 ⟨x, H1, I1, r1, q1⟩ => ⟨x, σ, H1, I1, r1, q1⟩)
def tRetN : TS := fun D _ H => D.rt .non H
def tIfS (c : TT) (t u : TS) : TS := fun D σ H => c σ H fun b H1 => if b = true then t D σ H1 else u D σ H1
theorem ps_if {c : Expr} {a b : List Stmt} {tc : TT} (hc : PT X c tc) (ha : PSs X a t) (hb : PSs X b u) : PS X (.If c a b pos) (tIfS tc t u) := by
  refine ⟨?_⟩
  intro pins s σ H D I h
  refine wpAny_If (thn (hc pins s σ H _ I h) fun d s1 ⟨H1, I1, q1⟩ => ?_)
  cases d with
  | true => exact ha pins s1 σ H1 D I1 q1
  | false => exact hb pins s1 σ H1 D I1 q1

def tNever : TS := fun _ _ _ => False
end

abbrev TG := V → St → Hp → (St → Hp → Prop) → Prop
abbrev TGs := List V → St → Hp → (St → Hp → Prop) → Prop
structure PG (X : Cx) (target : Expr) (t : TG) : Prop where
  out :
    ∀ (pins : List (Addr × Obj)) (s : Shared) (σ : St) (H : Hp) (v : V) (u : Value) (Q : St → Hp → Prop), Inv X pins σ H s → RelV v u → t v σ H Q →
      wpAny (model X.prog X.w) X.A (assign target X.env u) (fun _ s' => ∃ σ' H', Inv X pins σ' H' s' ∧ Q σ' H') X.xe s
instance {X : Cx} {target : Expr} {t : TG} : CoeFun (PG X target t) fun _ =>
  ∀ (pins : List (Addr × Obj)) (s : Shared) (σ : St) (H : Hp) (v : V) (u : Value) (Q : St → Hp → Prop), Inv X pins σ H s → RelV v u → t v σ H Q →
    wpAny (model X.prog X.w) X.A (assign target X.env u) (fun _ s' => ∃ σ' H', Inv X pins σ' H' s' ∧ Q σ' H') X.xe s := ⟨PG.out⟩

structure PGs (X : Cx) (ts : List Expr) (t : TGs) : Prop where
  out :
    ∀ (pins : List (Addr × Obj)) (s : Shared) (σ : St) (H : Hp) (vs : List V) (us : List Value) (Q : St → Hp → Prop), Inv X pins σ H s → Vals vs us → t vs σ H Q →
      wpAny (model X.prog X.w) X.A (assignInOrder ((assignEach ts X.env).map (·.2)) us) (fun _ s' => ∃ σ' H', Inv X pins σ' H' s' ∧ Q σ' H') X.xe s
instance {X : Cx} {ts : List Expr} {t : TGs} : CoeFun (PGs X ts t) fun _ =>
  ∀ (pins : List (Addr × Obj)) (s : Shared) (σ : St) (H : Hp) (vs : List V) (us : List Value) (Q : St → Hp → Prop), Inv X pins σ H s → Vals vs us → t vs σ H Q →
    wpAny (model X.prog X.w) X.A (assignInOrder ((assignEach ts X.env).map (·.2)) us) (fun _ s' => ∃ σ' H', Inv X pins σ' H' s' ∧ Q σ' H') X.xe s := ⟨PGs.out⟩

abbrev TSet := V → V → V → Hp → (Hp → Prop) → Prop
def PSet (X : Cx) (t : TSet) : Prop :=
  ∀ (pins : List (Addr × Obj)) (s : Shared) (σ : St) (H : Hp) (o i v : V) (ov iv u : Value) (Q : Hp → Prop), Inv X pins σ H s → RelV o ov → RelV i iv → RelV v u → t o i v H Q →
    wpAny (model X.prog X.w) X.A (setItem ov iv u) (fun _ s' => ∃ H', Inv X pins σ H' s' ∧ Q H') X.xe s

abbrev TIp := V → V → Hp → VK → Prop
section
variable {X : Cx} {pos : Pos}
def gName (i : Nat) : TG := fun v σ H Q => Q (σ.set i (some v)) H
theorem pg_name {i : Nat} {x : Str} (hN : X.N.Nodup) (hi : X.N[i]? = some x) (hx : Loc X.env.scope x) (hf : X.fn x = true ∨ X.env.scope.names.lookup x = some .local := by first | exact .inl rfl | exact .inr rfl | assumption) : PG X (.Name x pos) (gName i) := by
  refine ⟨?_⟩
  intro pins s σ H v u Q I r h
  exact wpAny_assign_Name (store_ok I hN hi hx r (fun s' I' => ⟨_, H, I', h⟩) hf)
def gNil : TGs := fun vs σ H Q => vs = [] ∧ Q σ H
def gCons (t : TG) (u : TGs) : TGs := fun vs σ H Q => ∃ v r, vs = v :: r ∧ t v σ H fun σ' H' => u r σ' H' Q
theorem pgs_nil : PGs X [] gNil := by
  refine ⟨?_⟩
  intro pins s σ H vs us Q I r h
  obtain ⟨e, h⟩ := h
  subst e
  cases r
  exact assignInOrder_nil ⟨σ, H, I, h⟩
theorem pgs_cons {e : Expr} {es : List Expr} {t : TG} {u : TGs} (h1 : PG X e t) (h2 : PGs X es u)
    (hs : (assignEach (e :: es) X.env).map (·.2) = assign e X.env :: (assignEach es X.env).map (·.2) := by rfl) : PGs X (e :: es) (gCons t u) := by
  refine ⟨?_⟩
  intro pins s σ H vs us Q I r h
  obtain ⟨v, vr, e1, h⟩ := h
  subst e1
  cases r with
  | cons r rr =>
    rw [hs]
    refine assignInOrder_cons (thn (h1 pins s σ H _ _ _ I r h) fun _ s1 ⟨σ1, H1, I1, q1⟩ => ?_)
    exact h2 pins s1 σ1 H1 _ _ Q I1 rr q1

def gTup (K : PySem.W.Frag) (n : Nat) (t : TGs) : TG := fun v σ H Q => ∃ a xs, v = .ref a ∧ SqT K H a xs ∧ xs.length = n ∧ t xs σ H Q
theorem pg_tup {es : List Expr} {k : Nat} {t : TGs} {n : Nat} (hc : X.calm = true) (h : PGs X es t)
    (hn : (assignEach es X.env).length = n := by rfl) (hst : (assignEach es X.env).findIdx? (·.1) = none := by rfl) : PG X (.Tuple es k pos) (gTup X.K n t) := by
  refine ⟨?_⟩
  intro pins s σ H v u Q I r hw
  obtain ⟨a, xs, e1, hq, hl, hw⟩ := hw
  subst e1
  cases r
  obtain ⟨its, rv, ht, hz⟩ := I.tuple hq
  refine assign_Tuple_tuple (I.ok.hd hc) ht (by simp [hn, ← hl, rv.length]) hst fun h' hx => ?_
  have I1 : Inv X pins σ H { s with heap := h' } := I.kept (t' := s.toks) fun b o e => hx b o (Nat.ne_of_lt (Heap.lt_size e)) e
  exact h pins _ σ H xs _ Q I1 (by simpa using rv) hw

def gSub (to ti : TE) (t : TSet) : TG := fun v σ H Q => to σ H fun o H1 => ti σ H1 fun i H2 => t o i v H2 fun H3 => Q σ H3
theorem pg_sub {o i : Expr} {to ti : TE} {t : TSet} (ho : PE X o to) (hi : PE X i ti) (hs : PSet X t)
    (ha : ∀ v, assign (.Subscript o i pos) X.env v = (do
      let ov ← holding [v] (eval o X.env)
      let iv ← holding [v, ov] (eval i X.env)
      standAt pos
      holding [v, ov, iv] (setItem ov iv v)
      release [v, ov, iv] []) := by intro _; rfl) : PG X (.Subscript o i pos) (gSub to ti t) := by
  refine ⟨?_⟩
  intro pins s σ H v u Q I r h
  rw [ha]
  refine wpAny_bind (wpAny_holding (thn (ho pins s σ H _ I h) fun ov s1 ⟨x, H1, I1, r1, q1⟩ => ?_))
  refine wpAny_bind (wpAny_holding (thn (hi pins s1 σ H1 _ I1 q1) fun iv s2 ⟨y, H2, I2, r2, q2⟩ => ?_))
  refine wpAny_bind (wpAny_standAt (wpAny_bind (wpAny_holding (thn (hs pins s2 σ H2 x y v ov iv u _ I2 r1 r2 r q2) fun _ s3 ⟨H3, I3, q3⟩ => ?_))))
  exact wpAny_release ⟨σ, H3, I3, q3⟩

def tAsg (te : TE) (g : TG) : TS := fun D σ H => te σ H fun x H1 => g x σ H1 D.nx
theorem ps_asg {tg e : Expr} {te : TE} {g : TG} (he : PE X e te) (hg : PG X tg g) (hs : swapsWithSole [tg] e pos.line X.env = pure false := by rfl) (hw : swappedStores [tg] e X.env = pure none := by rfl)
    (h1 : (assignEach [tg] X.env).map (·.2) = [assign tg X.env] := by rfl) : PS X (.Assign [tg] e pos) (tAsg te g) := by
  refine ⟨?_⟩
  intro pins s σ H D I h
  refine wpAny_Assign_stores (thn (he pins s σ H _ I h) fun v s1 ⟨x, H1, I1, r1, q1⟩ => ?_) hs hw
  rw [h1]
  exact thn (hg pins s1 σ H1 x v _ I1 r1 q1) fun _ s2 q => q

theorem ps_set {i : Nat} {x : Str} {e : Expr} {te : TE} {pos' : Pos} (hN : X.N.Nodup) (hi : X.N[i]? = some x) (hx : Loc X.env.scope x) (he : PE X e te) (hs : swapsWith e (some (.Name x pos')) pos.line X.env = pure false := by rfl) (hf : X.fn x = true ∨ X.env.scope.names.lookup x = some .local := by first | exact .inl rfl | exact .inr rfl | assumption) :
    PS X (.Assign [.Name x pos'] e pos) (tAsg te (gName i)) := by
  refine ⟨?_⟩
  intro pins s σ H D I h
  refine wpAny_Assign_Name (thn (he pins s σ H _ I h) fun v s1 ⟨y, H1, I1, r1, q1⟩ => ?_) hs
  exact store_ok I1 hN hi hx r1 (fun s2 I2 => ⟨_, H1, I2, q1⟩) hf

def tAug (i : Nat) (te : TE) (ti : TIp) : TS := fun D σ H => ∃ x, σ[i]? = some (some x) ∧ te σ H fun y H1 => ti x y H1 fun z H2 => D.nx (σ.set i (some z)) H2
def ipI (f : Int → Int → Int) : TIp := fun x y H Q => ∃ i j, x = .int i ∧ y = .int j ∧ Q (.int (f i j)) H
end

section
variable {X : Cx} {pos : Pos}

def tWhile (c : TT) (tb : TS) : TS := fun D σ H => ∃ W : Nat → St → Hp → Prop, (∃ m, W m σ H) ∧ ∀ m σ H, W m σ H →
  c σ H fun b H1 => if b = true then ∃ N : St → Hp → Prop, (∀ σ' H', N σ' H' → ∃ m', m' < m ∧ W m' σ' H') ∧ tb { D with nx := N, ct := N, bk := D.nx } σ H1 else D.nx σ H1
end

structure It where
  go : Nat → Hp → Prop
  yld : Nat → Hp → V → Hp → Prop
  stop : Nat → Hp → Prop

def FpOk (X : Cx) (pins : List (Addr × Obj)) (H : Hp) (b : Addr) : Prop :=
  H b = none ∧ b ≠ X.env.locals ∧ b ∉ X.fs ∧ (b ∈ X.ex ∨ X.s₀.heap.objs.size ≤ b) ∧ (∀ x c, X.env.cells.lookup x = some c → c ≠ b) ∧ ∀ p ∈ X.pn ++ pins, p.1 ≠ b
theorem Inv.fpOk {X : Cx} {pins : List (Addr × Obj)} {σ : St} {H H' : Hp} {s : Shared} {b : Addr} (I : Inv X pins σ H s) (hb : s.heap.objs.size ≤ b) (hn : H' b = none) : FpOk X pins H' b := by
  refine ⟨hn, Nat.ne_of_gt (Nat.lt_of_lt_of_le I.lt hb), I.nofs hb, .inr (Nat.le_trans I.sz hb), fun x c e z => ?_, fun p hp z => ?_⟩
  · obtain ⟨v, q⟩ := I.cell x c e
    exact absurd (Nat.lt_of_lt_of_le q.lt (by rw [z]; exact hb)) (Nat.lt_irrefl _)
  · exact absurd (Nat.lt_of_lt_of_le (Heap.lt_size (I.pin p hp).1) (by rw [z]; exact hb)) (Nat.lt_irrefl _)
structure Turn (P : Program) (w : World) (K : PySem.W.Frag) (tg : Expr) (J : It) (fp : List Addr) (it : Addr) (tn : Nat → Heap → Prop) : Prop where
  mem : it ∈ fp
  obj : ∀ i h, tn i h → ∀ b ∈ fp, ∃ o, h.get? b = some o ∧ ∀ v, o.data ≠ .cell v
  keep : ∀ i h h', tn i h → (∀ b ∈ fp, ∀ o, h.get? b = some o → h'.get? b = some o) → tn i h'
  item : ∀ (X : Cx), X.prog = P → X.w = w → X.K = K → X.calm = true → ∀ (i : Nat) (pins : List (Addr × Obj)) (s : Shared) (σ : St) (H : Hp) (E : Value → Shared → Prop), Inv X pins σ H s → (∀ b ∈ fp, FpOk X pins H b) → tn i s.heap → J.go i H →
    wpAny (model P w) X.A (pyNext (.ref it)) (fun r s1 => ∃ u, r = some u ∧
      wpAny (model P w) X.A (letOwnedTupleGo tg (.ref it) u) (fun _ s2 => ∃ x H', Inv X pins σ H' s2 ∧ RelV x u ∧ J.yld i H x H' ∧ tn (i + 1) s2.heap ∧ ∀ b ∈ fp, H' b = none) E s1) E s
  done : ∀ (X : Cx), X.prog = P → X.w = w → X.K = K → X.calm = true → ∀ (i : Nat) (pins : List (Addr × Obj)) (s : Shared) (σ : St) (H : Hp) (E : Value → Shared → Prop), Inv X pins σ H s → (∀ b ∈ fp, FpOk X pins H b) → tn i s.heap → J.stop i H →
    wpAny (model P w) X.A (pyNext (.ref it)) (fun r s1 => r = none ∧ Inv X pins σ H s1) E s
  self : ∀ (A : Around) (i : Nat) (s : Shared) (Q : Value → Shared → Prop) (E : Value → Shared → Prop), tn i s.heap → Q (.ref it) s → wpAny (model P w) A (pyIter (.ref it)) Q E s
abbrev TI := St → Hp → (It → Hp → Prop) → Prop

def PIE (X : Cx) (pins : List (Addr × Obj)) (σ : St) (tg : Expr) (R : It → Hp → Prop) (itv : Value) (s2 : Shared) : Prop :=
  ∃ (it : Addr) (fp : List Addr) (tn : Nat → Heap → Prop) (J : It) (H' : Hp), itv = .ref it ∧ Inv X pins σ H' s2 ∧ Turn X.prog X.w X.K tg J fp it tn ∧ tn 0 s2.heap ∧ (∀ b ∈ fp, FpOk X pins H' b) ∧ R J H'
structure PI (X : Cx) (tg iter : Expr) (wi : TI) : Prop where
  out :
    ∀ (pins : List (Addr × Obj)) (s : Shared) (σ : St) (H : Hp) (R : It → Hp → Prop), Inv X pins σ H s → wi σ H R →
      wpAny (model X.prog X.w) X.A (eval iter X.env) (fun v s1 => wpAny (model X.prog X.w) X.A (pyIter v) (PIE X pins σ tg R) X.xe s1) X.xe s
instance {X : Cx} {tg iter : Expr} {wi : TI} : CoeFun (PI X tg iter wi) fun _ =>
  ∀ (pins : List (Addr × Obj)) (s : Shared) (σ : St) (H : Hp) (R : It → Hp → Prop), Inv X pins σ H s → wi σ H R →
    wpAny (model X.prog X.w) X.A (eval iter X.env) (fun v s1 => wpAny (model X.prog X.w) X.A (pyIter v) (PIE X pins σ tg R) X.xe s1) X.xe s := ⟨PI.out⟩

theorem go_of {M : Model} {A : Around} {E : Value → Shared → Prop} {s : Shared} {tg : Expr} {it : Addr} {u : Value} {o : Obj} {n : String} {vs : Array Value} {Q : Unit → Shared → Prop} (ho : s.heap.get? it = some o) (hc : o.cls = .type n) (hd : o.data = .fields vs)
    (hn : ["enumerate", "zip", "dict_itemiterator", "dict_reverseitemiterator", "odict_iterator", "itertools.zip_longest", "itertools.pairwise"].contains n = false) (hQ : Q () s) : wpAny M A (letOwnedTupleGo tg (.ref it) u) Q E s := by
  unfold letOwnedTupleGo
  cases tg <;> first
    | exact wpAny_pure hQ
    | (cases u <;> first
        | exact wpAny_pure hQ
        | (refine wpAny_bind (wpAny_load ho ?_)
           rw [hc, hd]
           show wpAny M A (if (["enumerate", "zip", "dict_itemiterator", "dict_reverseitemiterator", "odict_iterator", "itertools.zip_longest", "itertools.pairwise"].contains n && vs[0]? == some (rawInt _)) = true then _ else _) Q E s
           rw [if_neg (by intro h; rw [hn, Bool.false_and] at h; cases h)]
           exact wpAny_pure hQ))

def Itl (K : PySem.W.Frag) (a : Addr) : It :=
  ⟨fun i H => ∃ xs x, SqL K H a xs ∧ xs[i]? = some x, fun i H x H' => H' = H ∧ ∀ xs, SqL K H a xs → xs[i]? = some x, fun i H => ∃ xs, SqL K H a xs ∧ xs.length ≤ i⟩
def Itt (K : PySem.W.Frag) (a : Addr) : It :=
  ⟨fun i H => ∃ xs x, SqT K H a xs ∧ xs[i]? = some x, fun i H x H' => H' = H ∧ ∀ xs, SqT K H a xs → xs[i]? = some x, fun i H => ∃ xs, SqT K H a xs ∧ xs.length ≤ i⟩

def Itr (lo : Int) (n : Nat) : It := ⟨fun i _ => i < n, fun i H x H' => H' = H ∧ x = .int (lo + i), fun i _ => n ≤ i⟩
theorem turn_list {P : Program} {w : World} {K : PySem.W.Frag} {tg : Expr} (a it : Addr) : Turn P w K tg (Itl K a) [it] it (fun i h => h.IsListIter it a i) where
  mem := by simp
  obj := fun i h st b hb => by
    have e : b = it := by simpa using hb
    subst e
    obtain ⟨o, e, c, d⟩ := st
    exact ⟨o, e, fun v z => by rw [d] at z; cases z⟩
  keep := fun i h h' st k => st.at fun o e => k it (by simp) o e
  item := by
    intro X hP hw hK hc i pins s σ H E I hf st hg
    subst hP hw hK
    obtain ⟨xs, x, hq, hx⟩ := hg
    obtain ⟨its, rv, p, hz⟩ := I.list hq
    obtain ⟨u, hu, ru⟩ := rv.get hx
    obtain ⟨f0, f1, f2, f3, f4, f5⟩ := hf it (by simp)
    refine wpAny_pyNext_list_item st p.isList (x := u) (by simpa using hu) fun h' st' sb => ?_
    have I1 : Inv X pins σ H { s with heap := h' } := I.turned (t' := s.toks) (fun b o hb e => (sb.2 b hb).trans e) f0 f1 f3 f4 f5
    obtain ⟨o, e, c, d⟩ := id st'
    exact ⟨u, rfl, go_of (s := { s with heap := h' }) e c d (by decide) ⟨x, H, I1, ru, ⟨rfl, fun ys hy => by rw [I.list_inj hy hq]; exact hx⟩, st', fun b hb => (hf b hb).1⟩⟩
  done := by
    intro X hP hw hK hc i pins s σ H E I hf st hg
    subst hP hw hK
    obtain ⟨xs, hq, hx⟩ := hg
    obtain ⟨its, rv, p, hz⟩ := I.list hq
    obtain ⟨f0, f1, f2, f3, f4, f5⟩ := hf it (by simp)
    have hl := rv.length
    exact wpAny_pyNext_list_end (I.ok.hd hc) st p.isList (by simp; omega) fun h' eb => ⟨rfl, I.turned (t' := s.toks) (fun b o hb e => eb b o hb e) f0 f1 f3 f4 f5⟩
  self := fun _ _ _ _ _ st h => wpAny_pyIter_listiter st h
theorem turn_tuple {P : Program} {w : World} {K : PySem.W.Frag} {tg : Expr} (a it : Addr) : Turn P w K tg (Itt K a) [it] it (fun i h => h.IsTupleIter it a i) where
  mem := by simp
  obj := fun i h st b hb => by
    have e : b = it := by simpa using hb
    subst e
    obtain ⟨o, e, c, d⟩ := st
    exact ⟨o, e, fun v z => by rw [d] at z; cases z⟩
  keep := fun i h h' st k => st.at fun o e => k it (by simp) o e
  item := by
    intro X hP hw hK hc i pins s σ H E I hf st hg
    subst hP hw hK
    obtain ⟨xs, x, hq, hx⟩ := hg
    obtain ⟨its, rv, p, hz⟩ := I.tuple hq
    obtain ⟨u, hu, ru⟩ := rv.get hx
    obtain ⟨f0, f1, f2, f3, f4, f5⟩ := hf it (by simp)
    refine wpAny_pyNext_tuple_item st (show s.heap.IsTuple a its.toArray from p) (x := u) (by simpa using hu) fun h' st' sb => ?_
    have I1 : Inv X pins σ H { s with heap := h' } := I.turned (t' := s.toks) (fun b o hb e => (sb.2 b hb).trans e) f0 f1 f3 f4 f5
    obtain ⟨o, e, c, d⟩ := id st'
    exact ⟨u, rfl, go_of (s := { s with heap := h' }) e c d (by decide) ⟨x, H, I1, ru, ⟨rfl, fun ys hy => by rw [I.tuple_inj hy hq]; exact hx⟩, st', fun b hb => (hf b hb).1⟩⟩
  done := by
    intro X hP hw hK hc i pins s σ H E I hf st hg
    subst hP hw hK
    obtain ⟨xs, hq, hx⟩ := hg
    obtain ⟨its, rv, p, hz⟩ := I.tuple hq
    obtain ⟨f0, f1, f2, f3, f4, f5⟩ := hf it (by simp)
    have hl := rv.length
    exact wpAny_pyNext_tuple_end (I.ok.hd hc) st (show s.heap.IsTuple a its.toArray from p) (by simp; omega) fun h' eb => ⟨rfl, I.turned (t' := s.toks) (fun b o hb e => eb b o hb e) f0 f1 f3 f4 f5⟩
  self := fun _ _ _ _ _ st h => wpAny_pyIter_tupleiter st h
theorem turn_range {P : Program} {w : World} {K : PySem.W.Frag} {tg : Expr} (it : Addr) (lo : Int) (n : Nat) : Turn P w K tg (Itr lo n) [it] it (fun i h => IsRangeIter h it (lo + (i : Nat) * 1) ((n : Int) - (i : Nat)) 1) where
  mem := by simp
  obj := fun i h st b hb => by
    have e : b = it := by simpa using hb
    subst e
    exact ⟨_, st, fun v z => by
      have z' : Data.fields _ = Data.cell v := z
      cases z'⟩
  keep := fun i h h' st k => k it (by simp) _ st
  item := by
    intro X hP hw hK hc i pins s σ H E I hf st hg
    subst hP hw hK
    obtain ⟨f0, f1, f2, f3, f4, f5⟩ := hf it (by simp)
    have W := Walks.range (prog := X.prog) (w := X.w) (I.ok.hd hc) it lo 1 n
    refine W.item i s _ _ hg st fun v h' tk hv st' kk => ?_
    obtain ⟨t, rfl⟩ := hv
    have I1 : Inv X pins σ H { s with heap := h', toks := tk } := I.turned (fun b o hb e => kk b o (by simpa using hb) e) f0 f1 f3 f4 f5
    refine ⟨_, rfl, go_of (s := { s with heap := h', toks := tk }) (n := "range_iterator") st' rfl rfl (by decide) ⟨.int (lo + i), H, I1, ⟨t, ?_⟩, ⟨rfl, rfl⟩, st', fun b hb => (hf b hb).1⟩⟩
    rw [Int.mul_one]
  done := by
    intro X hP hw hK hc i pins s σ H E I hf st hg
    subst hP hw hK
    obtain ⟨f0, f1, f2, f3, f4, f5⟩ := hf it (by simp)
    exact wpAny_pyNext_range_end (I.ok.hd hc) st (by have : n ≤ i := hg; omega) fun h' eb => ⟨rfl, I.turned (t' := s.toks) (fun b o hb e => eb b o hb e) f0 f1 f3 f4 f5⟩
  self := fun _ _ _ _ _ st h => wpAny_pyIter_rangeiter st h
end L2

namespace L2
open PySem PySem.Spec PyProof.Rows
section
variable {X : Cx} {tg : Expr}
theorem range_it {pins : List (Addr × Obj)} {σ : St} {H : Hp} {s : Shared} {R : It → Hp → Prop} {E : Value → Shared → Prop} {lo hi : Int} {t u v : Tok} {tk : Nat} (I : Inv X pins σ H s) (h1 : -(2 ^ 62) ≤ lo) (h2 : lo < 2 ^ 62) (h3 : -(2 ^ 62) ≤ hi) (h4 : hi < 2 ^ 62)
    (q : R (Itr lo (hi - lo).toNat) H) : wpAny (model X.prog X.w) X.A (pyIter (.ref s.heap.objs.size)) (PIE X pins σ tg R) E { s with heap := s.heap.push { cls := .type "range", data := .fields #[.int lo t, .int hi u, .int 1 v] }, toks := tk } := by
  refine wpAny_pyIter_range (IsRange.new ..) (small_one h1 h2 h3 h4) ?_
  have I1 : Inv X pins σ H { s with heap := s.heap.push { cls := .type "range", data := .fields #[.int lo t, .int hi u, .int 1 v] }, toks := tk } := I.kept fun b o e => Heap.get?_push_of_some _ e
  refine ⟨(s.heap.push { cls := .type "range", data := .fields #[.int lo t, .int hi u, .int 1 v] }).objs.size, [(s.heap.push { cls := .type "range", data := .fields #[.int lo t, .int hi u, .int 1 v] }).objs.size], _, _, H, rfl,
    I1.kept (t' := tk) fun b o e => Heap.get?_push_of_some _ e, turn_range _ lo (hi - lo).toNat, ?_, fun b hb => ?_, q⟩
  · have e1 : lo + ((0 : Nat) : Int) * 1 = lo := by simp
    have e2 : (((hi - lo).toNat : Nat) : Int) - ((0 : Nat) : Int) = Builtin.Range.rangeSize lo hi 1 := by rw [rangeSize_one]; split <;> omega
    show IsRangeIter _ _ (lo + ((0 : Nat) : Int) * 1) ((((hi - lo).toNat : Nat) : Int) - ((0 : Nat) : Int)) 1
    rw [e1, e2]
    exact Heap.get?_push_size _ rfl
  · have e : b = (s.heap.push { cls := .type "range", data := .fields #[.int lo t, .int hi u, .int 1 v] }).objs.size := by simpa using hb
    subst e
    exact I1.fpOk (Nat.le_refl _) (I1.hok.fresh (Nat.le_refl _))
def iRng1 (ta : TA) : TI := fun σ H R => ta σ H fun vs H1 => ∃ j : Int, vs = [.int j] ∧ -(2 ^ 62) ≤ j ∧ j < 2 ^ 62 ∧ R (Itr 0 j.toNat) H1
def iRng2 (ta : TA) : TI := fun σ H R => ta σ H fun vs H1 => ∃ i j : Int, vs = [.int i, .int j] ∧ (-(2 ^ 62) ≤ i ∧ i < 2 ^ 62 ∧ -(2 ^ 62) ≤ j ∧ j < 2 ^ 62) ∧ R (Itr i (j - i).toNat) H1
theorem pi_range1 {a : Expr} {ta : TA} {p pos : Pos} (hg : Gl X "range") (hm : X.mg "range" = none) (ha : PA X [a] ta) (hs : starEach [a] X.env = [(false, eval a X.env)] := by rfl) : PI X tg (.Call (.Name "range" p) [a] [] pos) (iRng1 ta) := by
  refine ⟨?_⟩
  intro pins s σ H R I h
  refine Call_ (ld_blt I hg hm boot_range (PyProof.Rows.callWith_type1 (thn (ha pos pins s σ H _ I h) fun us s1 ⟨vs, H1, I1, r1, q1⟩ => ?_) hs rfl))
  obtain ⟨j, e, q1, q2, q⟩ := q1
  subst e
  cases r1 with
  | cons r rr =>
    cases rr
    obtain ⟨t, rfl⟩ := r
    exact call_range_1 (range_it I1 (by omega) (by omega) q1 q2 (by simpa using q))
def tFor (wi : TI) (g : TG) (tb : TS) : TS := fun D σ H => wi σ H fun J H1 => ∃ W : Nat → Nat → St → Hp → Prop, (∃ m, W 0 m σ H1) ∧ ∀ i m σ H, W i m σ H →
  (J.stop i H ∧ D.nx σ H) ∨ (J.go i H ∧ ∃ N : St → Hp → Prop, (∀ σ' H', N σ' H' → ∃ m', m' < m ∧ W (i + 1) m' σ' H') ∧ ∀ x H', J.yld i H x H' → g x σ H' fun σ2 H2 => tb { D with nx := N, ct := N, bk := D.nx } σ2 H2)

def pinsAt (fp : List Addr) (h : Heap) : List (Addr × Obj) := fp.filterMap fun b => (h.get? b).map fun o => (b, o)
theorem mem_pinsAt {fp : List Addr} {h : Heap} {b : Addr} {o : Obj} (hb : b ∈ fp) (e : h.get? b = some o) : (b, o) ∈ pinsAt fp h := List.mem_filterMap.mpr ⟨b, hb, by rw [e]; rfl⟩
theorem of_pinsAt {fp : List Addr} {h : Heap} {p : Addr × Obj} (hp : p ∈ pinsAt fp h) : p.1 ∈ fp ∧ h.get? p.1 = some p.2 := by
  obtain ⟨b, hb, e⟩ := List.mem_filterMap.mp hp
  cases q : h.get? b with
  | none => rw [q] at e; cases e
  | some o =>
    rw [q] at e
    have e' : (b, o) = p := Option.some.inj e
    subst e'
    exact ⟨hb, q⟩
theorem Inv.pinned {pins : List (Addr × Obj)} {σ : St} {H : Hp} {s : Shared} {fp : List Addr} (I : Inv X pins σ H s) (hf : ∀ b ∈ fp, FpOk X pins H b) (ho : ∀ b ∈ fp, ∃ o, s.heap.get? b = some o ∧ ∀ v, o.data ≠ .cell v) : Inv X (pins ++ pinsAt fp s.heap) σ H s :=
  I.pins_of fun p hp => (List.mem_append.mp hp).elim (fun z => I.pin p (List.mem_append_right _ z)) fun z => by
    obtain ⟨hb, e⟩ := of_pinsAt z
    obtain ⟨f0, f1, f2, _⟩ := hf p.1 hb
    obtain ⟨o, e', d⟩ := ho p.1 hb
    rw [e] at e'; cases e'
    exact ⟨e, f0, f1, f2, d⟩
theorem Inv.unpinned {pins pl : List (Addr × Obj)} {σ : St} {H : Hp} {s : Shared} (I : Inv X (pins ++ pl) σ H s) : Inv X pins σ H s := I.pins_of fun p hp => I.pin p (List.mem_append_right _ (List.mem_append_left _ hp))
theorem ps_for {iter : Expr} {body : List Stmt} {wi : TI} {g : TG} {tb : TS} {pos : Pos} (hp : PassesOwn (model X.prog X.w) X.A X.env X.xe) (hc : X.calm = true) (hi : PI X tg iter wi) (hg : PG X tg g) (hb : PSs X body tb)
    (hs : ∀ x, foldedSetIterable iter X.env x = pure x := by intro _; rfl) : PS X (.For tg iter body [] pos) (tFor wi g tb) := by
  refine ⟨?_⟩
  intro pins s σ H D I h
  refine wpAny_For (thn (hi pins s σ H _ I h) fun v s1 h1 => thn h1 fun itv s2 h2 => ?_) hs
  obtain ⟨it, fp, tn, J, H2, e, I2, T, st2, f2, W, ⟨m0, w0⟩, turn⟩ := h2
  subst e

  have stat : ∀ {H' : Hp}, (∀ b ∈ fp, H' b = none) → ∀ b ∈ fp, FpOk X pins H' b := fun hn b hb => ⟨hn b hb, (f2 b hb).2⟩
  refine codeAny_forLoop_any (fun n s' => ∃ i σ' H', Inv X pins σ' H' s' ∧ tn i s'.heap ∧ (∀ b ∈ fp, H' b = none) ∧ W i n σ' H') ?_ m0 ⟨0, σ, H2, I2, st2, fun b hb => (f2 b hb).1, w0⟩
  rintro n s3 ⟨i, σ3, H3, I3, st3, fr3, w3⟩
  rcases turn i n σ3 H3 w3 with ⟨stop, qn⟩ | ⟨go, N, hN, step⟩
  · refine wpAny_passesOwn hp (thn (T.done X rfl rfl rfl hc i pins s3 σ3 H3 X.xe I3 (stat fr3) st3 stop) fun r s4 ⟨hr, I4⟩ => ?_)
    subst hr
    exact wpAny_execs_nil ⟨σ3, H3, I4, qn⟩
  · refine wpAny_passesOwn hp (thn (T.item X rfl rfl rfl hc i pins s3 σ3 H3 X.xe I3 (stat fr3) st3 go) fun r s4 ⟨u, hr, h4⟩ => ?_)
    subst hr
    refine wpAny_passesOwn hp (thn h4 fun _ s5 ⟨x, H5, I5, r5, y5, st5, fr5⟩ => ?_)
    have I5' := I5.pinned (stat fr5) (T.obj _ _ st5)
    refine wpAny_passesOwn hp (thn (hg _ s5 σ3 H5 x u _ I5' r5 (step x H5 y5)) fun _ s6 ⟨σ6, H6, I6, q6⟩ => ?_)
    refine wpAny_passesOwn hp (thn (hb _ s6 σ6 H6 _ I6 q6) fun f s7 q7 => ?_)
    have again : ∀ {σ7 : St} {H7 : Hp}, Inv X (pins ++ pinsAt fp s5.heap) σ7 H7 s7 → N σ7 H7 → ∃ m, m < n ∧ ∃ i σ' H', Inv X pins σ' H' s7 ∧ tn i s7.heap ∧ (∀ b ∈ fp, H' b = none) ∧ W i m σ' H' := fun {σ7 H7} I7 n7 => by
      obtain ⟨m', hm, w7⟩ := hN σ7 H7 n7
      refine ⟨m', hm, i + 1, σ7, H7, I7.unpinned, T.keep _ _ _ st5 fun b hb o e => (I7.pin (b, o) (List.mem_append_right _ (List.mem_append_right _ (mem_pinsAt hb e)))).1, fun b hb => ?_, w7⟩
      obtain ⟨o, e, d⟩ := T.obj _ _ st5 b hb
      exact (I7.pin (b, o) (List.mem_append_right _ (List.mem_append_right _ (mem_pinsAt hb e)))).2.1
    cases f with
    | next => obtain ⟨σ7, H7, I7, n7⟩ := q7; exact again I7 n7
    | cont => obtain ⟨σ7, H7, I7, n7⟩ := q7; exact again I7 n7
    | brk => obtain ⟨σ7, H7, I7, q7⟩ := q7; exact ⟨σ7, H7, I7.unpinned, q7⟩
    | ret v => obtain ⟨x7, σ7, H7, I7, r7, q7⟩ := q7; exact ⟨x7, σ7, H7, I7.unpinned, r7, q7⟩
end

theorem for_range {lo : Int} {n : Nat} {g : TG} {tb : TS} {D : Ends} {σ : St} {H : Hp} (Pv : Nat → St → Hp → Prop) (h0 : Pv 0 σ H)
    (hs : ∀ i σ H, i < n → Pv i σ H → g (.int (lo + i)) σ H fun σ2 H2 => tb { D with nx := Pv (i + 1), ct := Pv (i + 1), bk := D.nx } σ2 H2) (hd : ∀ σ H, Pv n σ H → D.nx σ H) :
    ∃ W : Nat → Nat → St → Hp → Prop, (∃ m, W 0 m σ H) ∧ ∀ i m σ H, W i m σ H →
      ((Itr lo n).stop i H ∧ D.nx σ H) ∨ ((Itr lo n).go i H ∧ ∃ N : St → Hp → Prop, (∀ σ' H', N σ' H' → ∃ m', m' < m ∧ W (i + 1) m' σ' H') ∧ ∀ x H', (Itr lo n).yld i H x H' → g x σ H' fun σ2 H2 => tb { D with nx := N, ct := N, bk := D.nx } σ2 H2) := by
  refine ⟨fun i m σ H => m = n - i ∧ i ≤ n ∧ Pv i σ H, ⟨n, by simp, Nat.zero_le _, h0⟩, ?_⟩
  rintro i m σ H ⟨rfl, hi, p⟩
  by_cases hlt : i < n
  · refine .inr ⟨hlt, Pv (i + 1), fun σ' H' p' => ⟨n - (i + 1), by omega, rfl, hlt, p'⟩, fun x H' y => ?_⟩
    obtain ⟨e, y⟩ := y
    subst e y
    exact hs i σ _ hlt p
  · have e : i = n := by omega
    subst e
    exact .inl ⟨Nat.le_refl _, hd σ H p⟩

end L2

namespace L2
open PySem PySem.Spec PyProof.Rows

abbrev R2 := V → V → Hp → VK → Prop

def OpR (X : Cx) (f : Value → Value → Sem Value) (r : R2) : Prop :=
  ∀ (pins : List (Addr × Obj)) (s : Shared) (σ : St) (H : Hp) (x y : V) (v u : Value) (Q : VK), Inv X pins σ H s → RelV x v → RelV y u → r x y H Q →
    wpAny (model X.prog X.w) X.A (f v u) (EP X pins σ Q) X.xe s

def UnR (X : Cx) (f : Value → Sem Value) (r : V → Hp → VK → Prop) : Prop :=
  ∀ (pins : List (Addr × Obj)) (s : Shared) (σ : St) (H : Hp) (x : V) (v : Value) (Q : VK), Inv X pins σ H s → RelV x v → r x H Q →
    wpAny (model X.prog X.w) X.A (f v) (EP X pins σ Q) X.xe s

def CallR (X : Cx) (f : Value) (r : List V → Hp → VK → Prop) : Prop :=
  ∀ (pins : List (Addr × Obj)) (s : Shared) (σ : St) (H : Hp) (xs : List V) (us : List Value) (Q : VK), Inv X pins σ H s → Vals xs us → r xs H Q →
    wpAny (model X.prog X.w) X.A (call f us) (EP X pins σ Q) X.xe s

def TruR (X : Cx) (r : V → Hp → (Bool → Hp → Prop) → Prop) : Prop :=
  ∀ (pins : List (Addr × Obj)) (s : Shared) (σ : St) (H : Hp) (x : V) (v : Value) (Q : Bool → Hp → Prop), Inv X pins σ H s → RelV x v → r x H Q →
    wpAny (model X.prog X.w) X.A (truthy v) (TP X pins σ Q) X.xe s

def tOp (r : R2) (ta tb : TE) : TE := fun σ H Q => ta σ H fun x H1 => tb σ H1 fun y H2 => r x y H2 Q
def tUn (r : V → Hp → VK → Prop) (ta : TE) : TE := fun σ H Q => ta σ H fun x H1 => r x H1 Q

def rI (C : Int → Int → Prop) (g : Int → Int → V) : R2 := fun x y H Q => ∃ i j, x = .int i ∧ y = .int j ∧ C i j ∧ Q (g i j) H
def rI0 (g : Int → Int → V) : R2 := fun x y H Q => ∃ i j, x = .int i ∧ y = .int j ∧ Q (g i j) H
def rU (g : Int → V) : V → Hp → VK → Prop := fun x H Q => ∃ i, x = .int i ∧ Q (g i) H

section
variable {X : Cx} {a b c : Expr} {ta tb tc : TE} {pos : Pos}

theorem binT (ha : PE X a ta) (hb : PE X b tb) {pins : List (Addr × Obj)} {s : Shared} {σ : St} {H : Hp} {R : V → V → Hp → Prop} (I : Inv X pins σ H s)
    (h : ta σ H fun x H1 => tb σ H1 fun y H2 => R x y H2) {Q : Value → Shared → Prop} {f : Value → Value → Sem Value}
    (hf : ∀ v u s2 x y H2, Inv X pins σ H2 s2 → RelV x v → RelV y u → R x y H2 → wpAny (model X.prog X.w) X.A (f v u) Q X.xe s2) :
    wpAny (model X.prog X.w) X.A (eval a X.env) (fun v s₁ => wpAny (model X.prog X.w) X.A (eval b X.env) (fun u s₂ => wpAny (model X.prog X.w) X.A (f v u) Q X.xe s₂) X.xe s₁) X.xe s := by
  refine thn (ha pins s σ H _ I h) fun v s1 ⟨x, H1, I1, r1, q1⟩ => ?_
  refine thn (hb pins s1 σ H1 _ I1 q1) fun u s2 ⟨y, H2, I2, r2, q2⟩ => ?_
  exact hf v u s2 x y H2 I2 r1 r2 q2

theorem pe_op {op : Operator} {r : R2} (ho : OpR X (binaryOp op) r) (ha : PE X a ta) (hb : PE X b tb) : PE X (.BinOp a op b pos) (tOp r ta tb) := by
  refine ⟨?_⟩
  intro pins s σ H Q I h
  exact wpAny_BinOp (binT ha hb I h fun v u s2 x y H2 I2 rx ry q => ho pins s2 σ H2 x y v u Q I2 rx ry q)
theorem pe_un {op : UnaryOp} {r : V → Hp → VK → Prop} (ho : UnR X (unaryOp op) r) (ha : PE X a ta) : PE X (.UnaryOp op a pos) (tUn r ta) := by
  refine ⟨?_⟩
  intro pins s σ H Q I h
  exact UnaryOp_ (thn (ha pins s σ H _ I h) fun v s1 ⟨x, H1, I1, r1, q1⟩ => ho pins s1 σ H1 x v Q I1 r1 q1)

theorem opI {f : Value → Value → Sem Value} {C : Int → Int → Prop} {g : Int → Int → Int}
    (rule : ∀ (i j : Int) (t u : Tok) (s : Shared) (Q : Value → Shared → Prop) (E : Value → Shared → Prop), C i j → Q (.int (g i j) s.toks) { s with toks := s.toks + 1 } → wpAny (model X.prog X.w) X.A (f (.int i t) (.int j u)) Q E s) :
    OpR X f (rI C fun i j => .int (g i j)) := by
  intro pins s σ H x y v u Q I rx ry h
  obtain ⟨i, j, rfl, rfl, hc, q⟩ := h
  obtain ⟨t, rfl⟩ := rx
  obtain ⟨t', rfl⟩ := ry
  exact rule i j t t' s _ _ hc ⟨.int (g i j), H, I.tok _, ⟨_, rfl⟩, q⟩
theorem opI0 {f : Value → Value → Sem Value} {g : Int → Int → Int}
    (rule : ∀ (i j : Int) (t u : Tok) (s : Shared) (Q : Value → Shared → Prop) (E : Value → Shared → Prop), Q (.int (g i j) s.toks) { s with toks := s.toks + 1 } → wpAny (model X.prog X.w) X.A (f (.int i t) (.int j u)) Q E s) :
    OpR X f (rI0 fun i j => .int (g i j)) := by
  intro pins s σ H x y v u Q I rx ry h
  obtain ⟨i, j, rfl, rfl, q⟩ := h
  obtain ⟨t, rfl⟩ := rx
  obtain ⟨t', rfl⟩ := ry
  exact rule i j t t' s _ _ ⟨.int (g i j), H, I.tok _, ⟨_, rfl⟩, q⟩
theorem opB0 {f : Value → Value → Sem Value} {g : Int → Int → Bool}
    (rule : ∀ (i j : Int) (t u : Tok) (s : Shared) (Q : Value → Shared → Prop) (E : Value → Shared → Prop), Q (.bool (g i j)) s → wpAny (model X.prog X.w) X.A (f (.int i t) (.int j u)) Q E s) :
    OpR X f (rI0 fun i j => .bl (g i j)) := by
  intro pins s σ H x y v u Q I rx ry h
  obtain ⟨i, j, rfl, rfl, q⟩ := h
  obtain ⟨t, rfl⟩ := rx
  obtain ⟨t', rfl⟩ := ry
  exact rule i j t t' s _ _ ⟨.bl (g i j), H, I, rfl, q⟩

def CPow (i j : Int) : Prop := 0 ≤ j ∧ j ≤ 1000000 ∧ i.natAbs < 2 ^ 64
def CMul (i j : Int) : Prop := (-(2 ^ 64) < i ∧ i < 2 ^ 64) ∨ (-(2 ^ 64) < j ∧ j < 2 ^ 64)
theorem CMul.ok {i j : Int} (h : CMul i j) : IntMulOk i j := by
  rcases h with ⟨h1, h2⟩ | ⟨h1, h2⟩
  · exact .of_left (intBits_le_64 h1 h2)
  · exact .of_right (intBits_le_64 h1 h2)
theorem op_add : OpR X (binaryOp .Add) (rI0 fun i j => .int (i + j)) := opI0 fun _ _ _ _ _ _ _ q => add_int q
theorem op_sub : OpR X (binaryOp .Sub) (rI0 fun i j => .int (i - j)) := opI0 fun _ _ _ _ _ _ _ q => sub_int q
theorem op_mul : OpR X (binaryOp .Mult) (rI CMul fun i j => .int (i * j)) := opI fun _ _ _ _ _ _ _ hc q => mul_int q hc.ok

theorem op_mod : OpR X (binaryOp .Mod) (rI (fun _ j => 0 < j) fun i j => .int (i % j)) := opI fun i j _ _ _ _ _ hc q => by
  have h1 : (0 : Int) < j := hc
  exact mod_int' (by omega) (by rw [Int.fmod_eq_emod_of_nonneg i (by omega)]; exact q)
theorem op_pow : OpR X (binaryOp .Pow) (rI CPow fun i j => .int (i ^ j.toNat)) := opI fun _ _ _ _ _ _ _ hc q => pow_int_small hc.1 hc.2.1 hc.2.2 q
theorem unI {f : Value → Sem Value} {g : Int → Int}
    (rule : ∀ (i : Int) (t : Tok) (s : Shared) (Q : Value → Shared → Prop) (E : Value → Shared → Prop), Q (.int (g i) s.toks) { s with toks := s.toks + 1 } → wpAny (model X.prog X.w) X.A (f (.int i t)) Q E s) :
    UnR X f (rU fun i => .int (g i)) := by
  intro pins s σ H x v Q I rx h
  obtain ⟨i, rfl, q⟩ := h
  obtain ⟨t, rfl⟩ := rx
  exact rule i t s _ _ ⟨.int (g i), H, I.tok _, ⟨_, rfl⟩, q⟩
theorem un_neg : UnR X (unaryOp .USub) (rU fun i => .int (-i)) := unI fun _ _ _ _ _ q => neg_int q
end

def scal : V → V → Bool
  | .non, .non => true | .non, .int _ => true | .int _, .non => true | .non, .bl _ => true | .bl _, .non => true | .non, .str _ => true | .str _, .non => true
  | .int _, .int _ => true | .bl _, .bl _ => true | .str _, .str _ => true | .byt _, .byt _ => true
  | .int _, .str _ => true | .str _, .int _ => true | .bl _, .str _ => true | .str _, .bl _ => true
  | _, _ => false
def rEq : R2 := fun x y H Q => scal x y = true ∧ Q (.bl (decide (x = y))) H
def rNe : R2 := fun x y H Q => scal x y = true ∧ Q (.bl (!decide (x = y))) H

theorem dec_int {i j : Int} : decide (V.int i = V.int j) = (i == j) := by
  rw [Bool.eq_iff_iff]
  simp
theorem dec_bl {i j : Bool} : decide (V.bl i = V.bl j) = (i == j) := by
  rw [Bool.eq_iff_iff]
  simp
theorem dec_str {i j : Str} : decide (V.str i = V.str j) = (i == j) := by
  rw [Bool.eq_iff_iff]
  simp
theorem dec_byt {i j : Array UInt8} : decide (V.byt i = V.byt j) = (i.toList == j.toList) := by
  rw [Bool.eq_iff_iff]
  cases i
  cases j
  simp

section
variable {X : Cx} {a b c : Expr} {ta tb tc : TE} {pos : Pos}
theorem fin_bl {pins : List (Addr × Obj)} {σ : St} {H : Hp} {s : Shared} {Q : VK} {k k' : Bool} (I : Inv X pins σ H s) (q : Q (.bl k) H) (e : k = k') : EP X pins σ Q (.bool k') s := by
  subst e
  exact ⟨.bl k, H, I, rfl, q⟩
theorem op_eq : OpR X (compareOp .Eq) rEq := by
  intro pins s σ H x y v u Q I rx ry h
  obtain ⟨hs, q⟩ := h
  cases x with
  | non =>
    cases rx
    cases y with
    | non => cases ry; exact PySem.EqNone.eq_none_none (fin_bl I q (by simp))
    | bl j => cases ry; exact PySem.EqNone.eq_none_bool (fin_bl I q (by simp))
    | int j => obtain ⟨t', rfl⟩ := ry; exact PySem.EqNone.eq_none_int (fin_bl I q (by simp))
    | str j => obtain ⟨t', rfl⟩ := ry; exact PySem.EqNone.eq_none_str (fin_bl I q (by simp))
    | _ => exact absurd (show false = true from hs) Bool.false_ne_true
  | bl i =>
    cases rx
    cases y with
    | non => cases ry; exact PySem.EqNone.eq_bool_none (fin_bl I q (by simp))
    | bl j => cases ry; exact eq_bool (fin_bl I q dec_bl)
    | str j => obtain ⟨t', rfl⟩ := ry; exact PySem.EqMixed.eq_bool_str (fin_bl I q (by simp))
    | _ => exact absurd (show false = true from hs) Bool.false_ne_true
  | int i =>
    obtain ⟨t, rfl⟩ := rx
    cases y with
    | non => cases ry; exact PySem.EqNone.eq_int_none (fin_bl I q (by simp))
    | int j => obtain ⟨t', rfl⟩ := ry; exact eq_int (fin_bl I q dec_int)
    | str j => obtain ⟨t', rfl⟩ := ry; exact PySem.EqMixed.eq_int_str (fin_bl I q (by simp))
    | _ => exact absurd (show false = true from hs) Bool.false_ne_true
  | str i =>
    obtain ⟨t, rfl⟩ := rx
    cases y with
    | non => cases ry; exact PySem.EqNone.eq_str_none (fin_bl I q (by simp))
    | bl j => cases ry; exact PySem.EqMixed.eq_str_bool (fin_bl I q (by simp))
    | int j => obtain ⟨t', rfl⟩ := ry; exact PySem.EqMixed.eq_str_int (fin_bl I q (by simp))
    | str j => obtain ⟨t', rfl⟩ := ry; exact eq_str (fin_bl I q dec_str)
    | _ => exact absurd (show false = true from hs) Bool.false_ne_true
  | byt i =>
    obtain ⟨t, rfl⟩ := rx
    cases y with
    | byt j => obtain ⟨t', rfl⟩ := ry; exact PySem.W.eq_bytes (fin_bl I q dec_byt)
    | _ => exact absurd (show false = true from hs) Bool.false_ne_true
  | _ => cases y <;> exact absurd (show false = true from hs) Bool.false_ne_true
theorem op_ne : OpR X (compareOp .NotEq) rNe := by
  intro pins s σ H x y v u Q I rx ry h
  obtain ⟨hs, q⟩ := h
  cases x with
  | non =>
    cases rx
    cases y with
    | non => cases ry; exact PySem.EqNone.ne_none_none (fin_bl I q (by simp))
    | bl j => cases ry; exact PySem.EqNone.ne_none_bool (fin_bl I q (by simp))
    | int j => obtain ⟨t', rfl⟩ := ry; exact PySem.EqNone.ne_none_int (fin_bl I q (by simp))
    | str j => obtain ⟨t', rfl⟩ := ry; exact PySem.EqNone.ne_none_str (fin_bl I q (by simp))
    | _ => exact absurd (show false = true from hs) Bool.false_ne_true
  | bl i =>
    cases rx
    cases y with
    | non => cases ry; exact PySem.EqNone.ne_bool_none (fin_bl I q (by simp))
    | bl j => cases ry; exact ne_bool (fin_bl I q (congrArg not dec_bl))
    | str j => obtain ⟨t', rfl⟩ := ry; exact PySem.EqMixed.ne_bool_str (fin_bl I q (by simp))
    | _ => exact absurd (show false = true from hs) Bool.false_ne_true
  | int i =>
    obtain ⟨t, rfl⟩ := rx
    cases y with
    | non => cases ry; exact PySem.EqNone.ne_int_none (fin_bl I q (by simp))
    | int j => obtain ⟨t', rfl⟩ := ry; exact ne_int (fin_bl I q (congrArg not dec_int))
    | str j => obtain ⟨t', rfl⟩ := ry; exact PySem.EqMixed.ne_int_str (fin_bl I q (by simp))
    | _ => exact absurd (show false = true from hs) Bool.false_ne_true
  | str i =>
    obtain ⟨t, rfl⟩ := rx
    cases y with
    | non => cases ry; exact PySem.EqNone.ne_str_none (fin_bl I q (by simp))
    | bl j => cases ry; exact PySem.EqMixed.ne_str_bool (fin_bl I q (by simp))
    | int j => obtain ⟨t', rfl⟩ := ry; exact PySem.EqMixed.ne_str_int (fin_bl I q (by simp))
    | str j => obtain ⟨t', rfl⟩ := ry; exact ne_str (fin_bl I q (congrArg not dec_str))
    | _ => exact absurd (show false = true from hs) Bool.false_ne_true
  | byt i =>
    obtain ⟨t, rfl⟩ := rx
    cases y with
    | byt j => obtain ⟨t', rfl⟩ := ry; exact PySem.W.ne_bytes (fin_bl I q (congrArg not dec_byt))
    | _ => exact absurd (show false = true from hs) Bool.false_ne_true
  | _ => cases y <;> exact absurd (show false = true from hs) Bool.false_ne_true

theorem op_lt : OpR X (compareOp .Lt) (rI0 fun i j => .bl (decide (i < j))) := opB0 fun _ _ _ _ _ _ _ q => lt_int q
theorem op_le : OpR X (compareOp .LtE) (rI0 fun i j => .bl (decide (i ≤ j))) := opB0 fun _ _ _ _ _ _ _ q => le_int q
theorem op_gt : OpR X (compareOp .Gt) (rI0 fun i j => .bl (decide (j < i))) := opB0 fun _ _ _ _ _ _ _ q => gt_int q
theorem op_ge : OpR X (compareOp .GtE) (rI0 fun i j => .bl (decide (j ≤ i))) := opB0 fun _ _ _ _ _ _ _ q => ge_int q
theorem op_isN : OpR X (compareOp .Is) (fun x y H Q => y = .non ∧ Q (.bl (decide (x = .non))) H) := by
  intro pins s σ H x y v u Q I rx ry h
  obtain ⟨rfl, q⟩ := h
  cases ry
  refine is_none_gen (fin_bl I q ?_)
  cases x <;> first
    | (cases rx; rfl)
    | (obtain ⟨t, rfl⟩ := rx; rfl)
theorem op_notN : OpR X (compareOp .IsNot) (fun x y H Q => y = .non ∧ Q (.bl (!decide (x = .non))) H) := by
  intro pins s σ H x y v u Q I rx ry h
  obtain ⟨rfl, q⟩ := h
  cases ry
  refine isnot_none_gen (fin_bl I q ?_)
  cases x <;> first
    | (cases rx; rfl)
    | (obtain ⟨t, rfl⟩ := rx; rfl)

theorem nomark (b : Expr) {op : CmpOp} (h : op ≠ .In := by decide) (h2 : op ≠ .NotIn := by decide) : behindInMarks op b = false := by
  have e1 : (op == CmpOp.In) = false := by cases op <;> first | rfl | exact absurd rfl h
  have e2 : (op == CmpOp.NotIn) = false := by cases op <;> first | rfl | exact absurd rfl h2
  cases b <;> simp [behindInMarks, e1, e2]

theorem pe_cmpR {op : CmpOp} {r : R2} (ho : OpR X (compareOp op) r) (ha : PE X a ta) (hb : PE X b tb) (hm : behindInMarks op b = false) : PE X (.Compare a [op] [b] pos) (tOp r ta tb) := by
  refine ⟨?_⟩
  intro pins s σ H Q I h
  exact wpAny_Compare1 (binT ha hb I h fun v u s2 x y H2 I2 rx ry q => ho pins s2 σ H2 x y v u Q I2 rx ry q) hm

def tTest (t : TE) : TT := fun σ H Q => t σ H fun x H' => ∃ k, x = .bl k ∧ Q k H'
theorem pt_cmpR {op : CmpOp} {r : R2} (ho : OpR X (compareOp op) r) (ha : PE X a ta) (hb : PE X b tb) (hm : behindInMarks op b = false) : PT X (.Compare a [op] [b] pos) (tTest (tOp r ta tb)) := by
  refine ⟨?_⟩
  intro pins s σ H Q I h
  refine wpAny_isTrue_Compare1 (thn (ha pins s σ H _ I h) fun v s1 ⟨x, H1, I1, r1, q1⟩ => thn (hb pins s1 σ H1 _ I1 q1) fun u s2 ⟨y, H2, I2, r2, q2⟩ =>
    thn (ho pins s2 σ H2 x y v u _ I2 r1 r2 q2) fun c s3 ⟨z, H3, I3, r3, k, e, q3⟩ => ?_) hm
  subst e
  cases r3
  exact wpAny_truthy_bool ⟨H3, I3, q3⟩

def tChain (r r' : R2) (ta tb tc : TE) : TE := fun σ H Q => ta σ H fun x H1 => tb σ H1 fun y H2 => r x y H2 fun z H3 => ∃ k, z = .bl k ∧
  (if k = true then tc σ H3 fun w' H4 => r' y w' H4 Q else Q (.bl false) H3)
theorem pe_chain {op op' : CmpOp} {r r' : R2} (ho : OpR X (compareOp op) r) (ho' : OpR X (compareOp op') r') (ha : PE X a ta) (hb : PE X b tb) (hc : PE X c tc)
    (hm : lastMarks [op, op'] [b, c] = false := by with_unfolding_all rfl) : PE X (.Compare a [op, op'] [b, c] pos) (tChain r r' ta tb tc) := by
  refine ⟨?_⟩
  intro pins s σ H Q I h
  refine Compare_chain (thn (ha pins s σ H _ I h) fun v s1 ⟨x, H1, I1, r1, q1⟩ => chain_link (thn (hb pins s1 σ H1 _ I1 q1) fun u s2 ⟨y, H2, I2, r2, q2⟩ =>
    thn (ho pins s2 σ H2 x y v u _ I2 r1 r2 q2) fun d s3 ⟨z, H3, I3, r3, k, e, q3⟩ => ?_)) hm
  subst e
  cases r3
  refine wpAny_truthy_bool ?_
  cases k with
  | false => exact ite_ff ⟨.bl false, H3, I3, rfl, q3⟩
  | true => exact ite_tt (chain_last (thn (hc pins s3 σ H3 _ I3 q3) fun w' s4 ⟨z', H4, I4, r4, q4⟩ => ho' pins s4 σ H4 y z' u w' Q I4 r2 r4 q4))
def TruV (K : PySem.W.Frag) (x : V) (H : Hp) (k : Bool) : Prop :=
  match x with
  | .non => k = false
  | .bl b => k = b
  | .int i => k = (i != 0)
  | .str y => y.length ≤ sizeLine ∧ k = ((y.length : Int) != 0)
  | .byt y => y.size ≤ sizeLine ∧ k = ((y.size : Int) != 0)
  | .ref p => (∃ xs, SqL K H p xs ∧ k = !xs.isEmpty) ∨ (∃ xs, SqT K H p xs ∧ k = !xs.isEmpty) ∨ ∃ kvs, H p = some (.dK kvs) ∧ k = !kvs.isEmpty
  | _ => False
theorem isEmpty_kv {κ : Type} {kvs : List (κ × V)} {vs : List (κ × Value)} (r : KV kvs vs) : (!vs.isEmpty) = !kvs.isEmpty := by
  cases r <;> rfl
theorem isEmpty_of {xs : List V} {its : List Value} (r : Vals xs its) : (!its.toArray.isEmpty) = !xs.isEmpty := by
  cases r <;> simp
theorem line63 : (sizeLine : Nat) < 2 ^ 63 := by rw [sizeLine_eq]; decide
theorem tru_ok : TruR X (fun x H Q => ∃ k, TruV X.K x H k ∧ Q k H) := by
  intro pins s σ H x v Q I rx h
  obtain ⟨k, e, q⟩ := h
  have hl := line63
  have hs : sizeLine = 16777216 := sizeLine_eq
  cases x with
  | non =>
    cases rx
    have e' : k = false := e
    subst e'
    exact truthy_none ⟨H, I, q⟩
  | bl b =>
    cases rx
    have e' : k = b := e
    subst e'
    exact wpAny_truthy_bool ⟨H, I, q⟩
  | int i =>
    obtain ⟨t, rfl⟩ := rx
    have e' : k = (i != 0) := e
    subst e'
    exact PySem.P.truthy_int ⟨H, I, q⟩
  | str y =>
    obtain ⟨t, rfl⟩ := rx
    obtain ⟨hy, e'⟩ : y.length ≤ sizeLine ∧ k = ((y.length : Int) != 0) := e
    subst e'
    exact PySem.P.truthy_str (by omega) ⟨H, I.tok _, q⟩
  | byt y =>
    obtain ⟨t, rfl⟩ := rx
    obtain ⟨hy, e'⟩ : y.size ≤ sizeLine ∧ k = ((y.size : Int) != 0) := e
    subst e'
    exact PySem.W.truthy_bytes (by omega) ⟨H, I.tok _, q⟩
  | ref p =>
    cases rx
    have e' : (∃ xs, SqL X.K H p xs ∧ k = !xs.isEmpty) ∨ (∃ xs, SqT X.K H p xs ∧ k = !xs.isEmpty) ∨ ∃ kvs, H p = some (.dK kvs) ∧ k = !kvs.isEmpty := e
    rcases e' with ⟨xs, hx, e'⟩ | ⟨xs, hx, e'⟩ | ⟨kvs, hx, e'⟩
    · subst e'
      obtain ⟨its, r, pl, hz⟩ := I.list hx
      have hlen := r.length
      exact wpAny_truthy_list pl.isList (by simp only [List.size_toArray]; omega) ⟨H, I.tok _, by rw [isEmpty_of r]; exact q⟩
    · subst e'
      obtain ⟨its, r, pl, hz⟩ := I.tuple hx
      have hlen := r.length
      exact truthy_tuple pl (by simp only [List.size_toArray]; omega) ⟨H, I.tok _, by rw [isEmpty_of r]; exact q⟩
    · subst e'
      obtain ⟨hz, hS, vs, r, m⟩ : kvs.length ≤ sizeLine ∧ (p == sysModules) = false ∧ ∃ vs, KV kvs vs ∧ s.heap.DictOf (mixKind X.prog X.w) p vs := I.hok p _ hx
      have hlen : kvs.length = vs.length := Paired.length r
      exact wpAny_truthy_dict hS m (by omega) ⟨H, I.tok _, by rw [isEmpty_kv r]; exact q⟩
  | _ => exact (show False from e).elim

theorem op_add_str : OpR X (binaryOp .Add) (fun x y H Q => ∃ i j, x = .str i ∧ y = .str j ∧ i.length + j.length ≤ sizeLine ∧ Q (.str (i ++ j)) H) := by
  intro pins s σ H x y v u Q I rx ry h
  obtain ⟨i, j, rfl, rfl, hz, q⟩ := h
  obtain ⟨t, rfl⟩ := rx
  obtain ⟨t', rfl⟩ := ry
  exact add_str (fun t' tk => ⟨.str (i ++ j), H, I.tok _, ⟨_, rfl⟩, q⟩) hz
theorem vals1 {x : V} {us : List Value} (r : Vals [x] us) : ∃ u, us = [u] ∧ RelV x u := by
  cases r with
  | cons r1 r2 => cases r2; exact ⟨_, rfl, r1⟩
theorem vals2 {x y : V} {us : List Value} (r : Vals [x, y] us) : ∃ u w', us = [u, w'] ∧ RelV x u ∧ RelV y w' := by
  cases r with
  | cons r1 r2 =>
    cases r2 with
    | cons r3 r4 => cases r4; exact ⟨_, _, rfl, r1, r3⟩
theorem call_max2 (hc : X.calm = true) : CallR X (.builtin "max") (fun xs H Q => ∃ i j, xs = [.int i, .int j] ∧ Q (.int (if j > i then j else i)) H) := by
  intro pins s σ H xs us Q I r h
  obtain ⟨i, j, rfl, q⟩ := h
  obtain ⟨u, w', rfl, ⟨t, rfl⟩, ⟨t', rfl⟩⟩ := vals2 r
  refine max_two_ints (I.ok.hd hc) fun h' tk k => ⟨_, H, I.kept k, ?_, q⟩
  by_cases hj : j > i
  · rw [if_pos hj, if_pos hj]; exact ⟨_, rfl⟩
  · rw [if_neg hj, if_neg hj]; exact ⟨_, rfl⟩
theorem call_min2 (hc : X.calm = true) : CallR X (.builtin "min") (fun xs H Q => ∃ i j, xs = [.int i, .int j] ∧ Q (.int (if j < i then j else i)) H) := by
  intro pins s σ H xs us Q I r h
  obtain ⟨i, j, rfl, q⟩ := h
  obtain ⟨u, w', rfl, ⟨t, rfl⟩, ⟨t', rfl⟩⟩ := vals2 r
  refine min_two_ints (I.ok.hd hc) fun h' tk k => ⟨_, H, I.kept k, ?_, q⟩
  by_cases hj : j < i
  · rw [if_pos hj, if_pos hj]; exact ⟨_, rfl⟩
  · rw [if_neg hj, if_neg hj]; exact ⟨_, rfl⟩
theorem call_int1 : CallR X (.type "int") (fun xs H Q => (∃ i, xs = [.int i] ∧ Q (.int i) H) ∨ ∃ k, xs = [.bl k] ∧ Q (.int (if k then 1 else 0)) H) := by
  intro pins s σ H xs us Q I r h
  rcases h with ⟨i, rfl, q⟩ | ⟨k, rfl, q⟩
  · obtain ⟨u, rfl, t, rfl⟩ := vals1 r
    exact call_int_int ⟨.int i, H, I, ⟨_, rfl⟩, q⟩
  · obtain ⟨u, rfl, r1⟩ := vals1 r
    cases r1
    exact call_int_bool ⟨.int (if k then 1 else 0), H, I.tok _, ⟨_, rfl⟩, q⟩
def LenV (K : PySem.W.Frag) (x : V) (H : Hp) (n : Nat) : Prop :=
  match x with
  | .str y => y.length ≤ sizeLine ∧ n = y.length
  | .byt y => y.size ≤ sizeLine ∧ n = y.size
  | .ref p => (∃ xs, SqL K H p xs ∧ n = xs.length) ∨ ∃ xs, SqT K H p xs ∧ n = xs.length
  | _ => False
theorem call_len : CallR X (.builtin "len") (fun xs H Q => ∃ x n, xs = [x] ∧ LenV X.K x H n ∧ Q (.int n) H) := by
  intro pins s σ H xs us Q I r h
  obtain ⟨x, n, rfl, e, q⟩ := h
  obtain ⟨u, rfl, rx⟩ := vals1 r
  have hl := line63
  have hs : sizeLine = 16777216 := sizeLine_eq
  cases x with
  | str y =>
    obtain ⟨t, rfl⟩ := rx
    obtain ⟨hy, e'⟩ : y.length ≤ sizeLine ∧ n = y.length := e
    subst e'
    exact len_str (by omega) ⟨.int _, H, I.tok _, ⟨_, rfl⟩, q⟩
  | byt y =>
    obtain ⟨t, rfl⟩ := rx
    obtain ⟨hy, e'⟩ : y.size ≤ sizeLine ∧ n = y.size := e
    subst e'
    exact PySem.W.len_bytes (by omega) ⟨.int _, H, I.tok _, ⟨_, rfl⟩, q⟩
  | ref p =>
    cases rx
    have e' : (∃ xs, SqL X.K H p xs ∧ n = xs.length) ∨ ∃ xs, SqT X.K H p xs ∧ n = xs.length := e
    rcases e' with ⟨xs, hx, e'⟩ | ⟨xs, hx, e'⟩
    · subst e'
      obtain ⟨its, r', pl, hz⟩ := I.list hx
      have hlen := r'.length
      exact Calls.call_len_list pl.isList (by simp only [List.size_toArray]; omega) ⟨.int xs.length, H, I.tok _, ⟨_, by simp only [List.size_toArray]; rw [hlen]⟩, q⟩
    · subst e'
      obtain ⟨its, r', pl, hz⟩ := I.tuple hx
      have hlen := r'.length
      exact len_tuple pl (by simp only [List.size_toArray]; omega) ⟨.int xs.length, H, I.tok _, ⟨_, by simp only [List.size_toArray]; rw [hlen]⟩, q⟩
  | _ => exact (show False from e).elim

end
end L2

namespace L2
open PySem PySem.Spec PyProof.Rows

structure ObjM (h : Heap) (x dx C : Addr) (mA : Str → Option Value) : Prop where
  obj : h.get? x = some (PySem.W.instObj C dx)
  ns : h.Ns1 dx mA
  ne : dx ≠ x

theorem lookIn_ns {h : Heap} {dx : Addr} {mA : Str → Option Value} (n : h.Ns1 dx mA) : ∃ od, h.get? dx = some od ∧ ∀ name, PySem.W.lookIn name od = some (mA name) := by
  obtain ⟨o, es, ep, ho, hd, hk, _, hm⟩ := n
  refine ⟨o, ho, fun name => ?_⟩
  have e := hm name
  unfold nsFind findBy at e
  rw [← Array.find?_toList] at e
  unfold PySem.W.lookIn
  rw [hd]
  dsimp only
  split
  · rename_i y q
    rw [q] at e
    exact congrArg some e
  · rename_i q
    rw [q] at e
    have a : es.toList.any (·.refKey) = false := by
      rw [List.any_eq_false]
      intro y hy
      obtain ⟨z, t, hkey⟩ := hk y (Array.mem_toList_iff.mp hy)
      simp [DictEntry.refKey, hkey]
    have a' : ¬ es.toList.any (·.refKey) = true := by rw [a]; exact Bool.false_ne_true
    rw [if_neg a']
    exact congrArg some e

theorem ObjM.look {h : Heap} {x dx C : Addr} {mA : Str → Option Value} (I : ObjM h x dx C mA) : ∃ od, PySem.W.InstAt h x (PySem.W.instObj C dx) C (some od) ∧ ∀ name, PySem.W.lookIn name od = some (mA name) :=
  let ⟨od, ho, hl⟩ := lookIn_ns I.ns
  ⟨od, ⟨I.obj, rfl, rfl, ho⟩, hl⟩

section
variable {prog : Program} {w : World} {A : Around} {E : Value → Shared → Prop} {s : Shared} {K : PySem.W.Frag} {x dx C f : Addr} {mA : Str → Option Value} {name : Str} {v : Value}

theorem set_map {ns : List Str} {Q : Unit → Shared → Prop} (X : K.In s.heap) (I : ObjM s.heap x dx C mA)
    (hs : PySem.W.findIn K (.ref C) "__setattr__" = some (some (.builtin "object.__setattr__"))) (hp : PySem.W.plainOver K C = true) (ht : PySem.W.takerIn K C name = some none) (hh : PySem.W.hasDictIn K C = true)
    (hw : PySem.Within mA ns) (hsz : ns.length ≤ sizeLine)
    (h : ∀ h', ObjM h' x dx C (fun y => if y = name then some v else mA y) → Heap.SameBut dx s.heap h' → Q () { s with heap := h', toks := s.toks + 2 }) :
    wpAny (model prog w) A (setAttr (.ref x) name v) Q E s := by
  obtain ⟨od, J, hl⟩ := I.look
  refine PySem.W.set_plain X J hs (PySem.W.osa_open (s := { s with toks := s.toks + 1 }) (r := none) X J hp ht fun b => ?_)
  obtain ⟨cd, hc, hd'⟩ := PySem.W.any_some hh
  have hx : s.heap.get? x = some ⟨.ref C, some dx, .plain, #[]⟩ := I.obj
  refine wpAny_bind (wpAny_pure (wpAny_bind (wpAny_bind (wpAny_loadPart hx (wpAny_bind (PySem.W.Looks.here (s := { s with toks := s.toks + 1 }) (PySem.W.looks_clsIn X hc) ?_))))))
  rw [hd']
  refine wpAny_pure (a := some dx) (wpAny_bind (wpAny_pure (wpAny_bind ?_)))
  refine wpAny_nsSet1 (s := { s with toks := s.toks + 1 }) I.ns fun h' hn2 hs2 => ?_
  obtain ⟨oD, esD, epD, hoD, hdD, hcD⟩ := hn2.count (PySem.Within.cons name v hw)
  refine wpAny_bind (wpAny_lookBehind hoD (by rw [hdD]; exact pastItsLine_dict (Nat.le_trans hcD (by rw [List.length_cons]; omega))) ?_)
  exact wpAny_pure (h _ ⟨(hs2.2 _ (Ne.symm I.ne)).trans I.obj, hn2, I.ne⟩ hs2)

theorem make_map {R : Result → Shared → Prop} {vs : List Value} {kw : List (Str × Value)} (X : K.In s.heap) (hm : PySem.W.makesIn K C = true)
    (hi : PySem.W.findIn K (.ref C) "__init__" = some (some (.ref f))) (hf : PySem.W.typeIn K (.ref f) = some (.type "function"))
    (h : codeAny (model prog w) (A.under (.builtin "type.__call__" ⟨.ref C :: vs, kw⟩)) (.call (.ref f) ⟨.ref (s.heap.objs.size + 1) :: vs, kw⟩) (PySem.W.InitBack (s.heap.objs.size + 1) R)
      { s with heap := (s.heap.push PySem.W.emptyDict).push (PySem.W.instObj C s.heap.objs.size) }) :
    codeAny (model prog w) A (.call (.ref C) ⟨vs, kw⟩) R s := by
  obtain ⟨hh, g, d, t, os⟩ := s
  exact PySem.W.make_core (PySem.W.makes_of X hm) (PySem.W.looks_findIn X hi) (fun self => PySem.W.bind_fn X self hf) (.inl rfl) h

end

def putF (f : Str) (v : V) : List (Str × V) → List (Str × V)
  | [] => [(f, v)]
  | (g, x) :: r => if g = f then (g, v) :: r else (g, x) :: putF f v r
theorem lookup_putF (f g : Str) (v : V) : ∀ fs : List (Str × V), (putF f v fs).lookup g = if g = f then some v else fs.lookup g
  | [] => by
    show List.lookup g [(f, v)] = _
    by_cases h : g = f
    · have hb : (g == f) = true := beq_iff_eq.mpr h
      simp only [List.lookup, hb, if_pos h]
    · have hb : (g == f) = false := beq_eq_false_iff_ne.mpr h
      simp only [List.lookup, hb, if_neg h]
  | (k, x) :: r => by
    have ih := lookup_putF f g v r
    rw [show putF f v ((k, x) :: r) = (if k = f then (k, v) :: r else (k, x) :: putF f v r) from rfl]
    by_cases hk : k = f
    · rw [if_pos hk]
      by_cases h : g = k
      · have hb : (g == k) = true := beq_iff_eq.mpr h
        simp only [List.lookup, hb, if_pos (h.trans hk)]
      · have hb : (g == k) = false := beq_eq_false_iff_ne.mpr h
        simp only [List.lookup, hb, if_neg (fun e : g = f => h (e.trans hk.symm))]
    · rw [if_neg hk]
      by_cases h : g = k
      · have hb : (g == k) = true := beq_iff_eq.mpr h
        simp only [List.lookup, hb, if_neg (fun e : g = f => hk (h.symm.trans e))]
      · have hb : (g == k) = false := beq_eq_false_iff_ne.mpr h
        simp only [List.lookup, hb]
        exact ih
theorem keys_putF (f : Str) (v : V) : ∀ fs : List (Str × V), f ∈ (putF f v fs).map (·.1) ∧ ∀ g, g ∈ fs.map (·.1) → g ∈ (putF f v fs).map (·.1)
  | [] => ⟨by simp [putF], fun g h => by simp at h⟩
  | (k, x) :: r => by
    obtain ⟨i1, i2⟩ := keys_putF f v r
    rw [show putF f v ((k, x) :: r) = (if k = f then (k, v) :: r else (k, x) :: putF f v r) from rfl]
    by_cases hk : k = f
    · rw [if_pos hk]
      subst hk
      exact ⟨by simp, fun g h => by simpa using h⟩
    · rw [if_neg hk]
      refine ⟨?_, fun g h => ?_⟩
      · rw [List.map_cons]
        exact List.mem_cons_of_mem _ i1
      · rw [List.map_cons] at h ⊢
        rcases List.mem_cons.mp h with e | e
        · exact List.mem_cons.mpr (.inl e)
        · exact List.mem_cons_of_mem _ (i2 g e)
theorem length_putF (f : Str) (v : V) : ∀ fs : List (Str × V), (putF f v fs).length ≤ fs.length + 1
  | [] => by simp [putF]
  | (k, x) :: r => by
    have ih := length_putF f v r
    rw [show putF f v ((k, x) :: r) = (if k = f then (k, v) :: r else (k, x) :: putF f v r) from rfl]
    by_cases hk : k = f
    · rw [if_pos hk, List.length_cons, List.length_cons]; omega
    · rw [if_neg hk, List.length_cons, List.length_cons]; omega

theorem RelO.some_of {v : V} {o : Option Value} (r : RelO (some v) o) : ∃ u, o = some u ∧ RelV v u := by
  cases o with
  | none => exact (show False from r).elim
  | some u => exact ⟨u, rfl, r⟩
theorem handed_of {v : V} {u : Value} (r : RelV v u) : PySem.W.handedIn u = true := by
  cases v with
  | non => cases (show u = Value.none from r); rfl
  | bl b => cases (show u = Value.bool b from r); rfl
  | int i => obtain ⟨t, e⟩ := (show ∃ t, u = Value.int i t from r); cases e; rfl
  | str x => obtain ⟨t, e⟩ := (show ∃ t, u = Value.str x t from r); cases e; rfl
  | byt b => obtain ⟨t, e⟩ := (show ∃ t, u = Value.bytes b t from r); cases e; rfl
  | flt b => obtain ⟨t, e⟩ := (show ∃ t, u = Value.float b t from r); cases e; rfl
  | ref a => cases (show u = Value.ref a from r); rfl
  | ty n => cases (show u = Value.type n from r); rfl

section
variable {P : Program} {w : World} {H H' : Hp} {h h' : Heap} {a C dx : Addr} {fs fs' : List (Str × V)}
theorem ins_get (hok : HOk P w H h) (e : H a = some (.ins C dx fs)) : ∃ mA, ObjM h a dx C mA ∧ (∀ f, RelO (fs.lookup f) (mA f)) ∧ PySem.Within mA (fs.map (·.1)) ∧ fs.length ≤ 1000 ∧ H dx = some (.own a) := by
  obtain ⟨d, z, ne, ob, mA, n, r, q⟩ := (show ObjOk P w H h a (.ins C dx fs) from hok a _ e)
  exact ⟨mA, ⟨ob, n, ne⟩, r, q, z, d⟩
end

structure Cls (K : PySem.W.Frag) (C : Addr) : Prop where
  pg : PySem.W.plainGet K C Str.empty = true
  hd : PySem.W.hasDictIn K C = true
  po : PySem.W.plainOver K C = true
  sa : PySem.W.findIn K (.ref C) "__setattr__" = some (some (.builtin "object.__setattr__"))
theorem Cls.get {K : PySem.W.Frag} {C : Addr} (c : Cls K C) (f : Str) : PySem.W.plainGet K C f = true := c.pg

def NoAttr (K : PySem.W.Frag) (C : Addr) (f : Str) : Prop := PySem.W.findIn K (.ref C) f = some none
theorem NoAttr.taker {K : PySem.W.Frag} {C : Addr} {f : Str} (n : NoAttr K C f) : PySem.W.takerIn K C f = some none := by
  unfold PySem.W.takerIn
  rw [show PySem.W.findIn K (.ref C) f = some none from n]
  rfl

section
variable {X : Cx} {pins : List (Addr × Obj)} {σ : St} {H : Hp} {s : Shared} {a C dx : Addr} {fs : List (Str × V)} {f : Str} {v : V} {A : Around} {E : Value → Shared → Prop}

theorem setattr_ok {y : V} {u : Value} {Q : Unit → Shared → Prop} (I : Inv X pins σ H s) (e : H a = some (.ins C dx fs)) (c : Cls X.K C) (n : NoAttr X.K C f) (hl : fs.length < 1000) (ry : RelV y u)
    (h : ∀ s', Inv X pins σ (upd H a (.ins C dx (putF f y fs))) s' → Q () s') : wpAny (model X.prog X.w) A (setAttr (.ref a) f u) Q E s := by
  obtain ⟨mA, O, r, wi, _, ho⟩ := ins_get I.hok e
  have hz : (fs.map (·.1)).length ≤ sizeLine := by rw [List.length_map, sizeLine_eq]; omega
  refine set_map I.kIn O c.sa c.po n.taker c.hd wi hz fun h' O' sb => h _ ?_
  have hd : ∃ o, h'.get? dx = some o := let ⟨o, _, _, e', _⟩ := O'.ns; ⟨o, e'⟩
  refine I.write (x := a) (e := dx) (by rw [e]; exact True.intro) (.inr ho) (fun b q hb z => (sb.2 b hb).trans z) hd ?_
  refine ⟨by rw [upd_ne O.ne]; exact ho, ?_, O.ne, O'.obj, _, O'.ns, fun g => ?_, fun g hg => ?_⟩
  · have := length_putF f y fs; omega
  · show RelO ((putF f y fs).lookup g) (if g = f then some u else mA g)
    rw [lookup_putF]
    by_cases q : g = f
    · rw [if_pos q, if_pos q]; exact ry
    · rw [if_neg q, if_neg q]; exact r g
  · by_cases q : g = f
    · rw [q]; exact (keys_putF f y fs).1
    · refine (keys_putF f y fs).2 g (wi g fun z => hg ?_)
      show (if g = f then some u else mA g) = none
      rw [if_neg q]; exact z

theorem Inv.made (I : Inv X pins σ H s) : Inv X pins σ (upd (upd H s.heap.objs.size (.own (s.heap.objs.size + 1))) (s.heap.objs.size + 1) (.ins C s.heap.objs.size []))
    { s with heap := (s.heap.push PySem.W.emptyDict).push (PySem.W.instObj C s.heap.objs.size) } := by
  have e1 : (s.heap.push PySem.W.emptyDict).get? s.heap.objs.size = some PySem.W.emptyDict := Heap.get?_push_size s.heap rfl
  have e2 : ((s.heap.push PySem.W.emptyDict).push (PySem.W.instObj C s.heap.objs.size)).get? (s.heap.objs.size + 1) = some (PySem.W.instObj C s.heap.objs.size) := by
    have := Heap.get?_push_size (s.heap.push PySem.W.emptyDict) (o := PySem.W.instObj C s.heap.objs.size) rfl
    rwa [Heap.size_push] at this
  have e3 : (s.heap.push PySem.W.emptyDict).Ns s.heap.objs.size (fun _ => none) := ⟨PySem.W.emptyDict, #[], _, e1, rfl, (fun e he => absurd he (by simp)), fun _ => rfl⟩
  have I1 := I.laid (a := s.heap.objs.size) (o := .own (s.heap.objs.size + 1)) (h' := s.heap.push PySem.W.emptyDict) (t' := s.toks) (fun b u q => Heap.get?_push_of_some _ q) (Nat.le_refl _) ⟨_, e1⟩
  refine I1.laid (a := s.heap.objs.size + 1) (o := .ins C s.heap.objs.size []) (t' := s.toks) (fun b u q => Heap.get?_push_of_some _ q) (Nat.le_of_eq (Heap.size_push _ _)) ?_
  have ne : s.heap.objs.size ≠ s.heap.objs.size + 1 := Nat.ne_of_lt (Nat.lt_succ_self _)
  refine ⟨by rw [upd_ne ne, upd_same], Nat.zero_le _, ne, e2, fun _ => none, (Heap.Ns1.of_empty e3).at fun o q => Heap.get?_push_of_some _ q, fun _ => True.intro, fun y hy => absurd rfl hy⟩

theorem attr_of {prog : Program} {w : World} {env : Env} {e : Expr} {f : Str} {pos : Pos} {s : Shared} {Q : Value → Shared → Prop} (hb : attributeBase e f env (eval e env) = eval e env)
    (h : wpAny (model prog w) A (eval e env) (fun o s₁ => wpAny (model prog w) A (getAttr o f true) Q E s₁) E s) : wpAny (model prog w) A (eval (.Attribute e f pos) env) Q E s :=
  Attribute_any_ h (by rw [arm_eval_Attribute, hb])
end

def tFld (K : PySem.W.Frag) (ta : TE) (f : Str) : TE := fun σ H Q => ta σ H fun x H1 => ∃ a C dx fs v, x = .ref a ∧ H1 a = some (.ins C dx fs) ∧ Cls K C ∧ NoAttr K C f ∧ fs.lookup f = some v ∧ Q v H1

def sFld (K : PySem.W.Frag) (ta tv : TE) (f : Str) : TS := fun D σ H => tv σ H fun y H1 => ta σ H1 fun x H2 => ∃ a C dx fs, x = .ref a ∧ H2 a = some (.ins C dx fs) ∧ Cls K C ∧ NoAttr K C f ∧ fs.length < 1000 ∧
  D.nx σ (upd H2 a (.ins C dx (putF f y fs)))

section
variable {X : Cx} {o e value : Expr} {f : Str} {pos pos' tpos : Pos} {ta tv : TE}
theorem ps_fld (ha : PE X o ta) (hv : PE X value tv) (hs : swapsWith value (some (.Attribute o f pos')) pos.line X.env = pure false) : PS X (.Assign [.Attribute o f pos'] value pos) (sFld X.K ta tv f) := by
  refine ⟨?_⟩
  intro pins s σ H D I h
  refine plainObj_wpAny_Assign_Attribute (thn (hv pins s σ H _ I h) fun u s1 ⟨y, H1, I1, ry, q⟩ => thn (ha pins s1 σ H1 _ I1 q) fun ov s2 ⟨x, H2, I2, rx, a, C, dx, fs, ex, ea, c, n, l, q2⟩ => ?_) hs
  subst ex
  obtain rfl : ov = Value.ref a := rx
  exact setattr_ok I2 ea c n l ry fun s3 I3 => ⟨σ, _, I3, q2⟩
end

section
variable {X : Cx} {pins : List (Addr × Obj)} {σ : St} {H : Hp} {s : Shared} {A : Around} {E : Value → Shared → Prop} {Q : Value → Shared → Prop} {c : Value} {b : Bool}

inductive TyOf (K : PySem.W.Frag) (H : Hp) : V → Value → Prop where
  | non : TyOf K H .non (.type "NoneType")
  | bl (x : Bool) : TyOf K H (.bl x) (.type "bool")
  | int (i : Int) : TyOf K H (.int i) (.type "int")
  | str (x : Str) : TyOf K H (.str x) (.type "str")
  | flt (x : UInt64) : TyOf K H (.flt x) (.type "float")
  | lst {a : Addr} {xs : List V} (e : H a = some (.lst xs)) : TyOf K H (.ref a) (.type "list")
  | frz {a : Addr} {o : Obj} {xs : List V} (e : H a = some (.frz o (.lst xs))) : TyOf K H (.ref a) (.type "list")
  | tup {a : Addr} {xs : List V} (e : H a = some (.tup xs)) : TyOf K H (.ref a) (.type "tuple")
  | dK {a : Addr} {kvs : List (Key × V)} (e : H a = some (.dK kvs)) : TyOf K H (.ref a) (.type "dict")
  | dT {a : Addr} {kvs : List (List Key × V)} (e : H a = some (.dT kvs)) : TyOf K H (.ref a) (.type "dict")
  | ins {a C dx : Addr} {fs : List (Str × V)} (e : H a = some (.ins C dx fs)) (cl : Cls K C) (ha : PySem.W.findIn K (.ref C) "__class__" = some (some (.builtin "object.__class__")))
      (hn : PySem.W.specialIn K (.builtin "object.__class__") "__get__" = some (some (.builtin "getset_descriptor.__get__"))) (htk : PySem.W.takesIn K (.builtin "object.__class__") = some true)
      (hm : PySem.W.mroIn K C (.type "object") = some true) : TyOf K H (.ref a) (.ref C)

theorem isinst_ok {x : V} {u t : Value} (I : Inv X pins σ H s) (rx : RelV x u) (ty : TyOf X.K H x t) (e : PySem.W.kitOne X.K t c = some b) (h : ∀ tk, Q (.bool b) { s with toks := tk }) :
    wpAny (model X.prog X.w) A (call (.builtin "isinstance") [u, c]) Q E s := by
  cases ty with
  | non => cases (show u = Value.none from rx); exact PySem.W.kia_one PySem.W.kitx_none I.kIn True.intro e (fun z => nomatch z) h
  | bl y => cases (show u = Value.bool y from rx); exact PySem.W.kia_one PySem.W.kitx_bool I.kIn True.intro e (fun z => nomatch z) h
  | int i => obtain ⟨t, q⟩ := (show ∃ t, u = Value.int i t from rx); cases q; exact PySem.W.kia_one PySem.W.kitx_int I.kIn True.intro e (fun z => nomatch z) h
  | str y => obtain ⟨t, q⟩ := (show ∃ t, u = Value.str y t from rx); cases q; exact PySem.W.kia_one PySem.W.kitx_str I.kIn True.intro e (fun z => nomatch z) h
  | flt y => obtain ⟨t, q⟩ := (show ∃ t, u = Value.float y t from rx); cases q; exact PySem.W.kia_one PySem.W.kitx_float I.kIn True.intro e (fun z => nomatch z) h
  | @lst a xs ea =>
    cases (show u = Value.ref a from rx)
    obtain ⟨_, _, n, _, h1⟩ := (show ObjOk X.prog X.w H s.heap a (.lst xs) from I.hok a _ ea)
    exact PySem.W.kia_one PySem.W.kitx_list I.kIn ⟨_, h1, rfl⟩ e (fun z => nomatch z) h
  | @frz a ob xs ea =>
    cases (show u = Value.ref a from rx)
    obtain ⟨_, _, _, n, _, h1⟩ := (show ObjOk X.prog X.w H s.heap a (.frz ob (.lst xs)) from I.hok a _ ea)
    exact PySem.W.kia_one PySem.W.kitx_list I.kIn ⟨_, h1, rfl⟩ e (fun z => nomatch z) h
  | @tup a xs ea =>
    cases (show u = Value.ref a from rx)
    obtain ⟨_, _, _, p⟩ := (show ObjOk X.prog X.w H s.heap a (.tup xs) from I.hok a _ ea)
    obtain ⟨o, h1, h2, _⟩ := p
    exact PySem.W.kia_one PySem.W.kitx_tuple I.kIn ⟨o, h1, h2⟩ e (fun z => nomatch z) h
  | @dK a kvs ea =>
    cases (show u = Value.ref a from rx)
    obtain ⟨_, _, vs, _, p⟩ := (show ObjOk X.prog X.w H s.heap a (.dK kvs) from I.hok a _ ea)
    obtain ⟨o, es, ep, h1, h2, _⟩ := p
    exact PySem.W.kia_one PySem.W.kitx_dict I.kIn ⟨o, h1, h2.1⟩ e (fun z => nomatch z) h
  | @dT a kvs ea =>
    cases (show u = Value.ref a from rx)
    obtain ⟨_, _, xs, _, o, es, ep, h1, h2, _⟩ := (show ObjOk X.prog X.w H s.heap a (.dT kvs) from I.hok a _ ea)
    exact PySem.W.kia_one PySem.W.kitx_dict I.kIn ⟨o, h1, h2.1⟩ e (fun z => nomatch z) h
  | @ins a C dx fs ea cl ha hn htk hm =>
    cases (show u = Value.ref a from rx)
    obtain ⟨mA, O, _⟩ := ins_get I.hok ea
    obtain ⟨od, J, _⟩ := O.look
    exact PySem.W.kia_one (PySem.W.kitx_own (cl.get _) cl.hd ha hn htk hm) I.kIn J e (fun z => nomatch z) h
end
end L2

namespace L2
open PySem PySem.Spec PyProof.Rows

structure Room (k : Nat) (A : Around) : Prop where
  hd : A.handled = none
  dp : A.depth + 3 * k + 5 < recursionLimit
  un : A.units + 16 * k + 200 < cLine
theorem Room.mono {j k : Nat} {A : Around} (r : Room k A) (h : j ≤ k) : Room j A := ⟨r.hd, by have := r.dp; omega, by have := r.un; omega⟩
theorem Room.deeper {k : Nat} {A : Around} (r : Room (k + 1) A) (env : Env) : Room k (A.deeper env) :=
  ⟨r.hd, by have := r.dp; show A.depth + 1 + 3 * k + 5 < _; omega, by have := r.un; show A.units + 3 + 16 * k + 200 < _; omega⟩
theorem make_depth {A : Around} {C : Addr} {us : List Value} {kw : List (Str × Value)} : (A.under (.builtin "type.__call__" ⟨.ref C :: us, kw⟩)).depth = A.depth + 1 := by
  first | rfl | simp [Around.under, Code.weight, Code.isCreation, Code.isGuard, Code.isCaller, Code.frames, Code.isFrame, guardIds]
theorem make_units {A : Around} {C : Addr} {us : List Value} {kw : List (Str × Value)} : (A.under (.builtin "type.__call__" ⟨.ref C :: us, kw⟩)).units = A.units + 1 := by
  first | rfl | simp [Around.under, Code.cUnits, Code.frames, Code.isFrame]
theorem Room.make {k : Nat} {A : Around} (r : Room (k + 1) A) (C : Addr) (us : List Value) (kw : List (Str × Value)) : Room k (A.under (.builtin "type.__call__" ⟨.ref C :: us, kw⟩)) :=
  ⟨r.hd, by have := r.dp; rw [make_depth]; omega, by have := r.un; rw [make_units]; omega⟩
theorem Room.depth {k : Nat} {A : Around} (r : Room k A) : A.depth < recursionLimit := by have := r.dp; omega
theorem Room.units {k : Nat} {A : Around} (r : Room k A) : A.units + 64 < cLine := by have := r.un; omega
def tNil : TA := fun _ H Q => Q [] H
def tCons (ta : TE) (tr : TA) : TA := fun σ H Q => ta σ H fun x H1 => tr σ H1 fun xs H2 => Q (x :: xs) H2
section
variable {X : Cx} {e : Expr} {es : List Expr} {te : TE} {t : TA} {pos : Pos}
theorem pa_nil : PA X [] tNil := .mk fun _ _ _ _ H Q I h => Calls.spliced_nil ⟨[], H, I, .nil, h⟩
theorem pa_cons (ha : PE X e te) (hr : PA X es t) (hs : starEach (e :: es) X.env = (false, eval e X.env) :: starEach es X.env := by rfl) : PA X (e :: es) (tCons te t) := by
  refine ⟨?_⟩
  intro pos pins s σ H Q I h
  rw [hs]
  show wpAny _ _ (spliced ((false, eval e X.env) :: backTo pos (starEach es X.env))) _ _ s
  refine Calls.spliced_cons (thn (ha pins s σ H _ I h) fun u s1 ⟨x, H1, I1, r1, q1⟩ => ?_)
  exact thn (hr pos pins s1 σ H1 _ I1 q1) fun us s2 ⟨xs, H2, I2, r2, q2⟩ => ⟨x :: xs, H2, I2, .cons r1 r2, q2⟩

def tTup (t : TA) : TE := fun σ H Q => t σ H fun xs H1 => xs.length ≤ sizeLine ∧ ∀ p, H1 p = none → Q (.ref p) (upd H1 p (.tup xs))
def tLst (t : TA) : TE := fun σ H Q => t σ H fun xs H1 => xs.length ≤ sizeLine ∧ ∀ p, H1 p = none → Q (.ref p) (upd H1 p (.lst xs))
theorem pe_tup {x1} (h : PA X es t) : PE X (.Tuple es x1 pos) (tTup t) := by
  refine ⟨?_⟩
  intro pins s σ H Q I hq
  refine wpAny_Tuple_spliced (thn (h pos pins s σ H _ I hq) fun us s1 ⟨xs, H1, I1, r, z, q⟩ => ⟨by rw [← r.length]; exact z, ?_⟩)
  have hf : H1 s1.heap.objs.size = none := I1.hok.fresh (Nat.le_refl _)
  refine ⟨.ref s1.heap.objs.size, upd H1 s1.heap.objs.size (.tup xs), I1.laid (t' := s1.toks) (fun b u e => Heap.get?_push_of_some _ e) (Nat.le_refl _) ?_, rfl, q _ hf⟩
  exact ⟨z, us, r, ⟨_, Heap.get?_push_size _ rfl, rfl, _, rfl⟩⟩
theorem pe_lst (h : PA X es t) : PE X (.List es pos) (tLst t) := by
  refine ⟨?_⟩
  intro pins s σ H Q I hq
  refine wpAny_List_spliced (thn (h pos pins s σ H _ I hq) fun us s1 ⟨xs, H1, I1, r, z, q⟩ => ⟨by rw [← r.length]; exact z, ?_⟩)
  have hf : H1 s1.heap.objs.size = none := I1.hok.fresh (Nat.le_refl _)
  refine ⟨.ref s1.heap.objs.size, upd H1 s1.heap.objs.size (.lst xs), I1.laid (t' := s1.toks) (fun b u e => Heap.get?_push_of_some _ e) (Nat.le_refl _) ?_, rfl, q _ hf⟩
  exact ⟨z, us, 0, r, Heap.get?_push_size _ rfl⟩
end

abbrev Sp := List V → Hp → VK → XK → Prop

abbrev CXT := List Env → Hp → Shared → XK → Value → Shared → Prop

structure Env0 (P : Program) (w : World) (K : PySem.W.Frag) (mg : Str → Option Value) (base : Heap) (A : Around) (outer : List Env) (s : Shared) (H : Hp) : Prop where
  frames : A.frames = some outer
  mod : Mod K mg base
  bs : ∀ b o, base.get? b = some o → s.heap.get? b = some o ∧ H b = none
  bsz : base.objs.size ≤ s.heap.objs.size
  funs : s.heap.FunFrames base outer
  frf : ∀ b ∈ frs outer, H b = none
  hok : HOk P w H s.heap
  bare : AllBare s.gens

def CE (outer : List Env) (P : Program) (w : World) (H : Hp) (s : Shared) (Q : VK) (u : Value) (s' : Shared) : Prop :=
  ∃ v H', s'.os = s.os ∧ AllBare s'.gens ∧ Un (frs outer) [] H H' s.heap s'.heap ∧ HOk P w H' s'.heap ∧ RelV v u ∧ Q v H'
def CR (CX : CXT) (outer : List Env) (P : Program) (w : World) (H : Hp) (s : Shared) (Q : VK) (E : XK) (r : Result) (s' : Shared) : Prop :=
  match r with
  | .ok (.ret u) => CE outer P w H s Q u s'
  | .ok _ => False
  | .error e => CX outer H s E e s'
structure FnOk (P : Program) (w : World) (K : PySem.W.Frag) (mg : Str → Option Value) (base : Heap) (CX : CXT) (k : Nat) (f : Addr) (fd : FuncData) (ps : List Str) (sp : Sp) : Prop where
  len : ∀ vs H Q E, sp vs H Q E → vs.length = ps.length
  run : ∀ (A : Around) (outer : List Env) (s : Shared) (H : Hp) (args : Args) (us : List Value) (vs : List V) (Q : VK) (E : XK), Room k A → Env0 P w K mg base A outer s H → BindsTo s fd args (ps.zip us) → Vals vs us → sp vs H Q E →
    codeAny (model P w) A (.call (.ref f) args) (CR CX outer P w H s Q E) s
theorem Env0.make {P : Program} {w : World} {K : PySem.W.Frag} {mg : Str → Option Value} {base : Heap} {A : Around} {outer : List Env} {s : Shared} {H : Hp} (e : Env0 P w K mg base A outer s H) (C : Addr) (us : List Value) (kw : List (Str × Value)) :
    Env0 P w K mg base (A.under (.builtin "type.__call__" ⟨.ref C :: us, kw⟩)) outer s H := ⟨by first | exact e.frames | (simpa [Around.under, Code.envs, Code.isFrame, pushEnvs] using e.frames), e.mod, e.bs, e.bsz, e.funs, e.frf, e.hok, e.bare⟩
section
variable {X : Cx} {pins : List (Addr × Obj)} {σ : St} {H : Hp} {s s' : Shared}

theorem Inv.env0 (I : Inv X pins σ H s) : Env0 X.prog X.w X.K X.mg X.base X.A X.stack s H :=
  ⟨I.ok.frames, I.ok.mod, I.bs, Nat.le_trans I.ok.bsz I.sz, I.stack, I.stkFree, I.hok, I.bare⟩

theorem Inv.after {Q : VK} {u : Value} (I : Inv X pins σ H s) (h : CE X.stack X.prog X.w H s Q u s') : EP X pins σ Q u s' := by
  obtain ⟨v, H', os, bare, un, hok, r, q⟩ := h
  obtain ⟨hh, g, d, t, os'⟩ := s'
  obtain rfl : os' = s.os := os
  exact ⟨v, H', I.call (h' := hh) (g' := g) (d' := d) (t' := t) (ch := []) un hok bare (fun b z => absurd z (by simp)), r, q⟩
end

def tCall (sp : Sp) (dvs : List V) (E : XK) (t : TA) : TE := fun σ H Q => t σ H fun vs H1 => sp (vs ++ dvs) H1 Q E

def tMeth (C : Addr) (m : Str) (sp : Sp) (dvs : List V) (E : XK) (ta : TE) (t : TA) : TE := fun σ H Q => ta σ H fun x H1 => ∃ a dx fs, x = .ref a ∧ H1 a = some (.ins C dx fs) ∧ fs.lookup m = none ∧
  t σ H1 fun vs H2 => sp (x :: (vs ++ dvs)) H2 Q E

def tMake (C : Addr) (sp : Sp) (dvs : List V) (E : XK) (t : TA) : TE := fun σ H Q => t σ H fun vs H1 => ∀ x dx, H1 x = none → H1 dx = none → dx ≠ x →
  sp (.ref x :: (vs ++ dvs)) (upd (upd H1 dx (.own x)) x (.ins C dx [])) (fun v H2 => v = .non ∧ Q (.ref x) H2) E

def Binds (K : PySem.W.Frag) (fd : FuncData) (ps : List Str) (ds : List Value) : Prop :=
  ∀ (s : Shared) (us : List Value), K.In s.heap → (us ++ ds).length = ps.length → BindsTo s fd ⟨us, []⟩ (ps.zip (us ++ ds))

theorem Binds.all {K : PySem.W.Frag} {fd : FuncData} {ps : List Str} (h : ∀ us : List Value, us.length = ps.length → bindArgs fd ⟨us, []⟩ = pure (ps.zip us)) : Binds K fd ps [] := fun s us _ hl => by
  rw [List.append_nil] at hl ⊢
  exact .of_eq (h us hl)

def Passes (CX : CXT) (X : Cx) (E : XK) : Prop := ∀ (pins : List (Addr × Obj)) (σ : St) (H : Hp) (s : Shared) (e : Value) (s' : Shared), Inv X pins σ H s → CX X.stack H s E e s' → X.xe e s'

section
variable {X : Cx} {CX : CXT} {k : Nat} {f C : Addr} {fd : FuncData} {ps : List Str} {sp : Sp} {dvs : List V} {ds : List Value} {E : XK} {x m : Str} {p pos apos : Pos} {e o : Expr} {es : List Expr} {ta : TE} {t : TA}

theorem run_fn {pins : List (Addr × Obj)} {σ : St} {H : Hp} {s : Shared} {Q : VK} {us : List Value} {vs : List V} (F : FnOk X.prog X.w X.K X.mg X.base CX k f fd ps sp) (hr : Room k X.A) (hb : Binds X.K fd ps ds) (hd : Vals dvs ds) (hx : Passes CX X E)
    (I : Inv X pins σ H s) (r : Vals vs us) (h : sp (vs ++ dvs) H Q E) : wpAny (model X.prog X.w) X.A (call (.ref f) us) (EP X pins σ Q) X.xe s := by
  have r2 : Vals (vs ++ dvs) (us ++ ds) := r.append hd
  have hl : (us ++ ds).length = ps.length := by rw [← r2.length]; exact F.len _ _ _ _ h
  refine wpAny_call (codeAny_mono (F.run X.A X.stack s H ⟨us, []⟩ (us ++ ds) (vs ++ dvs) Q E hr I.env0 (hb s us I.kIn hl) r2 h) fun r s' hq => ?_)
  cases r with
  | error e => exact hx pins σ H s e s' I hq
  | ok fl =>
    cases fl with
    | ret u => exact I.after hq
    | next => exact False.elim hq
    | brk => exact False.elim hq
    | cont => exact False.elim hq

theorem pe_call (F : FnOk X.prog X.w X.K X.mg X.base CX k f fd ps sp) (hr : Room k X.A) (hg : Gl X x) (hm : X.mg x = some (.ref f)) (hk : PySem.W.keepIn X.K (.ref f) = true) (hb : Binds X.K fd ps ds) (hd : Vals dvs ds) (hx : Passes CX X E)
    (ha : PA X (e :: es) t) (hdb : (x == ("__debug__" : Str)) = false := by decide) (he : starEach (e :: es) X.env = (false, eval e X.env) :: starEach es X.env := by rfl) (hpl : (backTo pos (starEach es X.env)).any (·.1) = false := by rfl) :
    PE X (.Call (.Name x p) (e :: es) [] pos) (tCall sp dvs E t) := by
  refine ⟨?_⟩
  intro pins s σ H Q I h
  refine wpAny_Call_Name_kw (ld_glob I hg hm ?_ hdb)
  refine PySem.W.callWith_K (h₀ := X.base) I.ok.mod.kin hk (thn (ha pos pins s σ H _ I h) fun us s1 ⟨vs, H1, I1, r, q⟩ => ⟨I1.kIn, ?_⟩) he hpl
  exact run_fn F hr hb hd hx I1 r q
structure Mk (K : PySem.W.Frag) (C f : Addr) : Prop where
  makes : PySem.W.makesIn K C = true
  init : PySem.W.findIn K (.ref C) "__init__" = some (some (.ref f))
  fn : PySem.W.isFn K (.ref f) = true
  kp : PySem.W.keepIn K (.ref C) = true

end


structure FnScope (N P : List Str) (sc : Scope) : Prop where
  kind : sc.kind = .function
  co : sc.isCoroutine = false
  gen : sc.isGenerator = false
  nd : N.Nodup
  pre : N.take P.length = P
  par : ∀ x ∈ P, sc.names.lookup x = some .local ∨ sc.names.lookup x = some .cell
  nofree : ∀ y ∈ sc.names, y.2 ≠ .free

theorem bindL_out {kindOf : Str → Option NameKind} {x : Str} : ∀ {binds : List (Str × Value)} {m : Str → Option Value}, (∀ v, (x, v) ∉ binds) → bindL kindOf binds m x = m x
  | [], _, _ => rfl
  | (n, v) :: r, m, h => by
    unfold bindL
    rw [bindL_out fun w hw => h w (List.mem_cons_of_mem _ hw)]
    split
    · have : x ≠ n := by rintro rfl; exact h v List.mem_cons_self
      simp [this]
    · rfl
theorem bindC_out {kindOf : Str → Option NameKind} {x : Str} : ∀ {binds : List (Str × Value)} {m : Str → Option Value}, (∀ v, (x, v) ∉ binds) → bindC kindOf binds m x = m x
  | [], _, _ => rfl
  | (n, v) :: r, m, h => by
    unfold bindC
    rw [bindC_out fun w hw => h w (List.mem_cons_of_mem _ hw)]
    split
    · rfl
    · have : x ≠ n := by rintro rfl; exact h v List.mem_cons_self
      simp [this]
theorem bindL_get {kindOf : Str → Option NameKind} {x : Str} {v : Value} : ∀ {P : List Str} {vs : List Value} {i : Nat} {m : Str → Option Value}, P.Nodup → P[i]? = some x → vs[i]? = some v → kindOf x = some .local →
    bindL kindOf (P.zip vs) m x = some v
  | [], _, _, _, _, h, _, _ => by simp at h
  | _ :: _, [], _, _, _, _, h, _ => by simp at h
  | p :: P, w :: vs, 0, m, nd, h1, h2, hk => by
    simp at h1 h2; subst h1; subst h2
    show bindL kindOf ((p, w) :: P.zip vs) m p = _
    unfold bindL
    rw [bindL_out fun v hv => (List.nodup_cons.mp nd).1 (List.of_mem_zip hv).1, if_pos hk]
    simp
  | p :: P, w :: vs, i + 1, m, nd, h1, h2, hk => by
    show bindL kindOf ((p, w) :: P.zip vs) m x = _
    unfold bindL
    exact bindL_get (i := i) (List.nodup_cons.mp nd).2 (by simpa using h1) (by simpa using h2) hk
theorem bindC_get {kindOf : Str → Option NameKind} {x : Str} {v : Value} : ∀ {P : List Str} {vs : List Value} {i : Nat} {m : Str → Option Value}, P.Nodup → P[i]? = some x → vs[i]? = some v → kindOf x ≠ some .local →
    bindC kindOf (P.zip vs) m x = some v
  | [], _, _, _, _, h, _, _ => by simp at h
  | _ :: _, [], _, _, _, _, h, _ => by simp at h
  | p :: P, w :: vs, 0, m, nd, h1, h2, hk => by
    simp at h1 h2; subst h1; subst h2
    show bindC kindOf ((p, w) :: P.zip vs) m p = _
    unfold bindC
    rw [bindC_out fun v hv => (List.nodup_cons.mp nd).1 (List.of_mem_zip hv).1, if_neg hk]
    simp
  | p :: P, w :: vs, i + 1, m, nd, h1, h2, hk => by
    show bindC kindOf ((p, w) :: P.zip vs) m x = _
    unfold bindC
    exact bindC_get (i := i) (List.nodup_cons.mp nd).2 (by simpa using h1) (by simpa using h2) hk

def start (N : List Str) (vs : List V) : St := vs.map some ++ List.replicate (N.length - vs.length) none

def cxOf (CX : CXT) (P : Program) (w : World) (K : PySem.W.Frag) (mg : Str → Option Value) (base : Heap) (N : List Str) (qual : Str) (scope : Scope) (f : Addr) (cd : Value) (A : Around) (outer : List Env) (s : Shared) (H : Hp) (E : XK) : Cx where
  prog := P
  w := w
  K := K
  mg := mg
  base := base
  A := A.deeper (envOfC qual scope s.heap.objs.size f cd)
  N := N
  s₀ := s
  H₀ := H
  env := envOfC qual scope s.heap.objs.size f cd
  outer := outer
  stack := envOfC qual scope s.heap.objs.size f cd :: outer
  ex := []
  calm := true
  fn := fun _ => true
  pn := []
  xe := fun e s' => wpAny (model P w) (A.deeper (envOfC qual scope s.heap.objs.size f cd)) (leaving (envOfC qual scope s.heap.objs.size f cd) e) (fun _ s'' => CX outer H s E e s'') (fun e' s'' => CX outer H s E e' s'') s'

theorem cell_has {sc : Scope} {n : Nat} {x : Str} (h : sc.names.lookup x = some .cell) : ∃ c, (cellsFrom n sc.names []).lookup x = some c := by
  have q := PySem.W.cellsFrom_some sc.names n [] (.inl h)
  exact Option.isSome_iff_exists.mp q

theorem inv_start {CX : CXT} {P : Program} {w : World} {K : PySem.W.Frag} {mg : Str → Option Value} {base : Heap} {N ps : List Str} {qual : Str} {scope : Scope} {f : Addr} {cd : Value} {A : Around} {outer : List Env} {s s1 : Shared} {H : Hp} {E : XK} {us : List Value} {vs : List V}
    (S : FnScope N ps scope) (hd : A.handled = none) (e0 : Env0 P w K mg base A outer s H) (hl : vs.length = ps.length) (r : Vals vs us)
    (x : InCallC s s.heap.objs.size (bindL (envOfC qual scope s.heap.objs.size f cd).kindOf (ps.zip us) fun _ => none) (cellsFrom (s.heap.objs.size + 1) scope.names []) (bindC (envOfC qual scope s.heap.objs.size f cd).kindOf (ps.zip us) fun _ => none) s1) :
    Inv (cxOf CX P w K mg base N qual scope f cd A outer s H E) [] (start N vs) H s1 := by
  have hpl : ps.length ≤ N.length := by have := congrArg List.length S.pre; rw [List.length_take] at this; omega
  obtain ⟨h1, tk, rfl, hk⟩ := x.done
  have noA : ∀ b : Addr, b ∉ (cxOf CX P w K mg base N qual scope f cd A outer s H E).ex := fun b z => absurd (show b ∈ ([] : List Addr) from z) (by simp)
  refine ⟨⟨e0.mod, S.kind, rfl, rfl, Nat.le_refl _, fun y z c h1 h2 => ?_, fun y hy => ?_, fun y c _ h => ?_, fun _ => hd, Around.frames_deeper e0.frames, .inr ⟨rfl, rfl⟩, fun b z => absurd z (noA b), e0.bs, e0.bsz, fun b _ _ => noA b, fun b z => absurd z (noA b), e0.funs, e0.frf⟩,
    rfl, e0.bare, Un.kept hk, ⟨_, x.toInCall.ns, fun i y v h1 h2 h3 => ?_⟩, fun y c h => ⟨_, x.cell y c h⟩, e0.hok.fresh (Nat.le_refl _), fun y c h => ?_, fun p hp => absurd (show p ∈ ([] : List (Addr × Obj)) from hp) (by simp), e0.hok.kept hk, ?_⟩
  · exact name_of_addr x.apart (PySem.mem_of_lookup h1) (PySem.mem_of_lookup h2)
  · have hy : scope.names.lookup y = some .cell ∨ scope.names.lookup y = some .free := hy
    rcases hy with hy | hy
    · exact cell_has hy
    · exact absurd rfl (S.nofree _ (PySem.mem_of_lookup hy))
  · exact Nat.le_of_lt (x.above y c (PySem.mem_of_lookup h))
  · have hi : i < vs.length := by
      unfold start at h2
      by_cases hi : i < vs.length
      · exact hi
      · rw [List.getElem?_append_right (by simpa using hi)] at h2
        rw [List.getElem?_replicate] at h2
        split at h2 <;> cases h2
    have ha : vs[i]? = some v := by
      unfold start at h2
      rw [List.getElem?_append_left (by simpa using hi), List.getElem?_map] at h2
      cases e : vs[i]? with
      | none => rw [e] at h2; cases h2
      | some a => rw [e] at h2; cases h2; rfl
    obtain ⟨u, hu, rv⟩ := r.get ha
    have hp : ps[i]? = some y := by
      rw [← S.pre, List.getElem?_take_of_lt (by omega)]; exact h1
    have ndP : ps.Nodup := by rw [← S.pre]; exact S.nd.sublist (List.take_sublist _ _)
    refine ⟨u, rv, ?_⟩
    rcases S.par y (List.mem_of_getElem? hp) with k | k
    · exact .inl ⟨k, bindL_get ndP hp hu k⟩
    · obtain ⟨c, e⟩ := cell_has (n := s.heap.objs.size + 1) k
      refine .inr ⟨.inl k, c, e, ?_⟩
      have q := x.cell y c e
      rw [bindC_get ndP hp hu (by show scope.names.lookup y ≠ _; rw [k]; decide)] at q
      exact q
  · exact e0.hok.fresh (Nat.le_of_lt (x.above y c (PySem.mem_of_lookup h)))
  · unfold start
    show _ = N.length
    rw [List.length_append, List.length_map, List.length_replicate]
    omega

theorem fn_of {CX : CXT} {P : Program} {w : World} {K : PySem.W.Frag} {mg : Str → Option Value} {base : Heap} {k : Nat} {f : Addr} {name qual : Str} {params : Arguments} {body : List Stmt} {scope : Scope} {dV kV doc pm cdv ct oc : Value} {an od : Option Addr}
    {osl : Array (Option Value)} {N ps : List Str} {sp : Sp} (lk : K.lookup f = some ⟨oc, od, .func (PySem.W.fnOf name qual params body scope dV kV doc pm an cdv ct), osl⟩) (hcd : PySem.W.codeIn K cdv qual = true) (S : FnScope N ps scope)
    (len : ∀ vs H Q E, sp vs H Q E → vs.length = ps.length)
    (hbody : ∀ (A : Around) (outer : List Env) (s : Shared) (H : Hp) (vs : List V) (Q : VK) (E : XK), Room k (A.deeper (envOfC qual scope s.heap.objs.size f cdv)) → sp vs H Q E →
      ∃ t, PSs (cxOf CX P w K mg base N qual scope f cdv A outer s H E) body t ∧ t { nx := fun _ H' => Q .non H', rt := Q } (start N vs) H) :
    FnOk P w K mg base CX (k + 1) f (PySem.W.fnOf name qual params body scope dV kV doc pm an cdv ct) ps sp := by
  refine ⟨len, fun A outer s H args us vs Q E hr e0 hb r hsp => ?_⟩
  have hl := len _ _ _ _ hsp
  have KX : K.In s.heap := e0.mod.kin.keeps fun b o e => (e0.bs b o e).1
  have lim : s.heap.NoLimit := e0.mod.nolimit.keeps fun b o e => (e0.bs b o e).1
  have hkind : ∀ y ∈ ps.zip us, scope.names.lookup y.1 = some .local ∨ (scope.names.lookup y.1 = some .cell ∧ ((cellsFrom (s.heap.objs.size + 1) scope.names []).lookup y.1).isSome = true) := fun ⟨n, v⟩ hy => by
    rcases S.par n (List.of_mem_zip hy).1 with q | q
    · exact .inl q
    · exact .inr ⟨q, PySem.W.cellsFrom_some _ _ _ (.inl q)⟩
  refine codeAny_call_function hr.depth (KX _ _ lk) rfl S.co S.gen rfl (PySem.W.codeRec_of KX hcd) (hb _ _ _ _ ?_)
  refine wpAny_newFunctionEnv_cells S.kind hkind fun env he s1 x => ?_
  subst he
  refine ⟨lim.keeps x.toInCall.keep, codeAny_func ?_⟩
  obtain ⟨t, ht, hq⟩ := hbody A outer s H vs Q E (hr.deeper _) hsp
  have I : Inv (cxOf CX P w K mg base N qual scope f cdv A outer s H E) [] (start N vs) H s1 := inv_start S hr.hd e0 hl r x
  refine wpAny_mono (ht [] s1 (start N vs) H _ I hq) (fun fl s' hs => ?_) fun e s' hs => hs
  have fin : ∀ {σ' : St} {H' : Hp} {v : V} {u : Value}, Inv (cxOf CX P w K mg base N qual scope f cdv A outer s H E) [] σ' H' s' → RelV v u → Q v H' → CE outer P w H s Q u s' :=
    fun {σ' H' v u} J rv q => ⟨v, H', J.os, J.bare, J.base, J.hok, rv, q⟩
  cases fl with
  | ret u =>
    obtain ⟨v, σ', H', J, rv, q⟩ := hs
    exact fin J rv q
  | next =>
    obtain ⟨σ', H', J, q⟩ := hs
    exact fin (v := V.non) (u := Value.none) J rfl q
  | brk =>
    obtain ⟨_, _, _, q⟩ := hs
    exact False.elim q
  | cont =>
    obtain ⟨_, _, _, q⟩ := hs
    exact False.elim q
end L2

namespace L2
open PySem PySem.Spec PyProof.Rows
section
variable {X : Cx} {x : Str} {p pos : Pos} {e : Expr} {es : List Expr} {t : TA} {id T : String} {r : List V → Hp → VK → Prop}

def tCB (r : List V → Hp → VK → Prop) (t : TA) : TE := fun σ H Q => t σ H fun vs H1 => r vs H1 Q

theorem pe_callB (hc : CallR X (.builtin id) r) (hg : Gl X x) (hm : X.mg x = none) (hv : bootBuiltins x = some (.builtin id)) (ha : PA X (e :: es) t) (hn : x ≠ "__name__" := by decide) (hdb : (x == ("__debug__" : Str)) = false := by decide)
    (he : starEach (e :: es) X.env = (false, eval e X.env) :: starEach es X.env := by rfl) (hpl : (backTo pos (starEach es X.env)).any (·.1) = false := by rfl) : PE X (.Call (.Name x p) (e :: es) [] pos) (tCB r t) := by
  refine ⟨?_⟩
  intro pins s σ H Q I h
  refine wpAny_Call_Name_kw (ld_blt I hg hm hv ?_ hn hdb)
  exact PyProof.Rows.callWith_builtin1 (thn (ha pos pins s σ H _ I h) fun us s1 ⟨vs, H1, I1, r1, q1⟩ => hc pins s1 σ H1 vs us Q I1 r1 q1) he hpl

theorem pe_callTy (hc : CallR X (.type T) r) (hg : Gl X x) (hm : X.mg x = none) (hv : bootBuiltins x = some (.type T)) (ha : PA X (e :: es) t) (hn : x ≠ "__name__" := by decide) (hdb : (x == ("__debug__" : Str)) = false := by decide)
    (he : starEach (e :: es) X.env = (false, eval e X.env) :: starEach es X.env := by rfl) (hpl : (backTo pos (starEach es X.env)).any (·.1) = false := by rfl) : PE X (.Call (.Name x p) (e :: es) [] pos) (tCB r t) := by
  refine ⟨?_⟩
  intro pins s σ H Q I h
  refine wpAny_Call_Name_kw (ld_blt I hg hm hv ?_ hn hdb)
  exact PyProof.Rows.callWith_type1 (thn (ha pos pins s σ H _ I h) fun us s1 ⟨vs, H1, I1, r1, q1⟩ => hc pins s1 σ H1 vs us Q I1 r1 q1) he hpl

end
end L2

namespace HT
open PySem PyProof.Rows

section
open PySem.SeqAt
open PySem.AutoSeq1 (wpAny_loadPart')
open PySem.MeetsSeq PySem.MeetsSeq2 PySem.MeetsSeq3

end

section
variable {prog : Program} {w : World} {A : Around} {E : Value → Shared → Prop} {s : Shared}

theorem cat_tup {t b : Addr} {vs ws : List Value} {Q : Value → Shared → Prop} (ht : IsTup s.heap t vs.toArray) (hb : IsTup s.heap b ws.toArray) (hv : vs ≠ [])
    (h1 : ws = [] → Q (.ref t) s) (h2 : ws ≠ [] → Q (.ref s.heap.objs.size) { s with heap := s.heap.push { cls := .type "tuple", data := .seq (vs ++ ws).toArray } })
    (hsz : vs.length + ws.length ≤ sizeLine) : wpAny (model prog w) A (binaryOp .Add (.ref t) (.ref b)) Q E s := by
  obtain ⟨⟨cls, dd, data, sl⟩, ho, hc, n, hd⟩ := id ht
  obtain ⟨⟨cls2, dd2, data2, sl2⟩, ho2, hc2, n2, hd2⟩ := id hb
  simp only at hc hd hc2 hd2
  subst hc hd hc2 hd2
  have e : vs.toArray ++ ws.toArray = (vs ++ ws).toArray := by simp
  by_cases hw : ws = []
  · exact concat_meets ⟨_, ho, rfl⟩ ⟨_, ho2, rfl⟩ noFill_tuple_add seq_tuple_add PySem.F.slot_tuple_add PySem.F.entry_tuple_add (PySem.F.args_tuple_add_2 _ _)
      (tuple_addW1 t b vs.toArray ws.toArray n n2 dd dd2 sl sl2 (by simpa using hv) (by simp [hw])) ⟨ho, ho2, h1 hw⟩
  · refine concat_meets ⟨_, ho, rfl⟩ ⟨_, ho2, rfl⟩ noFill_tuple_add seq_tuple_add PySem.F.slot_tuple_add PySem.F.entry_tuple_add (PySem.F.args_tuple_add_2 _ _)
      (tuple_addW2 t b vs.toArray ws.toArray n n2 dd dd2 sl sl2 (by simpa using hv) (by simpa using hw) (by rw [List.size_toArray, List.size_toArray]; exact hsz)) ⟨ho, ho2, ?_⟩
    rw [e]
    exact h2 hw

def sIx (n d : Nat) : Option Int → Nat
  | none => d
  | some v => if v < 0 then (v + (n : Int)).toNat else min v.toNat n
theorem sIx_le (n d : Nat) (hd : d ≤ n) (o : Option Int) : sIx n d o ≤ n := by
  cases o with
  | none => exact hd
  | some v =>
    show (if v < 0 then (v + (n : Int)).toNat else min v.toNat n) ≤ n
    by_cases hv : v < 0
    · rw [if_pos hv]; omega
    · rw [if_neg hv]; exact Nat.min_le_right _ _
theorem clip_eq (v : Int) (n d : Nat) : (if v < 0 then max (v + (n : Int)) 0 else min v (n : Int)) = ((sIx n d (some v) : Nat) : Int) := by
  show (if v < 0 then max (v + (n : Int)) 0 else min v (n : Int)) = (((if v < 0 then (v + (n : Int)).toNat else min v.toNat n) : Nat) : Int)
  by_cases hv : v < 0
  · simp only [if_pos hv]; omega
  · simp only [if_neg hv]; omega
theorem adjust_gen (lo hi : Option Int) (n : Nat) : Builtin.Slice.sliceAdjust lo hi 1 (n : Int) = (((sIx n 0 lo : Nat) : Int), ((sIx n n hi : Nat) : Int)) := by
  have h1 : ¬ ((1 : Int) < 0) := by omega
  unfold Builtin.Slice.sliceAdjust
  simp only [h1, if_false]
  refine Prod.ext ?_ ?_
  · cases lo with
    | none => rfl
    | some v => exact clip_eq v n 0
  · cases hi with
    | none => rfl
    | some v => exact clip_eq v n n
theorem places_gen (i j : Nat) : Builtin.Slice.slicePlaces (i : Int) (j : Int) 1 = j - i := by
  unfold Builtin.Slice.slicePlaces
  have h1 : (1 : Int) > 0 := by omega
  simp only [h1, if_true, Int.ediv_one]
  split <;> omega
theorem slicePart_ {v : Value} {o : Option Int} {Q : Option Int → Shared → Prop} (p : IsPart v o) (h : Q o s) : wpAny (model prog w) A (Builtin.Slice.slicePartIndex v) Q E s := by
  cases p with
  | none => exact slicePart_none h
  | int i t => exact slicePart_int h
theorem sliceApplied_gen {sl : Addr} {vl vu : Value} {lo hi : Option Int} {n : Nat} {Q : Int × Int × Nat → Shared → Prop} (hs : s.heap.IsSliceOf sl vl vu .none) (pl : IsPart vl lo) (pu : IsPart vu hi)
    (h : Q (((sIx n 0 lo : Nat) : Int), 1, sIx n n hi - sIx n 0 lo) s) : wpAny (model prog w) A (Builtin.Slice.sliceApplied (.ref sl) (pure (n : Int))) Q E s := by
  obtain ⟨os, hos, hcs, hds⟩ := id hs
  unfold Builtin.Slice.sliceApplied Builtin.Slice.sliceFields
  refine wpAny_bind (wpAny_bind (wpAny_field hos hds (x := vl) rfl (wpAny_bind (wpAny_field hos hds (x := vu) rfl (wpAny_bind (wpAny_field hos hds (x := .none) rfl (wpAny_pure ?_)))))))
  refine wpAny_bind (slicePart_none ?_)
  show wpAny _ _ (if ((1 : Int) == 0) = true then _ else _) _ _ s
  rw [if_neg (by decide)]
  refine wpAny_bind (slicePart_ pl (wpAny_bind (slicePart_ pu (wpAny_bind (wpAny_pure ?_)))))
  show wpAny _ _ (match Builtin.Slice.sliceAdjust lo hi 1 (n : Int) with | (lo, hi) => pure (lo, (1 : Int), Builtin.Slice.slicePlaces lo hi 1)) _ _ s
  rw [adjust_gen lo hi n]
  show wpAny _ _ (pure (((sIx n 0 lo : Nat) : Int), (1 : Int), Builtin.Slice.slicePlaces ((sIx n 0 lo : Nat) : Int) ((sIx n n hi : Nat) : Int) 1)) _ _ s
  rw [places_gen]
  exact wpAny_pure h
theorem pick_gen (xs : Array Value) (i k : Nat) : ((List.range k).filterMap fun (m : Nat) => xs[((i : Int) + (m : Int) * 1).toNat]?).toArray = ((xs.toList.drop i).take k).toArray := by
  have e : (fun (m : Nat) => xs[((i : Int) + (m : Int) * 1).toNat]?) = fun m => xs[i + m]? := by
    funext m
    have : ((i : Int) + (m : Int) * 1).toNat = i + m := by omega
    rw [this]
  rw [e]
  have := pick_run xs i k
  rw [List.filterMap_map] at this
  have e2 : ((fun x => xs[x]?) ∘ fun x => i + x) = fun m => xs[i + m]? := rfl
  rw [e2] at this
  rw [this]

theorem getItem_tuple_cut {t sl : Addr} {items : Array Value} {vl vu : Value} {lo hi : Option Int} {Q : Value → Shared → Prop} (ht : IsTup s.heap t items) (hs : s.heap.IsSliceOf sl vl vu .none) (pl : IsPart vl lo) (pu : IsPart vu hi)
    (hw : ¬ (sIx items.size 0 lo = 0 ∧ sIx items.size items.size hi = items.size))
    (h : Q (.ref s.heap.objs.size) { s with heap := s.heap.push { cls := .type "tuple", data := .seq ((items.toList.drop (sIx items.size 0 lo)).take (sIx items.size items.size hi - sIx items.size 0 lo)).toArray } })
    (hsz : items.size ≤ sizeLine) : wpAny (model prog w) A (getItem (.ref t) (.ref sl)) Q E s := by
  have htake : sizeOk (.seq ((items.toList.drop (sIx items.size 0 lo)).take (sIx items.size items.size hi - sIx items.size 0 lo)).toArray) := by
    show ((items.toList.drop (sIx items.size 0 lo)).take (sIx items.size items.size hi - sIx items.size 0 lo)).toArray.size ≤ sizeLine
    rw [List.size_toArray, List.length_take, List.length_drop, Array.length_toList]
    omega
  have hj : sIx items.size items.size hi ≤ items.size := sIx_le _ _ (Nat.le_refl _) hi
  obtain ⟨os, hos, hcs, hds⟩ := id hs
  have hTs : s.TypeIs (.ref sl) "slice" := ⟨os, hos, hcs⟩
  unfold getItem
  try with_reducible refine wpAny_holding ?_
  first | refine wpAny_bind (wpAny_pure ?_) | skip
  refine wpAny_bind (wpAny_sequenceKey ht.typeIs (by decide) ?_)
  refine wpAny_bind (wpAny_callSpecial?_slot (name := Str.ofString "__getitem__") ht.typeIs PyProof.Rows.slot_tuple_getitem
    (wpAny_call_entry PyProof.Rows.slot_tuple_getitem ht.typeIs entry_tuple_getitem ?_ (args_tuple_getitem _ _)))
  show wpAny _ _ (Builtin.Tuple.tupleItemsOf (.ref t) >>= _) _ _ s
  refine wpAny_bind (tupleItemsOf_ ht ?_)
  refine wpAny_bind (wpAny_typeOf hTs ?_)
  rw [if_pos (by decide)]
  refine wpAny_bind (sliceApplied_gen hs pl pu ?_)
  have hno : ¬ ((((sIx items.size 0 lo : Nat) : Int) == 0 && (1 : Int) == 1 && (sIx items.size items.size hi - sIx items.size 0 lo) == items.size) = true) := by
    intro q
    rw [Bool.and_eq_true, Bool.and_eq_true] at q
    have q1 : ((sIx items.size 0 lo : Nat) : Int) = 0 := eq_of_beq q.1.1
    have q2 : sIx items.size items.size hi - sIx items.size 0 lo = items.size := eq_of_beq q.2
    exact hw ⟨by omega, by omega⟩
  show wpAny _ _ (if (((sIx items.size 0 lo : Nat) : Int) == 0 && (1 : Int) == 1 && (sIx items.size items.size hi - sIx items.size 0 lo) == items.size) = true then _ else _) _ _ s
  rw [if_neg hno, pick_gen]
  first
    | exact wpAny_bind (m := Builtin.Tuple.tupleExact _) (wpAny_newObj_type (wpAny_pure ⟨_, rfl, wpAny_pure h⟩) htake)
    | exact wpAny_bind (m := Builtin.Tuple.tupleExact _) (wpAny_newObj_type (wpAny_bind (wpAny_pure (wpAny_pure ⟨_, rfl, wpAny_pure h⟩))) htake)
    | exact wpAny_bind (wpAny_bind (m := Builtin.Tuple.tupleExact _) (wpAny_newObj_type (wpAny_pure (wpAny_pure ⟨_, rfl, wpAny_pure h⟩)) htake))
    | exact wpAny_bind (wpAny_bind (m := Builtin.Tuple.tupleExact _) (wpAny_newObj_type (wpAny_pure ⟨_, rfl, wpAny_pure h⟩) htake))
end
end HT

namespace L2
open PySem PySem.Spec PyProof.Rows

abbrev TO := St → Hp → (Option Int → Hp → Prop) → Prop

def PO (X : Cx) (e : Option Expr) (t : TO) : Prop :=
  ∀ (pins : List (Addr × Obj)) (s : Shared) (σ : St) (H : Hp) (Q : Option Int → Hp → Prop), Inv X pins σ H s → t σ H Q →
    wpAny (model X.prog X.w) X.A (evalPart e X.env) (fun u s' => ∃ o H', Inv X pins σ H' s' ∧ IsPart u o ∧ Q o H') X.xe s
def tNoPart : TO := fun _ H Q => Q none H
def tPart (t : TE) : TO := fun σ H Q => t σ H fun x H1 => ∃ i, x = .int i ∧ Q (some i) H1

section
variable {X : Cx} {e : Expr} {te : TE} {lo hi : Option Expr} {tl th : TO} {pos p2 : Pos}

theorem po_none : PO X none tNoPart := by
  intro pins s σ H Q I h
  rw [evalPart_none]
  exact wpAny_pure ⟨none, H, I, .none, h⟩
theorem po_some (h : PE X e te) : PO X (some e) (tPart te) := by
  intro pins s σ H Q I hw
  rw [evalPart_some]
  refine thn (h pins s σ H _ I hw) fun u s1 ⟨x, H1, I1, r1, q1⟩ => ?_
  obtain ⟨i, rfl, q⟩ := q1
  obtain ⟨t, rfl⟩ := r1
  exact ⟨some i, H1, I1, .int i t, q⟩

def SlR (X : Cx) (r : V → Option Int → Option Int → Hp → VK → Prop) : Prop :=
  ∀ (pins : List (Addr × Obj)) (s : Shared) (σ : St) (H : Hp) (x : V) (v vl vu : Value) (lo hi : Option Int) (sl : Addr) (Q : VK), Inv X pins σ H s → RelV x v → s.heap.IsSliceOf sl vl vu .none → IsPart vl lo → IsPart vu hi → r x lo hi H Q →
    ∃ T id, typeLookup (.type T) "__getitem__" = pure (some (.builtin id)) ∧ s.TypeIs v T ∧ wpAny (model X.prog X.w) X.A (getItem v (.ref sl)) (EP X pins σ Q) X.xe s
def tSl (r : V → Option Int → Option Int → Hp → VK → Prop) (te : TE) (tl th : TO) : TE := fun σ H Q => te σ H fun x H1 => tl σ H1 fun l H2 => th σ H2 fun u H3 => r x l u H3 Q

theorem pe_slice {r : V → Option Int → Option Int → Hp → VK → Prop} (hr : SlR X r) (he : PE X e te) (hl : PO X lo tl) (hu : PO X hi th) : PE X (.Subscript e (.Slice lo hi none p2) pos) (tSl r te tl th) := by
  refine ⟨?_⟩
  intro pins s σ H Q I h
  refine Subscript_ (thn (he pins s σ H _ I h) fun v s1 ⟨x, H1, I1, r1, q1⟩ => ?_)
  refine wpAny_Slice (thn (hl pins s1 σ H1 _ I1 q1) fun vl s2 ⟨l, H2, I2, pl, q2⟩ => thn (hu pins s2 σ H2 _ I2 q2) fun vu s3 ⟨u, H3, I3, pu, q3⟩ => ?_)
  rw [evalPart_none]
  refine wpAny_pure ?_
  have I4 : Inv X pins σ H3 { s3 with heap := s3.heap.push { cls := .type "slice", data := .fields #[vl, vu, .none] } } := I3.kept (t' := s3.toks) fun b ob q => Heap.get?_push_of_some _ q
  obtain ⟨T, id, hT, ht, hg⟩ := hr pins { s3 with heap := s3.heap.push { cls := .type "slice", data := .fields #[vl, vu, .none] } } σ H3 x v vl vu l u s3.heap.objs.size Q I4 r1 (Heap.IsSliceOf.new ..) pl pu q3
  show wpAny (model X.prog X.w) X.A (subscriptTail e (.Slice lo hi none p2) v (.ref s3.heap.objs.size)) (EP X pins σ Q) X.xe { s3 with heap := s3.heap.push { cls := .type "slice", data := .fields #[vl, vu, .none] } }
  exact tail_any (ops := [.ref s3.heap.objs.size, v]) ht hT hg (by with_unfolding_all rfl)

def cutV (xs : List V) (lo hi : Option Int) : List V := (xs.drop (HT.sIx xs.length 0 lo)).take (HT.sIx xs.length xs.length hi - HT.sIx xs.length 0 lo)
theorem cutV_length (xs : List V) (lo hi : Option Int) : (cutV xs lo hi).length ≤ xs.length := by
  unfold cutV
  rw [List.length_take, List.length_drop]
  omega

def rSlT (K : PySem.W.Frag) : V → Option Int → Option Int → Hp → VK → Prop := fun x lo hi H Q => ∃ a xs, x = .ref a ∧ SqT K H a xs ∧
  ¬ (HT.sIx xs.length 0 lo = 0 ∧ HT.sIx xs.length xs.length hi = xs.length) ∧ ∀ p, H p = none → Q (.ref p) (upd H p (.tup (cutV xs lo hi)))
theorem sl_tup : SlR X (rSlT X.K) := by
  intro pins s σ H x v vl vu lo hi sl Q I rx hs pl pu h
  obtain ⟨a, xs, rfl, hx, hw, q⟩ := h
  cases rx
  obtain ⟨its, r, ht, hz⟩ := I.tuple hx
  have hlen : its.toArray.size = xs.length := by rw [List.size_toArray]; exact r.length.symm
  refine ⟨"tuple", _, PyProof.Rows.slot_tuple_getitem.lookup, ht.typeIs, ?_⟩
  refine HT.getItem_tuple_cut ht hs pl pu (by rw [hlen]; exact hw) ?_ (by rw [hlen]; exact hz)
  rw [hlen]
  refine ⟨.ref s.heap.objs.size, _, I.laid (t' := s.toks) (o := .tup (cutV xs lo hi)) (fun b ob q => Heap.get?_push_of_some _ q) (Nat.le_refl _) ?_, rfl, q _ (I.hok.fresh (Nat.le_refl _))⟩
  exact ⟨Nat.le_trans (cutV_length xs lo hi) hz, _, (r.drop (HT.sIx xs.length 0 lo)).take (HT.sIx xs.length xs.length hi - HT.sIx xs.length 0 lo), IsTup.new _ _⟩

def rCatT (K : PySem.W.Frag) : R2 := fun x y H Q => ∃ a b xs ys, x = .ref a ∧ y = .ref b ∧ SqT K H a xs ∧ SqT K H b ys ∧ xs ≠ [] ∧ xs.length + ys.length ≤ sizeLine ∧
  (ys = [] → Q (.ref a) H) ∧ (ys ≠ [] → ∀ p, H p = none → Q (.ref p) (upd H p (.tup (xs ++ ys))))
theorem Vals.nil_iff {xs : List V} {us : List Value} (r : Vals xs us) : us = [] ↔ xs = [] := by
  cases r with
  | nil => simp
  | cons _ _ => simp
theorem op_catT : OpR X (binaryOp .Add) (rCatT X.K) := by
  intro pins s σ H x y v u Q I rx ry h
  obtain ⟨a, b, xs, ys, rfl, rfl, ha, hb, hx, hz, q1, q2⟩ := h
  cases rx
  cases ry
  obtain ⟨its, r1, p1, _⟩ := I.tuple ha
  obtain ⟨its2, r2, p2, _⟩ := I.tuple hb
  refine HT.cat_tup p1 p2 (fun z => hx (r1.nil_iff.mp z)) (fun z => ⟨.ref a, H, I, rfl, q1 (r2.nil_iff.mp z)⟩) (fun z => ?_) (by rw [← r1.length, ← r2.length]; exact hz)
  refine ⟨.ref s.heap.objs.size, _, I.laid (t' := s.toks) (o := .tup (xs ++ ys)) (fun b ob q => Heap.get?_push_of_some _ q) (Nat.le_refl _) ?_, rfl, q2 (fun w => z (r2.nil_iff.mpr w)) _ (I.hok.fresh (Nat.le_refl _))⟩
  exact ⟨by rw [List.length_append]; exact hz, _, r1.append r2, IsTup.new _ _⟩

end
end L2

namespace L2
open PySem PySem.Spec PyProof.Rows

def ixN (n : Nat) (i : Int) : Option Nat := if 0 ≤ i then (if i < n then some i.toNat else none) else if -(n : Int) ≤ i then some (i + n).toNat else none
def atI {α : Type} (xs : List α) (i : Int) : Option α := (ixN xs.length i).bind fun j => xs[j]?
theorem ixN_seq {n : Nat} {i : Int} {j : Nat} (h : ixN n i = some j) : seqIndex? i n = some j ∧ j < n ∧ -(n : Int) ≤ i ∧ i < n := by
  unfold ixN at h
  by_cases h0 : 0 ≤ i
  · rw [if_pos h0] at h
    by_cases h1 : i < n
    · rw [if_pos h1] at h
      have e : i.toNat = j := Option.some.inj h
      exact ⟨by rw [seqIndex_of h0 h1, e], by omega, by omega, h1⟩
    · rw [if_neg h1] at h; cases h
  · rw [if_neg h0] at h
    by_cases h1 : -(n : Int) ≤ i
    · rw [if_pos h1] at h
      have e : (i + n).toNat = j := Option.some.inj h
      exact ⟨by rw [seqIndex_neg (by omega) h1, e], by omega, h1, by omega⟩
    · rw [if_neg h1] at h; cases h
theorem atI_get {α : Type} {xs : List α} {i : Int} {v : α} (h : atI xs i = some v) : ∃ j, seqIndex? i xs.length = some j ∧ xs[j]? = some v ∧ j < xs.length ∧ -(xs.length : Int) ≤ i ∧ i < xs.length := by
  unfold atI at h
  cases e : ixN xs.length i with
  | none => rw [e] at h; cases h
  | some j =>
    rw [e] at h
    obtain ⟨h1, h2, h3, h4⟩ := ixN_seq e
    exact ⟨j, h1, h, h2, h3, h4⟩
theorem atI_nat {α : Type} {xs : List α} {j : Nat} {v : α} (h : xs[j]? = some v) : atI xs (j : Int) = some v := by
  have hj : j < xs.length := (List.getElem?_eq_some_iff.mp h).1
  have e : ixN xs.length (j : Int) = some j := by
    unfold ixN
    rw [if_pos (by omega), if_pos (by omega)]; simp
  unfold atI; rw [e]; exact h
def PlainIx (b : Expr) : Prop := ∀ o i, subscripted b false o i = operate [o, i] (getItem o i)

def IxR (X : Cx) (r : R2) : Prop :=
  ∀ (value slice : Expr) (pins : List (Addr × Obj)) (s : Shared) (σ : St) (H : Hp) (x y : V) (v u : Value) (Q : VK), Inv X pins σ H s → RelV x v → RelV y u → r x y H Q →
    subscripted slice false v u = operate [v, u] (getItem v u) → wpAny (model X.prog X.w) X.A (subscriptTail value slice v u) (EP X pins σ Q) X.xe s

def MtR (X : Cx) (id : String) (r : V → List V → Hp → VK → Prop) : Prop :=
  ∀ (pins : List (Addr × Obj)) (s : Shared) (σ : St) (H : Hp) (x : V) (xs : List V) (v : Value) (us : List Value) (Q : VK), Inv X pins σ H s → RelV x v → Vals xs us → r x xs H Q →
    wpAny (model X.prog X.w) X.A (call (.builtin id) (v :: us)) (EP X pins σ Q) X.xe s
section
variable {X : Cx} {a b : Expr} {ta tb : TE} {pos : Pos}
theorem pe_ix {r : R2} (hr : IxR X r) (ha : PE X a ta) (hb : PE X b tb) (hs : PlainIx b) : PE X (.Subscript a b pos) (tOp r ta tb) := by
  refine ⟨?_⟩
  intro pins s σ H Q I h
  exact Subscript_ (binT ha hb I h fun v u s2 x y H2 I2 rx ry q => hr a b pins s2 σ H2 x y v u Q I2 rx ry q (hs _ _))

def rIxL (K : PySem.W.Frag) : R2 := fun x y H Q => ∃ p xs i v, x = .ref p ∧ y = .int i ∧ SqL K H p xs ∧ atI xs i = some v ∧ Q v H
def rIxT (K : PySem.W.Frag) : R2 := fun x y H Q => ∃ p xs i v, x = .ref p ∧ y = .int i ∧ SqT K H p xs ∧ atI xs i = some v ∧ Q v H
def rIxS : R2 := fun x y H Q => ∃ z i c, x = .str z ∧ y = .int i ∧ z.length ≤ sizeLine ∧ atI z.cps.toList i = some c ∧ Q (.str ⟨#[c]⟩) H
theorem ix_list : IxR X (rIxL X.K) := by
  intro value slice pins s σ H x y v u Q I rx ry h hs
  obtain ⟨p, xs, i, z, rfl, rfl, hq, he, q⟩ := h
  cases rx
  obtain ⟨t, rfl⟩ := ry
  obtain ⟨its, r, pl, hz⟩ := I.list hq
  obtain ⟨j, h1, h2, h3, h4, h5⟩ := atI_get he
  obtain ⟨w, ew, rw'⟩ := r.get h2
  have hl := r.length
  have hn := line63
  have fin : EP X pins σ Q w s := ⟨z, H, I, rw', q⟩
  by_cases h0 : 0 ≤ i
  · have hj : i.toNat = j := by
      rw [seqIndex_of h0 h5] at h1
      exact Option.some.inj h1
    exact item_listR pl.isList h0 (by omega) (by rw [hj]; simpa using ew) fin hs
  · have hj : (i + (its.toArray.size : Int)).toNat = j := by
      rw [seqIndex_neg (by omega) h4] at h1
      rw [List.size_toArray, ← hl]
      exact Option.some.inj h1
    exact subscriptTail_builtinR (x := w) pl.isList.typeIs slot_list_getitem.lookup
      (wpAny_getItem_list_neg (Q := fun r s' => r = w ∧ EP X pins σ Q r s') pl.isList (by omega) (by rw [List.size_toArray] <;> omega) (by omega) (by rw [hj]; simpa using ew) ⟨rfl, fin⟩) hs
theorem ix_tup : IxR X (rIxT X.K) := by
  intro value slice pins s σ H x y v u Q I rx ry h hs
  obtain ⟨p, xs, i, z, rfl, rfl, hq, he, q⟩ := h
  cases rx
  obtain ⟨t, rfl⟩ := ry
  obtain ⟨its, r, pl, hz⟩ := I.tuple hq
  obtain ⟨j, h1, h2, h3, h4, h5⟩ := atI_get he
  obtain ⟨w, ew, rw'⟩ := r.get h2
  have hl := r.length
  have hn := line63
  have fin : EP X pins σ Q w s := ⟨z, H, I, rw', q⟩
  exact subscriptTail_builtinR (x := w) pl.typeIs slot_tuple_getitem.lookup
    (getItem_tuple (j := j) (Q := fun r s' => r = w ∧ EP X pins σ Q r s') pl (by omega) (by omega) (by rw [List.size_toArray, ← hl]; exact h1) (by simpa using ew) ⟨rfl, fin⟩) hs
theorem ix_str : IxR X rIxS := by
  intro value slice pins s σ H x y v u Q I rx ry h hs
  obtain ⟨z, i, c, rfl, rfl, hz, he, q⟩ := h
  obtain ⟨t, rfl⟩ := rx
  obtain ⟨t', rfl⟩ := ry
  obtain ⟨j, h1, h2, h3, h4, h5⟩ := atI_get he
  have hl : z.cps.toList.length = z.length := by simp [Str.length]
  rw [hl] at h1 h4 h5
  have hn := line63
  exact tail_any (typeIs_str s z t) slot_str_getitem.lookup (getItem_str (c := c) (by
    have e1 : decide (i < -(2 ^ 63 : Int)) = false := decide_eq_false (by omega)
    have e2 : decide (i ≥ 2 ^ 63) = false := decide_eq_false (by omega)
    rw [e1, e2, Bool.or_false]) (by rw [h1]; simpa using h2) ⟨.str ⟨#[c]⟩, H, I.tok _, ⟨_, rfl⟩, q⟩) hs

theorem mapSeq_set (its : List Value) (n j : Nat) (u : Value) : Obj.mapSeq (·.setIfInBounds j u) { cls := .type "list", data := .seq its.toArray n } = { cls := .type "list", data := .seq (its.set j u).toArray n } := by
  simp [Obj.mapSeq]
theorem Inv.lst {pins : List (Addr × Obj)} {σ : St} {H : Hp} {s : Shared} {p : Addr} {xs : List V} (I : Inv X pins σ H s) (h : H p = some (.lst xs)) :
    ∃ (its : List Value) (n : Nat), Vals xs its ∧ s.heap.get? p = some { cls := .type "list", data := .seq its.toArray n } ∧ xs.length ≤ sizeLine := by
  obtain ⟨z, its, n, r, e⟩ := I.hok p _ h
  exact ⟨its, n, r, e, z⟩

theorem Inv.lstUpd {pins : List (Addr × Obj)} {σ : St} {H : Hp} {s : Shared} {p : Addr} {xs ys : List V} {its its' : List Value} {n n' : Nat} {f : Obj → Obj} (I : Inv X pins σ H s) (h : H p = some (.lst xs))
    (ho : s.heap.get? p = some { cls := .type "list", data := .seq its.toArray n }) (hf : f { cls := .type "list", data := .seq its.toArray n } = { cls := .type "list", data := .seq its'.toArray n' }) (r : Vals ys its') (hz : ys.length ≤ sizeLine) (t : Nat) :
    Inv X pins σ (upd H p (.lst ys)) { s with heap := s.heap.update p f, toks := t } := by
  have e : (s.heap.update p f).get? p = some { cls := .type "list", data := .seq its'.toArray n' } := by
    rw [Heap.get?_update_self f ho (by rw [hf] <;> rfl), hf]
  refine I.write (x := p) (e := p) (by rw [h]; trivial) (.inl rfl) (fun b u hb q => (Heap.get?_update_other _ _ (Ne.symm hb)).trans q) ⟨_, e⟩ ?_
  exact ⟨hz, its', n', r, e⟩
def rSetL : V → V → V → Hp → (Hp → Prop) → Prop := fun o i v H Q => ∃ p xs k j, o = .ref p ∧ i = .int k ∧ H p = some (.lst xs) ∧ ixN xs.length k = some j ∧ Q (upd H p (.lst (xs.set j v)))
theorem set_list : PSet X rSetL := by
  intro pins s σ H o i v ov iv u Q I ro ri rv h
  obtain ⟨p, xs, k, j, rfl, rfl, hp, hj, q⟩ := h
  cases ro
  obtain ⟨t, rfl⟩ := ri
  obtain ⟨its, n, r, ho, hz⟩ := I.lst hp
  obtain ⟨h1, h2, h3, h4⟩ := ixN_seq hj
  have hl := r.length
  have hn := line63
  have I' : Inv X pins σ (upd H p (.lst (xs.set j v))) { s with heap := s.heap.update p (Obj.mapSeq (·.setIfInBounds j u)) } :=
    I.lstUpd hp ho (mapSeq_set its n j u) (r.set rv j) (by rw [List.length_set]; exact hz) s.toks
  by_cases h0 : 0 ≤ k
  · have hk : k.toNat = j := by
      rw [seqIndex_of h0 h4] at h1
      exact Option.some.inj h1
    exact PySem.W.ki_setAt ho h0 (by omega) (by rw [List.size_toArray, ← hl]; exact h4) (by rw [hk]; exact ⟨_, I', q⟩)
  · have hk : (k + (its.toArray.size : Int)).toNat = j := by
      rw [seqIndex_neg (by omega) h3] at h1
      rw [List.size_toArray, ← hl]
      exact Option.some.inj h1
    exact PySem.W.ki_setBack ho (by omega) (by rw [List.size_toArray, ← hl]; exact h3) (by omega) (by rw [hk]; exact ⟨_, I', q⟩)

theorem slice_bounds (lo hi : Option Int) (n : Nat) : (sliceBounds lo hi none n).1 = ((HT.sIx n 0 lo : Nat) : Int) ∧ (sliceBounds lo hi none n).2.1 = ((HT.sIx n n hi : Nat) : Int) ∧ (sliceBounds lo hi none n).2.2 = 1 := by
  refine ⟨?_, ?_, rfl⟩
  · cases lo with
    | none => simp [sliceBounds, HT.sIx]
    | some i =>
      simp only [sliceBounds, HT.sIx, Option.getD_none, show (1 : Int) > 0 by decide, if_true]
      by_cases h : i < 0
      · simp only [h, if_true] <;> omega
      · simp only [h, if_false] <;> omega
  · cases hi with
    | none => simp [sliceBounds, HT.sIx]
    | some i =>
      simp only [sliceBounds, HT.sIx, Option.getD_none, show (1 : Int) > 0 by decide, if_true]
      by_cases h : i < 0
      · simp only [h, if_true] <;> omega
      · simp only [h, if_false] <;> omega
theorem slicePick_cut (its : List Value) (lo hi : Option Int) : slicePick its.toArray lo hi none = ((its.drop (HT.sIx its.length 0 lo)).take (HT.sIx its.length its.length hi - HT.sIx its.length 0 lo)).toArray := by
  obtain ⟨h1, h2, h3⟩ := slice_bounds lo hi its.toArray.size
  unfold slicePick
  rw [h1, h2, h3]
  simp only [sliceRange_one, pick_run, List.size_toArray] <;> rfl

def rSlL (K : PySem.W.Frag) : V → Option Int → Option Int → Hp → VK → Prop := fun x lo hi H Q => ∃ a xs, x = .ref a ∧ SqL K H a xs ∧ ∀ p, H p = none → Q (.ref p) (upd H p (.lst (cutV xs lo hi)))
theorem sl_list : SlR X (rSlL X.K) := by
  intro pins s σ H x v vl vu lo hi sl Q I rx hs pl pu h
  obtain ⟨a, xs, rfl, hx, q⟩ := h
  cases rx
  obtain ⟨its, r, ht, hz⟩ := I.list hx
  have hlen := r.length
  refine ⟨"list", _, slot_list_getitem.lookup, ht.isList.typeIs, ?_⟩
  refine wpAny_getItem_list_slice ht.isList hs pl pu .none (by simp) ?_ (by rw [List.size_toArray] <;> omega)
  rw [slicePick_cut, ← hlen]
  refine ⟨.ref s.heap.objs.size, _, I.laid (t' := s.toks) (o := .lst (cutV xs lo hi)) (fun b ob q => Heap.get?_push_of_some _ q) (Nat.le_refl _) ?_, rfl, q _ (I.hok.fresh (Nat.le_refl _))⟩
  exact ⟨Nat.le_trans (cutV_length xs lo hi) hz, _, 0, (r.drop (HT.sIx xs.length 0 lo)).take (HT.sIx xs.length xs.length hi - HT.sIx xs.length 0 lo), Heap.get?_push_size _ rfl⟩

def flatV : V → Bool
  | .non => true
  | .bl _ => true
  | .int _ => true
  | .str _ => true
  | _ => false

def eqV : V → V → Bool
  | .non, .non => true
  | .bl a, .bl b => a == b
  | .bl a, .int b => (if a then 1 else 0) == b
  | .int a, .bl b => a == (if b then 1 else 0)
  | .int a, .int b => a == b
  | .str a, .str b => a == b
  | _, _ => false
theorem eqAt_V {A : Around} {s : Shared} {y x : V} {u v : Value} (ry : RelV y u) (rx : RelV x v) (fy : flatV y = true) (fx : flatV x = true) : SeqAt.EqAt A s u v (eqV y x) := by
  cases y with
  | non =>
    cases ry
    cases x with
    | non => cases rx; exact SeqAt.EqAt.same _
    | bl b => cases rx; exact SeqAt.EqAt.none_bool b
    | int b => obtain ⟨t, rfl⟩ := rx; exact SeqAt.EqAt.none_int b t
    | str b => obtain ⟨t, rfl⟩ := rx; exact SeqAt.EqAt.none_str b t
    | _ => exact absurd (show false = true from fx) Bool.false_ne_true
  | bl a =>
    cases ry
    cases x with
    | non => cases rx; exact SeqAt.EqAt.bool_none a
    | bl b => cases rx; exact SeqAt.EqAt.bool_bool a b
    | int b => obtain ⟨t, rfl⟩ := rx; exact SeqAt.EqAt.bool_int a b t
    | str b => obtain ⟨t, rfl⟩ := rx; exact SeqAt.EqAt.bool_str a b t
    | _ => exact absurd (show false = true from fx) Bool.false_ne_true
  | int a =>
    obtain ⟨t', rfl⟩ := ry
    cases x with
    | non => cases rx; exact SeqAt.EqAt.int_none a t'
    | bl b => cases rx; exact SeqAt.EqAt.int_bool a t' b
    | int b => obtain ⟨t, rfl⟩ := rx; exact SeqAt.EqAt.int_int a t' b t
    | str b => obtain ⟨t, rfl⟩ := rx; exact SeqAt.EqAt.int_str a t' b t
    | _ => exact absurd (show false = true from fx) Bool.false_ne_true
  | str a =>
    obtain ⟨t', rfl⟩ := ry
    cases x with
    | non => cases rx; exact SeqAt.EqAt.str_none a t'
    | bl b => cases rx; exact SeqAt.EqAt.str_bool a t' b
    | int b => obtain ⟨t, rfl⟩ := rx; exact SeqAt.EqAt.str_int a t' b t
    | str b => obtain ⟨t, rfl⟩ := rx; exact SeqAt.EqAt.str_str a t' b t
    | _ => exact absurd (show false = true from fx) Bool.false_ne_true
  | _ => exact absurd (show false = true from fy) Bool.false_ne_true

def eqU (x : V) (u : Value) : Bool := match u with
  | .none => eqV .non x
  | .bool b => eqV (.bl b) x
  | .int i _ => eqV (.int i) x
  | .str z _ => eqV (.str z) x
  | _ => false
theorem eqU_of {x y : V} {u : Value} (r : RelV y u) (f : flatV y = true) : eqU x u = eqV y x := by
  cases y with
  | non => cases r; rfl
  | bl b => cases r; rfl
  | int i => obtain ⟨t, rfl⟩ := r; rfl
  | str z => obtain ⟨t, rfl⟩ := r; rfl
  | _ => exact absurd (show false = true from f) Bool.false_ne_true
theorem any_eqU {x : V} : ∀ {xs : List V} {us : List Value}, Vals xs us → xs.all flatV = true → us.any (eqU x) = xs.any fun y => eqV y x
  | _, _, .nil, _ => rfl
  | y :: xs, u :: us, .cons r t, f => by
    rw [List.all_cons, Bool.and_eq_true] at f
    rw [List.any_cons, List.any_cons, eqU_of r f.1, any_eqU t f.2]
theorem mem_eqAt {A : Around} {s : Shared} {x : V} {v : Value} (rx : RelV x v) (fx : flatV x = true) : ∀ {xs : List V} {us : List Value}, Vals xs us → xs.all flatV = true → ∀ u ∈ us, SeqAt.EqAt A s u v (eqU x u)
  | _, _, .nil, _ => fun u hu => by cases hu
  | y :: xs, u :: us, .cons r t, f => fun u' hu => by
    rw [List.all_cons, Bool.and_eq_true] at f
    rcases List.mem_cons.mp hu with rfl | hu
    · rw [eqU_of r f.1]; exact eqAt_V r rx f.1 fx
    · exact mem_eqAt rx fx t f.2 u' hu
def inV (x : V) (xs : List V) : Bool := xs.any fun y => eqV y x

def rIn (K : PySem.W.Frag) (neg : Bool) : R2 := fun x y H Q => ∃ p xs, y = .ref p ∧ (SqL K H p xs ∨ SqT K H p xs) ∧ flatV x = true ∧ xs.all flatV = true ∧ Q (.bl (if neg then !inV x xs else inV x xs)) H
theorem op_in_seq : OpR X (compareOp .In) (rIn X.K false) := by
  intro pins s σ H x y v u Q I rx ry h
  obtain ⟨p, xs, rfl, hq, fx, fs, q⟩ := h
  cases ry
  rcases hq with hq | hq
  · obtain ⟨its, r, pl, hz⟩ := I.list hq
    refine SeqAt.in_listAt (eqU x) pl.isList (fun w hw => mem_eqAt rx fx r fs w (by simpa using hw)) ⟨.bl _, H, I, rfl, ?_⟩
    rw [show its.toArray.any (eqU x) = its.any (eqU x) by simp, any_eqU r fs]
    exact q
  · obtain ⟨its, r, pl, hz⟩ := I.tuple hq
    refine SeqAt.in_tupleAt (eqU x) pl (fun w hw => mem_eqAt rx fx r fs w (by simpa using hw)) ⟨.bl _, H, I, rfl, ?_⟩
    rw [show its.toArray.any (eqU x) = its.any (eqU x) by simp, any_eqU r fs]
    exact q
theorem call_list_of : CallR X (.type "list") (fun xs H Q => ∃ p ys, xs = [.ref p] ∧ (SqL X.K H p ys ∨ SqT X.K H p ys) ∧ ∀ l, H l = none → Q (.ref l) (upd H l (.lst ys))) := by
  intro pins s σ H xs us Q I r h
  obtain ⟨p, ys, rfl, hq, q⟩ := h
  obtain ⟨u, rfl, rx⟩ := vals1 r
  cases rx
  have fin : ∀ (its : List Value), Vals ys its → ys.length ≤ sizeLine → ∀ (h' : Heap) (c' : Nat), (∀ b o', s.heap.get? b = some o' → h'.get? b = some o') →
      h'.get? s.heap.objs.size = some { cls := .type "list", dict := none, data := .seq its.toArray c', slots := #[] } → EP X pins σ Q (.ref s.heap.objs.size) { s with heap := h' } := fun its r' hz h' c' kp e =>
    ⟨.ref s.heap.objs.size, _, I.laid (t' := s.toks) kp (Nat.le_refl _) (show ObjOk X.prog X.w _ h' _ (.lst ys) from ⟨hz, its, c', r', e⟩), rfl, q _ (I.hok.fresh (Nat.le_refl _))⟩
  rcases hq with hq | hq
  · obtain ⟨its, r', pl, hz⟩ := I.list hq
    have hlen := r'.length
    obtain ⟨o, ho, hc, n, hd⟩ := pl.isList
    exact call_list_seq p (.inl rfl) ho hc hd (fun h' c' kp e => fin its r' hz h' c' kp e) (by simp only [List.size_toArray] <;> omega)
  · obtain ⟨its, r', pl, hz⟩ := I.tuple hq
    have hlen := r'.length
    obtain ⟨o, ho, hc, n, hd⟩ := pl
    exact call_list_seq p (.inr rfl) ho hc hd (fun h' c' kp e => fin its r' hz h' c' kp e) (by simp only [List.size_toArray] <;> omega)
theorem call_tuple_of : CallR X (.type "tuple") (fun xs H Q => ∃ p ys, xs = [.ref p] ∧ ((SqL X.K H p ys ∧ ∀ l, H l = none → Q (.ref l) (upd H l (.tup ys))) ∨ (SqT X.K H p ys ∧ Q (.ref p) H))) := by
  intro pins s σ H xs us Q I r h
  obtain ⟨p, ys, rfl, h⟩ := h
  obtain ⟨u, rfl, rx⟩ := vals1 r
  cases rx
  rcases h with ⟨hq, q⟩ | ⟨hq, q⟩
  · obtain ⟨its, r', pl, hz⟩ := I.list hq
    have hlen := r'.length
    refine call_tuple_list pl.isList (fun h' kp => ?_) (by simp only [List.size_toArray] <;> omega)
    have I1 : Inv X pins σ H { s with heap := h' } := I.kept (t' := s.toks) kp
    have I2 : Inv X pins σ (upd H h'.objs.size (.tup ys)) { s with heap := h'.push { cls := .type "tuple", data := .seq its.toArray } } :=
      I1.laid (t' := s.toks) (fun b o e => Heap.get?_push_of_some _ e) (Nat.le_refl _) (show ObjOk X.prog X.w _ _ _ (.tup ys) from ⟨hz, its, r', IsTup.new _ _⟩)
    exact ⟨.ref h'.objs.size, _, I2, rfl, q _ (I1.hok.fresh (Nat.le_refl _))⟩
  · obtain ⟨its, r', pl, hz⟩ := I.tuple hq
    exact call_tuple_same pl ⟨.ref p, H, I, rfl, q⟩

def tyV (K : PySem.W.Frag) (T : String) (x : V) (H : Hp) : Prop := match x with
  | .str _ => T = "str"
  | .int _ => T = "int"
  | .ref p => (T = "list" ∧ ∃ xs, SqL K H p xs) ∨ (T = "tuple" ∧ ∃ o, K.lookup p = some o ∧ o.cls = .type "tuple" ∧ o.dict = none) ∨
      (T = "dict" ∧ ((∃ kvs, H p = some (.dK kvs)) ∨ ∃ kvs, H p = some (.dT kvs))) ∨ (T = "set" ∧ ∃ S n, H p = some (.set S n))
  | _ => False
theorem tyV_is {pins : List (Addr × Obj)} {σ : St} {H : Hp} {s : Shared} {T : String} {x : V} {v : Value} (I : Inv X pins σ H s) (r : RelV x v) (ty : tyV X.K T x H) :
    s.TypeIs v T ∧ ∀ a, v = .ref a → ∃ ob, s.heap.get? a = some ob ∧ ob.dict = none := by
  cases x with
  | str z =>
    obtain ⟨t, rfl⟩ := r
    cases (show T = "str" from ty)
    exact ⟨typeIs_str s z t, fun _ e => nomatch e⟩
  | int i =>
    obtain ⟨t, rfl⟩ := r
    cases (show T = "int" from ty)
    exact ⟨typeIs_int s i t, fun _ e => nomatch e⟩
  | ref p =>
    cases r
    rcases ty with ⟨rfl, xs, hq⟩ | ⟨rfl, o, hk, hc, hd⟩ | ⟨rfl, hk⟩ | ⟨rfl, S, n, hk⟩
    · obtain ⟨its, _, pl, _⟩ := I.list hq
      refine ⟨pl.isList.typeIs, fun a e => ?_⟩
      cases e
      obtain ⟨o, n, e, c, hd, _⟩ := pl
      exact ⟨o, e, hd⟩
    · refine ⟨⟨o, I.kIn p o hk, hc⟩, fun a e => ?_⟩
      cases e
      exact ⟨o, I.kIn _ o hk, hd⟩
    · have z : ∃ o, s.heap.get? p = some o ∧ o.ExactDict := by
        rcases hk with ⟨kvs, hk⟩ | ⟨kvs, hk⟩
        · obtain ⟨_, _, _, _, o, _, _, e, ex, _⟩ := I.hok p _ hk
          exact ⟨o, e, ex⟩
        · obtain ⟨_, _, _, _, o, _, _, e, ex, _⟩ := I.hok p _ hk
          exact ⟨o, e, ex⟩
      obtain ⟨o, e, ex⟩ := z
      refine ⟨⟨o, e, ex.1⟩, fun a e2 => ?_⟩
      cases e2
      exact ⟨o, e, ex.2.1⟩
    · obtain ⟨o, _, _, _, e, ex, _⟩ := I.hok p _ hk
      refine ⟨⟨o, e, ex.1⟩, fun a e2 => ?_⟩
      cases e2
      exact ⟨o, e, ex.2.1⟩
  | _ => exact False.elim ty
def tBM0 (K : PySem.W.Frag) (T : String) (r : V → List V → Hp → VK → Prop) (to : TE) : TE := fun σ H Q => to σ H fun x H1 => tyV K T x H1 ∧ r x [] H1 Q
def tBM (K : PySem.W.Frag) (T : String) (r : V → List V → Hp → VK → Prop) (to : TE) (t : TA) : TE := fun σ H Q => to σ H fun x H1 => tyV K T x H1 ∧ t σ H1 fun xs H2 => r x xs H2 Q
variable {o e : Expr} {es : List Expr} {to : TE} {t : TA} {name : Str} {apos cpos : Pos} {T id : String} {r : V → List V → Hp → VK → Prop}
theorem pe_bm (pa : PlainAttrs T) (slot : Slot T name id) (hty : typeOf (.builtin id) = pure (.type "method_descriptor")) (hm : MtR X id r) (ho : PE X o to) (ha : PA X (e :: es) t)
    (hbase : attributeBase o name X.env (eval o X.env) = eval o X.env := by rfl)
    (hfew : ((backTo cpos (starEach (e :: es) X.env)).all (fun x => !x.1) && (backToKw cpos (keywordEach [] X.env)).all (fun x => x.1.isSome)
      && decide ((e :: es).length + ([] : List Keyword).length + (if ([] : List Keyword).isEmpty then 0 else 1) < 30)) = true := by rfl)
    (hline : (apos.endLine == cpos.line) = true := by rfl) (hs : starEach (e :: es) X.env = (false, eval e X.env) :: starEach es X.env := by rfl) (hplain : (backTo cpos (starEach es X.env)).any (·.1) = false := by rfl) :
    PE X (.Call (.Attribute o name apos) (e :: es) [] cpos) (tBM X.K T r to t) := by
  refine ⟨?_⟩
  intro pins s σ H Q I h
  refine wpAny_Call_method_late hbase hfew hline rfl (thn (ho pins s σ H _ I h) fun v s1 ⟨x, H1, I1, r1, ty, q1⟩ => ?_)
  obtain ⟨h1, h2⟩ := tyV_is I1 r1 ty
  refine ⟨T, id, pa, slot, hty, h1, h2, ?_⟩
  have hA := ha cpos pins s1 σ H1 _ I1 q1
  rw [hs] at hA ⊢
  refine Calls.callWith_builtin (by show (false || (backTo cpos (starEach es X.env)).any (·.1)) = false; rw [hplain] <;> rfl) (Calls.evalArgs_plain ?_)
  exact thn hA fun us s2 ⟨vs, H2, I2, r2, q2⟩ => hm pins s2 σ H2 x vs v us Q I2 r1 r2 q2

end
end L2

namespace L2
open PySem PySem.Spec PyProof.Rows

def MtM (X : Cx) (id : String) (r : V → List V → Hp → VK → Prop) : Prop :=
  ∀ (pins : List (Addr × Obj)) (s : Shared) (σ : St) (H : Hp) (x : V) (xs : List V) (v : Value) (us : List Value) (Q : VK), Inv X pins σ H s → RelV x v → Vals xs us → r x xs H Q →
    wpAny (model X.prog X.w) X.A (call (.builtin id) (v :: us)) (EP X pins σ Q) X.xe s

theorem Vals.one : ∀ {x : V} {us : List Value}, Vals [x] us → ∃ u, us = [u] ∧ RelV x u
  | _, _, .cons r .nil => ⟨_, rfl, r⟩
theorem Vals.eraseIdx : ∀ {xs : List V} {us : List Value} (i : Nat), Vals xs us → Vals (xs.eraseIdx i) (us.eraseIdx i)
  | _, _, _, .nil => .nil
  | _, _, 0, .cons _ t => t
  | _, _, i + 1, .cons r t => .cons r (Vals.eraseIdx i t)
section
variable {X : Cx} {pins : List (Addr × Obj)} {σ : St} {H : Hp} {s : Shared} {l b : Addr} {xs ys zs : List V}

theorem Inv.lset {its its' : List Value} {n : Nat} {f : Array Value → Array Value} {t' : Nat} (I : Inv X pins σ H s) (hH : H l = some (.lst xs))
    (e : s.heap.get? l = some { cls := .type "list", data := .seq its.toArray n }) (hf : f its.toArray = its'.toArray) (hv : Vals ys its') (hz : ys.length ≤ sizeLine) :
    Inv X pins σ (upd H l (.lst ys)) { s with heap := s.heap.update l (Obj.mapSeq f), toks := t' } := by
  have q := PySem.IsL.update e f
  rw [hf] at q
  refine I.write (x := l) (e := l) (by rw [hH]; exact trivial) (.inl rfl) (fun b' u hb hu => (Heap.get?_update_other s.heap (Obj.mapSeq f) (Ne.symm hb)).trans hu) ⟨_, q⟩ ?_
  exact ⟨hz, its', _, hv, q⟩
theorem Inv.lnew {its : List Value} {t' : Nat} (I : Inv X pins σ H s) (hv : Vals ys its) (hz : ys.length ≤ sizeLine) :
    Inv X pins σ (upd H s.heap.objs.size (.lst ys)) { s with heap := s.heap.push { cls := .type "list", data := .seq its.toArray }, toks := t' } :=
  I.laid (fun _ _ q => Heap.get?_push_of_some _ q) (Nat.le_refl _) ⟨hz, its, 0, hv, Heap.get?_push_size _ rfl⟩
theorem Inv.fresh (I : Inv X pins σ H s) : H s.heap.objs.size = none := I.hok.fresh (Nat.le_refl _)
theorem Inv.lstM (I : Inv X pins σ H s) (hH : H l = some (.lst xs)) : xs.length ≤ sizeLine ∧ ∃ (its : List Value) (n : Nat), Vals xs its ∧ xs.length = its.length ∧ s.heap.get? l = some { cls := .type "list", data := .seq its.toArray n } := by
  obtain ⟨z, its, n, r, e⟩ := I.hok l _ hH
  exact ⟨z, its, n, r, r.length, e⟩

theorem notLongL {n : Nat} (h : n ≤ sizeLine) : Builtin.List.listTooLong n = false := by
  unfold Builtin.List.listTooLong
  exact decide_eq_false (by omega)
end

section
variable {X : Cx}

def rAppend : V → List V → Hp → VK → Prop := fun x vs H Q => ∃ l xs y, x = .ref l ∧ vs = [y] ∧ H l = some (.lst xs) ∧ xs.length < sizeLine ∧ Q .non (upd H l (.lst (xs ++ [y])))
theorem mt_append : MtM X "list.append" rAppend := by
  intro pins s σ H x vs v us Q I rx rv h
  obtain ⟨l, xs, y, rfl, rfl, hH, hz, q⟩ := h
  cases rx
  obtain ⟨u, rfl, ru⟩ := rv.one
  obtain ⟨z, its, n, r, hl, e⟩ := I.lstM hH
  refine call_meets F.slot_list_append ⟨_, e, rfl⟩ F.entry_list_append (F.args_list_append_2 _ _) (PySem.list_append l its.toArray n u (by rw [List.size_toArray]; omega)) ⟨e, ?_⟩
  refine ⟨.non, _, I.lset (its' := its ++ [u]) hH e (by simp) (r.append (.cons ru .nil)) ?_, rfl, q⟩
  rw [List.length_append, List.length_singleton]
  omega

def rExtend : V → List V → Hp → VK → Prop := fun x vs H Q => ∃ l b xs zs, x = .ref l ∧ vs = [.ref b] ∧ H l = some (.lst xs) ∧ H b = some (.lst zs) ∧ xs.length + zs.length ≤ sizeLine ∧ Q .non (upd H l (.lst (xs ++ zs)))
theorem mt_extend : MtM X "list.extend" rExtend := by
  intro pins s σ H x vs v us Q I rx rv h
  obtain ⟨l, b, xs, zs, rfl, rfl, hH, hB, hz, q⟩ := h
  cases rx
  obtain ⟨u, rfl, ru⟩ := rv.one
  cases ru
  obtain ⟨z, its, n, r, hl, e⟩ := I.lstM hH
  obtain ⟨z2, its2, n2, r2, hl2, e2⟩ := I.lstM hB
  have hsz : its.toArray.size + its2.toArray.size ≤ sizeLine := by rw [List.size_toArray, List.size_toArray]; omega
  have hlong : ¬ (!its.toArray.isEmpty && Builtin.List.listTooLong (its.toArray.size + its2.toArray.size)) = true := by
    rw [notLongL hsz, Bool.and_false]
    exact Bool.false_ne_true
  refine call_meets F.slot_list_extend ⟨_, e, rfl⟩ F.entry_list_extend (F.args_list_extend_2 _ _)
    (AutoSeq1.list_extend_list_list_0 l its.toArray n b its2.toArray n2 hlong (by rw [List.size_toArray]; omega) (by omega)) ⟨e, e2, ?_⟩
  refine ⟨.non, _, I.lset (its' := its ++ its2) hH e (by simp) (r.append r2) ?_, rfl, q⟩
  rw [List.length_append]
  omega

def rCat : R2 := fun x y H Q => ∃ l b xs zs, x = .ref l ∧ y = .ref b ∧ H l = some (.lst xs) ∧ H b = some (.lst zs) ∧ xs.length + zs.length ≤ sizeLine ∧ ∀ p, H p = none → Q (.ref p) (upd H p (.lst (xs ++ zs)))
theorem op_cat : OpR X (binaryOp .Add) rCat := by
  intro pins s σ H x y v u Q I rx ry h
  obtain ⟨l, b, xs, zs, rfl, rfl, hH, hB, hz, q⟩ := h
  cases rx
  cases ry
  obtain ⟨z, its, n, r, hl, e⟩ := I.lstM hH
  obtain ⟨z2, its2, n2, r2, hl2, e2⟩ := I.lstM hB
  refine PySem.P.add_list e e2 ?_ (by rw [List.size_toArray, List.size_toArray]; omega)
  have ea : its.toArray ++ its2.toArray = (its ++ its2).toArray := by simp
  rw [ea]
  exact ⟨.ref _, _, I.lnew (t' := s.toks) (r.append r2) (by rw [List.length_append]; omega), rfl, q _ I.fresh⟩

end

section
variable {prog : Program} {w : World} {A : Around} {E : Value → Shared → Prop} {s : Shared}
set_option maxRecDepth 100000 in

end

section
variable {X : Cx}

end
end L2

namespace L2
open PySem PySem.Spec PyProof.Rows

section
variable {κ : Type} [DecidableEq κ]
def valV (kvs : List (κ × V)) (k : κ) : Option V := (kvs.find? fun kv => decide (kv.1 = k)).map (·.2)

def putK (kvs : List (κ × V)) (k : κ) (v : V) : List (κ × V) :=
  if (kvs.any fun kv => decide (kv.1 = k)) = true then kvs.map (fun kv => if kv.1 = k then (kv.1, v) else kv) else kvs ++ [(k, v)]
theorem valV_pos {p : κ × V} {r : List (κ × V)} {k : κ} (e : p.1 = k) : valV (p :: r) k = some p.2 := by simp [valV, List.find?_cons, e]
theorem valV_neg {p : κ × V} {r : List (κ × V)} {k : κ} (e : ¬ p.1 = k) : valV (p :: r) k = valV r k := by simp [valV, List.find?_cons, e]
theorem KV.val {kvs : List (κ × V)} {vs : List (κ × Value)} (r : KV kvs vs) (k : κ) : RelO (valV kvs k) (valueAt vs k) := by
  unfold KV at r
  induction r with
  | nil => exact True.intro
  | @cons p q ps qs h t ih =>
    obtain ⟨h1, h2⟩ := h
    by_cases e : p.1 = k
    · have e' : q.1 = k := h1.symm.trans e
      have b : valueAt (q :: qs) k = some q.2 := by simp [valueAt, List.find?_cons, e']
      rw [valV_pos e, b]; exact h2
    · have e' : ¬ q.1 = k := fun z => e (h1.trans z)
      have b : valueAt (q :: qs) k = valueAt qs k := by simp [valueAt, List.find?_cons, e']
      rw [valV_neg e, b]; exact ih
theorem KV.any {kvs : List (κ × V)} {vs : List (κ × Value)} (r : KV kvs vs) (k : κ) : (kvs.any fun kv => decide (kv.1 = k)) = vs.any fun kv => decide (kv.1 = k) := by
  unfold KV at r
  induction r with
  | nil => rfl
  | cons h t ih => rw [List.any_cons, List.any_cons, ih, h.1]
theorem KV.length {kvs : List (κ × V)} {vs : List (κ × Value)} (r : KV kvs vs) : kvs.length = vs.length := Paired.length r
end

theorem kV_is {P : Program} {w : World} {k : Key} {u : Value} (r : RelV (kV k) u) : (mixKind P w).is k u = true := by
  cases k with
  | inl i => obtain ⟨t, e⟩ := (show ∃ t, u = Value.int i t from r); subst e; exact mixKind_int P w i t
  | inr x => obtain ⟨t, e⟩ := (show ∃ t, u = Value.str x t from r); subst e; exact mixKind_str P w x t
theorem items_are {P : Program} {w : World} : ∀ {ks : List Key} {us : List Value}, Vals (ks.map kV) us → ItemsAre (mixKind P w) ks us
  | [], _, r => by rw [List.map_nil] at r; cases r; exact .nil
  | k :: ks, _, r => by
    rw [List.map_cons] at r
    cases r with
    | cons h t => exact .cons (kV_is h) (items_are t)

abbrev KT (H : Hp) : List (List Key × V) → List (List Key × Addr × Value) → Prop := Paired fun p q => p.1 = q.1 ∧ H q.2.1 = some (.tup (p.1.map kV)) ∧ RelV p.2 q.2.2
theorem KT.val {H : Hp} {kvs : List (List Key × V)} {xs : List (List Key × Addr × Value)} (r : KT H kvs xs) (k : List Key) : RelO (valV kvs k) ((atKey xs k).map (·.2)) := by
  induction r with
  | nil => exact True.intro
  | @cons p q ps qs h t ih =>
    obtain ⟨h1, _, h2⟩ := h
    by_cases e : p.1 = k
    · have e' : q.1 = k := h1.symm.trans e
      have b : atKey (q :: qs) k = some q.2 := by simp [atKey, List.find?_cons, e']
      rw [valV_pos e, b]; exact h2
    · have e' : ¬ q.1 = k := fun z => e (h1.trans z)
      have b : atKey (q :: qs) k = atKey qs k := by simp [atKey, List.find?_cons, e']
      rw [valV_neg e, b]; exact ih
section
variable {P : Program} {w : World} {H : Hp} {h : Heap} {a : Addr}
theorem rd_of {u : HO} (ok : HOk P w H h) (e : Rd H a u) : ObjOk P w H h a u := e.ok ok
theorem dk_rd {kvs : List (Key × V)} (ok : HOk P w H h) (e : Rd H a (.dK kvs)) : kvs.length ≤ sizeLine ∧ (a == sysModules) = false ∧ ∃ vs, KV kvs vs ∧ h.DictOf (mixKind P w) a vs :=
  show ObjOk P w H h a (.dK kvs) from rd_of ok e
theorem key_of {ks : List Key} (ok : HOk P w H h) (e : H a = some (.tup (ks.map kV))) : (tupleKind (mixKind P w)).is h ks a := by
  obtain ⟨_, its, r, o, h1, h2, n, h3⟩ := (show ObjOk P w H h a (.tup (ks.map kV)) from ok a _ e)
  exact ⟨o, its.toArray, n, h1, h2, h3, by simpa using items_are r⟩
theorem dt_rd {kvs : List (List Key × V)} (ok : HOk P w H h) (e : Rd H a (.dT kvs)) : kvs.length ≤ sizeLine ∧ (a == sysModules) = false ∧
    ∃ xs, KT H kvs xs ∧ h.DictOfH (tupleKind (mixKind P w)) a xs := by
  obtain ⟨z, y, xs, r, o, es, ep, h1, h2, h3, h4, h5⟩ := (show ObjOk P w H h a (.dT kvs) from rd_of ok e)
  refine ⟨z, y, xs, r, o, es, ep, h1, h2, h3, h4, fun x hx => ?_, h5⟩
  have all : ∀ {l : List (List Key × V)} {m : List (List Key × Addr × Value)}, KT H l m → ∀ x ∈ m, (tupleKind (mixKind P w)).is h x.1 x.2.1 := by
    intro l m q
    induction q with
    | nil => intro x hx; exact nomatch hx
    | @cons p q ps qs hq t ih =>
      intro x hx
      rcases List.mem_cons.mp hx with e | hx
      · subst e
        exact key_of ok (by rw [← hq.1]; exact hq.2.1)
      · exact ih x hx
  exact all r x hx
end

def DGet (H : Hp) (a : Addr) (y : V) (r : Option V) : Prop :=
  (∃ kvs k, Rd H a (.dK kvs) ∧ y = kV k ∧ r = valV kvs k) ∨ ∃ kvs k b, Rd H a (.dT kvs) ∧ y = .ref b ∧ H b = some (.tup (k.map kV)) ∧ r = valV kvs k

section
variable {X : Cx} {pins : List (Addr × Obj)} {σ : St} {H : Hp} {s : Shared} {a : Addr} {y v : V} {u r : Value} {o : Option V} {A : Around} {E : Value → Shared → Prop}

theorem Inv.big (I : Inv X pins σ H s) : sysModules < s.heap.objs.size := by
  have h : mainGlobals < s.heap.objs.size := (I.mod.glob.keeps I.bk).lt
  exact Nat.lt_trans (by decide) h

theorem d_getItem {Q : Value → Shared → Prop} (hu : A.units + 1 < cLine) (I : Inv X pins σ H s) (g : DGet H a y (some v)) (ry : RelV y u) (h : ∀ w' s', Inv X pins σ H s' → RelV v w' → Q w' s') :
    wpAny (model X.prog X.w) A (getItem (.ref a) u) Q E s := by
  rcases g with ⟨kvs, k, e, ey, l⟩ | ⟨kvs, k, b, e, ey, eb, l⟩
  · subst ey
    obtain ⟨z, hd, vs, rel, dd⟩ := dk_rd I.hok e
    obtain ⟨w', hw, rw'⟩ := RelO.some_of (v := v) (o := valueAt vs k) (by rw [l]; exact rel.val k)
    exact wpAny_getItem_of (kV_is ry) dd.mapOf hw (h w' _ (I.tok _) rw')
  · subst ey
    cases (show u = Value.ref b from ry)
    obtain ⟨z, hd, xs, rel, dd⟩ := dt_rd I.hok e
    obtain ⟨w', hw, rw'⟩ := RelO.some_of (v := v) (o := (atKey xs k).map (·.2)) (by rw [l]; exact rel.val k)
    obtain ⟨p, hp, hp2⟩ := Option.map_eq_some_iff.mp hw
    refine wpAny_getItem_heap (tupleKind_room_in1 hu) (key_of I.hok eb) dd hp ?_
    rw [hp2]
    exact h w' _ (I.tok _) rw'

end

section
variable {X : Cx} {pins : List (Addr × Obj)} {σ : St} {H : Hp} {s : Shared} {a : Addr} {kvs : List (Key × V)} {k : Key} {u : Value} {A : Around} {E : Value → Shared → Prop}

end

theorem dict_typeIs {X : Cx} {pins : List (Addr × Obj)} {σ : St} {H : Hp} {s : Shared} {a : Addr} {y : V} {o : Option V} (I : Inv X pins σ H s) (g : DGet H a y o) : s.TypeIs (.ref a) "dict" := by
  rcases g with ⟨kvs, k, e, _, _⟩ | ⟨kvs, k, b, e, _, _, _⟩
  · obtain ⟨_, _, vs, _, dd⟩ := dk_rd I.hok e
    exact dd.typeIs
  · obtain ⟨_, _, xs, _, dd⟩ := dt_rd I.hok e
    exact dd.typeIs

theorem dk_empty {P : Program} {w : World} {H : Hp} (h : Heap) (hb : sysModules < h.objs.size) : ObjOk P w H (h.push { cls := .type "dict", data := .dict #[] }) h.objs.size (.dK []) :=
  ⟨Nat.zero_le _, beq_eq_false_iff_ne.mpr (Ne.symm (Nat.ne_of_lt hb)), [], .nil, Heap.DictOf.new h⟩
def tDNewK : TE := fun _ H Q => ∀ p, H p = none → Q (.ref p) (upd H p (.dK []))
section
variable {X : Cx} {pos : Pos}
theorem pe_dnewK : PE X (.Dict [] [] pos) tDNewK := .mk fun pins s σ H Q I h =>
  wpAny_Dict_empty ⟨.ref s.heap.objs.size, _, I.laid (a := s.heap.objs.size) (o := .dK []) (t' := s.toks) (fun _ _ q => Heap.get?_push_of_some _ q) (Nat.le_refl _) (dk_empty s.heap I.big), rfl, h _ (I.hok.fresh (Nat.le_refl _))⟩
end

def tPairs : List (TE × TE) → St → Hp → (List (V × V) → Hp → Prop) → Prop
  | [], _, H, Q => Q [] H
  | (tk, tv) :: r, σ, H, Q => tk σ H fun x H1 => tv σ H1 fun y H2 => tPairs r σ H2 fun ps H3 => Q ((x, y) :: ps) H3
def mergeK (kvs more : List (Key × V)) : List (Key × V) := more.foldl (fun acc kv => putK acc kv.1 kv.2) kvs
def tDisp (trs : List (TE × TE)) : TE := fun σ H Q => ∀ p, H p = none → tPairs trs σ (upd H p (.dK [])) fun ps H2 => H2 p = some (.dK []) ∧ ∃ kvs : List (Key × V), ps = kvs.map (fun kv => (kV kv.1, kv.2)) ∧ kvs.length ≤ 15 ∧ Q (.ref p) (upd H2 p (.dK (mergeK [] kvs)))
structure M1 (X : Cx) (o : Expr) (m : Str) (apos : Pos) (e : Expr) (cpos : Pos) : Prop where
  base : attributeBase o m X.env (eval o X.env) = eval o X.env
  few : ((backTo cpos (starEach [e] X.env)).all (fun x => !x.1) && (backToKw cpos (keywordEach [] X.env)).all (fun x => x.1.isSome)
    && decide (([e] : List Expr).length + ([] : List Keyword).length + (if ([] : List Keyword).isEmpty then 0 else 1) < 30)) = true
  line : (apos.endLine == cpos.line) = true
  trees : backTo cpos (starEach [e] X.env) = [(false, eval e X.env)]
structure M2 (X : Cx) (o : Expr) (m : Str) (apos : Pos) (e f : Expr) (cpos : Pos) : Prop where
  base : attributeBase o m X.env (eval o X.env) = eval o X.env
  few : ((backTo cpos (starEach [e, f] X.env)).all (fun x => !x.1) && (backToKw cpos (keywordEach [] X.env)).all (fun x => x.1.isSome)
    && decide (([e, f] : List Expr).length + ([] : List Keyword).length + (if ([] : List Keyword).isEmpty then 0 else 1) < 30)) = true
  line : (apos.endLine == cpos.line) = true
  trees : backTo cpos (starEach [e, f] X.env) = [(false, eval e X.env), (false, eval f X.env)]

section
variable {X : Cx} {pins : List (Addr × Obj)} {σ : St} {H : Hp} {s : Shared} {a : Addr} {y d : V} {u r : Value} {o : Option V} {A : Around} {E : Value → Shared → Prop}

end



section
variable {X : Cx} {pins : List (Addr × Obj)} {σ : St} {H : Hp} {s : Shared} {a : Addr} {y : V} {u : Value} {A : Around} {E : Value → Shared → Prop}

end
end L2

namespace Att
open PySem PySem.W PySem.Calls PyProof.Rows

theorem ints_of_wellAll {P : Params} {h : Heap} : ∀ (ns : List Int) (vs : List Value), WellAll P h vs (ns.map WData.int) → IntsAre vs ns := by
  intro ns
  induction ns with
  | nil =>
    intro vs w
    rw [List.map_nil] at w
    cases w
    exact .nil
  | cons n ns ih =>
    intro vs w
    rw [List.map_cons] at w
    cases w with
    | cons a b =>
      cases a
      exact .cons _ _ (ih _ b)

theorem script_of {l : OpenLaw} {n : Nat} (hn : l.most = some n) {P : Params} {h : Heap} {args : List WData} {vals : List Value}
    (hpre : l.row.toRowW.claim.pre args = true) (hwl : WellAll P h vals args) :
    ∃ a vs ns, vals = [Value.ref a] ∧ args = [WData.list (ns.map WData.int)] ∧ h.get? a = some { cls := .type "list", data := .seq vs.toArray } ∧ IntsAre vs ns ∧ ns.length ≤ n := by
  have hsh : WShape.hasAll [] args [.list .int] = true := (pre_splitW hpre).1
  have hc : l.pre.holds [] { args := args } = true := (pre_splitW hpre).2
  obtain ⟨d, r, rfl, h1, h2⟩ := hasAllW_cons hsh
  obtain rfl := hasAllW_nil h2
  obtain ⟨xs, rfl, h3⟩ := hasW_list h1
  obtain ⟨ns, rfl⟩ := items_int h3
  have hlen : ns.length ≤ n := by
    unfold OpenLaw.pre at hc
    have h4 : (WTm.not (.lt (.lit (.int (n : Int))) (.len (.arg 0)))).holds [] { args := [.list (ns.map .int)] } = true := by
      have h4 := (holds_andW hc).1
      rw [hn] at h4
      exact h4
    have h5 := condW_of h4 (w_not (w_lt w_lit (w_len_list (w_arg rfl))))
    rw [List.length_map] at h5
    refine Nat.le_of_not_lt fun q => ?_
    have q' : (n : Int) < ((ns.length : Nat) : Int) := by omega
    first
      | (rw [decide_eq_true q'] at h5; exact absurd h5 (by decide))
      | (simp at h5; omega)
  cases hwl with
  | cons w1 w2 =>
    cases w2
    cases w1 with
    | list ho hall => exact ⟨_, _, ns, rfl, rfl, ho, ints_of_wellAll ns _ hall, hlen⟩

theorem post_true (l : OpenLaw) (args : List WData) : l.row.toRowW.claim.post args (.bool true) args = true :=
  postW_of (r := l.row.toRowW) (X := (true == true))
    (show WShape.has [] (.bool true) .bool = true by first | rfl | decide | simp [WShape.has, WShape.arms, WShape.armsAll])
    (show (WTm.eq .res (.lit (.bool true))).value [] { args := args, res := some (.bool true), after := args } = some (.bool (true == true)) from w_eq_bool (w_res rfl) w_lit) rfl

theorem attach_call {l : OpenLaw} {n : Nat} {q : Program} {loose : List Str} {XP : (Str → Option Value) → Heap → Prop} {YP : World → Heap → Prop} {d : DefRec}
    (hn : l.most = some n) (hdf : d.params.defaults = [])
    (call : ∀ (w : World) (s₀ s₁ : Shared) (mg mb : Str → Option Value) (fa : Addr) (o : Obj) (pm cd doc : Value) (a : Addr) (vs : List Value) (ns : List Int),
      Ground q loose [] XP w s₀ mg mb s₁.heap → YP w s₁.heap →
      s₁.heap.get? fa = some o → o.data = .func (docDef d.name d.params d.body d.scope pm cd doc) → s₁.heap.CodeRec cd d.name → mg d.name = some (.ref fa) →
      s₁.heap.get? a = some { cls := .type "list", data := .seq vs.toArray } → IntsAre vs ns → ns.length ≤ n → s₁.gens = #[] →
      codeAny (model l.prog w) callerA (.call (.ref fa) ⟨[.ref a], []⟩) (fun r s' => r = .ok (.ret (.bool true)) ∧ OldK s₁.heap s'.heap ∧ s'.os = s₁.os ∧ AllBare s'.gens) s₁) :
    WalkO q loose XP YP l.row.toRowW d [] (fun f vs => PySem.call f vs) := by
  intro w s₀ s₁ mg mb G Y fa o pm cd doc dV kV ho hd hcd hD hmg hg args vals as hpre hlay hrd hwl hlo
  obtain rfl : dV = .none := Dflts.none hD hdf
  obtain rfl : kV = .none := Dflts.noKw hD
  obtain ⟨a, vs, ns, rfl, rfl, hobj, hints, hlen⟩ := script_of hn hpre hwl
  refine enter_call (codeAny_mono (call w s₀ s₁ mg mb fa o pm cd doc a vs ns G Y ho (fd_plain hd) hcd hmg hobj hints hlen hg) fun r s' hq => ?_)
  obtain ⟨rfl, h2, h3, h4⟩ := hq
  exact ⟨.inl ⟨.bool true, .bool true, [], rfl, fun _ => rfl, .bool true, post_true l _, fun _ => ⟨List.Pairwise.nil, fun _ hm => (nomatch hm)⟩⟩, h2, h3, h4⟩

section
variable {prog : Program} {w : World} {A : Around} {E : Value → Shared → Prop} {s : Shared} {K : Frag}

end
end Att

namespace L2
open PySem PySem.Spec PyProof.Rows

theorem vals_ints : ∀ {vs : List Value} {ns : List Int}, IntsAre vs ns → Vals (ns.map V.int) vs
  | _, _, .nil => .nil
  | _, _, .cons n t h => .cons ⟨t, rfl⟩ (vals_ints h)

def Only (H : Hp) : Prop := ∀ b, H b = none ∨ ∃ o xs, H b = some (.frz o (.lst xs))

theorem law_call {P : Program} {w : World} {K : PySem.W.Frag} {mg mb : Str → Option Value} {CX : CXT} {k : Nat} {fa a : Addr} {fd : FuncData} {x : Str} {sp : Sp} {s₁ : Shared} {vs : List Value} {ns : List Int}
    (KX : K.In s₁.heap) (hns : s₁.heap.Ns mainGlobals mg) (hb : s₁.heap.Ns builtinsNs mb) (hbb : ∀ x : Str, x ≠ "__name__" → mb x = bootBuiltins x) (hlim : s₁.heap.NoLimit) (hg : s₁.gens = #[])
    (ha : s₁.heap.get? a = some { cls := .type "list", data := .seq vs.toArray }) (hi : IntsAre vs ns) (hl : ns.length ≤ sizeLine) (hr : Room k callerA)
    (F : ∀ base : Heap, K.In base → base.Ns mainGlobals mg → FnOk P w K mg base CX k fa fd [x] sp) (hbind : ∀ (s : Shared) (u : Value), BindsTo s fd ⟨[u], []⟩ [(x, u)])
    (hsp : ∀ H : Hp, Only H → SqL K H a (ns.map V.int) → sp [.ref a] H (fun v _ => v = .bl true) fun _ _ _ => False)
    (hCX : ∀ H e s', CX [] H s₁ (fun _ _ _ => False) e s' → False) :
    codeAny (model P w) callerA (.call (.ref fa) ⟨[.ref a], []⟩) (fun r s' => r = .ok (.ret (.bool true)) ∧ OldK s₁.heap s'.heap ∧ s'.os = s₁.os ∧ AllBare s'.gens) s₁ := by
  have rv := vals_ints hi
  have lenV := hi.length

  have core : ∀ H : Hp, Only H → SqL K H a (ns.map V.int) → HOk P w H s₁.heap → (∀ b, H b ≠ none → b = a) → (H a ≠ none → K.lookup a = none) →
      codeAny (model P w) callerA (.call (.ref fa) ⟨[.ref a], []⟩) (fun r s' => r = .ok (.ret (.bool true)) ∧ OldK s₁.heap s'.heap ∧ s'.os = s₁.os ∧ AllBare s'.gens) s₁ := by
    intro H hO hS hok hA hK
    have base_of : ∀ {b : Addr} {o : Obj}, s₁.heap.get? b = some o → H b = none → (hidT s₁.heap H).get? b = some o := fun e n => hidT_get e n
    have noA : ∀ {b : Addr} {o : Obj} {es : Array DictEntry} {ep : Nat}, s₁.heap.get? b = some o → o.data = .dict es ep → H b = none := fun {b o es ep} e d => by
      cases q : H b with
      | none => rfl
      | some u =>
        have e' : b = a := hA b (by rw [q]; simp)
        subst e'
        rw [ha] at e; cases e
        have d' : Data.seq vs.toArray _ = Data.dict es ep := d
        cases d'
    have nsK : ∀ {b : Addr} {m : Str → Option Value}, s₁.heap.Ns b m → (hidT s₁.heap H).Ns b m := fun {b m} ⟨o, es, ep, e, d, r⟩ => ⟨o, es, ep, base_of e (noA e d), d, r⟩
    have hKb : K.In (hidT s₁.heap H) := fun b o e => base_of (KX b o e) (by
      cases q : H b with
      | none => rfl
      | some u =>
        have e' : b = a := hA b (by rw [q]; simp)
        subst e'
        rw [hK (by rw [q]; simp)] at e; cases e)
    have hM : Mod K mg (hidT s₁.heap H) := ⟨hKb, nsK hns, ⟨mb, nsK hb, hbb⟩, let ⟨mc, h1, h2⟩ := hlim; ⟨mc, nsK h1, h2⟩⟩
    have e0 : Env0 P w K mg (hidT s₁.heap H) callerA [] s₁ H := ⟨rfl, hM, fun b o e => of_hidT e, Nat.le_of_eq (hidT_size _ _), trivial, fun b hb => absurd (show b ∈ ([] : List Addr) from hb) (by simp), hok, .of_eq hg⟩
    refine codeAny_mono ((F _ hKb (nsK hns)).run callerA [] s₁ H ⟨[.ref a], []⟩ [.ref a] [.ref a] _ _ hr e0 (hbind s₁ (.ref a)) (.cons rfl .nil) (hsp H hO hS)) fun r s' h => ?_
    cases r with
    | error e => exact (hCX H e s' h).elim
    | ok fl =>
      cases fl with
      | next => exact False.elim h
      | brk => exact False.elim h
      | cont => exact False.elim h
      | ret u =>
        obtain ⟨v, H', os, bare, un, hok', r', q⟩ := h
        have q' : v = .bl true := q
        subst q'
        obtain rfl : u = Value.bool true := r'
        refine ⟨rfl, OldK.of_keep fun b o e => ?_, os, bare⟩
        cases q : H b with
        | none => exact un.keep b o e q (by intro z; exact absurd (show b ∈ ([] : List Addr) from z) (by simp)) (by simp)
        | some u =>
          rcases hO b with z | ⟨ob, xs, z⟩
          · rw [q] at z; cases z
          · have z2 := un.frzs b ob _ z
            obtain ⟨e1, _⟩ := hok b _ z
            obtain ⟨e2, _⟩ := hok' b _ z2
            rw [e] at e1; cases e1
            exact e2
  cases hk : K.lookup a with
  | some o =>

    have e := KX a o hk
    rw [ha] at e
    cases e
    refine core (fun _ => none) (fun _ => .inl rfl) (.inr ⟨_, vs.toArray, _, hk, rfl, rfl, rfl, by rw [List.size_toArray, lenV]; exact hl, by simpa using rv⟩) (fun b u z => by have z' : (none : Option HO) = some u := z; cases z') (fun b z => absurd rfl z) fun z => absurd rfl z
  | none =>
    refine core (fun b => if b = a then some (.frz { cls := .type "list", data := .seq vs.toArray } (.lst (ns.map V.int))) else none) (fun b => ?_) (.inl (.inr ⟨{ cls := .type "list", data := .seq vs.toArray }, if_pos rfl⟩)) (fun b u z => ?_) (fun b z => ?_) fun _ => hk
    · by_cases hb : b = a
      · exact .inr ⟨_, _, if_pos hb⟩
      · exact .inl (if_neg hb)
    · by_cases hb : b = a
      · have z' := (if_pos hb).symm.trans z
        cases z'
        subst hb
        exact ⟨ha, by rw [List.length_map]; exact hl, vs, _, rv, ha⟩
      · have z' := (if_neg hb).symm.trans z
        cases z'
    · by_cases hb : b = a
      · exact hb
      · exact absurd (if_neg hb) z
end L2

namespace L2
open PySem PySem.Spec PyProof.Rows

theorem walk_of {l : PySem.W.OpenLaw} {n k : Nat} {q : Program} {loose : List Str} {XP : (Str → Option Value) → Heap → Prop} {YP : World → Heap → Prop} {d : DefRec} {K : Params → PySem.W.Frag} {CX : World → CXT} {sp : World → Sp} {x : Str}
    (hn : l.most = some n) (hn2 : n ≤ sizeLine) (hdf : d.params.defaults = []) (hr : Room k callerA)
    (hY : ∀ (w : World) (h : Heap), YP w h → (K w.params).In h)
    (F : ∀ (w : World) (mg : Str → Option Value) (fa : Addr) (h : Heap), (K w.params).In h → h.Ns mainGlobals mg → mg d.name = some (.ref fa) →
      ∃ fd : FuncData, (∀ (s : Shared) (u : Value), BindsTo s fd ⟨[u], []⟩ [(x, u)]) ∧
        ∀ base : Heap, (K w.params).In base → base.Ns mainGlobals mg → FnOk l.prog w (K w.params) mg base (CX w) k fa fd [x] (sp w))
    (hsp : ∀ (w : World) (H : Hp) (a : Addr) (ns : List Int), ns.length ≤ n → Only H → SqL (K w.params) H a (ns.map V.int) → sp w [.ref a] H (fun v _ => v = .bl true) fun _ _ _ => False)
    (hCX : ∀ (w : World) (H : Hp) (s : Shared) (e : Value) (s' : Shared), CX w [] H s (fun _ _ _ => False) e s' → False) :
    PySem.W.WalkO q loose XP YP l.row.toRowW d [] (fun f vs => PySem.call f vs) := by
  refine Att.attach_call hn hdf fun w s₀ s₁ mg mb fa o pm cd doc a vs ns G Y ho hd hcd hmg hobj hints hlen hg => ?_
  have KX := hY w _ Y
  obtain ⟨fd, hb, hF⟩ := F w mg fa _ KX G.T.g hmg
  exact law_call KX G.T.g G.T.b G.T.builtins G.T.nolimit hg hobj hints (Nat.le_trans hlen hn2) hr hF hb (fun H hO hS => hsp w H a ns hlen hO hS) fun H e s' => hCX w H s₁ e s'

end L2

namespace L2
open PySem PySem.Spec PyProof.Rows

def defArgs (s : Stmt) : Arguments := match s with
  | .FunctionDef _ a _ _ _ _ _ _ _ _ => a
  | _ => { posonlyargs := [], args := [], vararg := none, kwonlyargs := [], kw_defaults := [], kwarg := none, defaults := [] }
def defBody (s : Stmt) : List Stmt := match s with
  | .FunctionDef _ _ b _ _ _ _ _ _ _ => b
  | _ => []
def defScope (s : Stmt) : Scope := match s with
  | .FunctionDef _ _ _ _ _ _ sc _ _ _ => sc
  | _ => { kind := .function, names := [], isGenerator := false, isCoroutine := false }

abbrev CX0 : CXT := fun _ _ _ _ _ _ => False
abbrev E0 : XK := fun _ _ _ => False
theorem pass0 {X : Cx} : Passes CX0 X E0 := fun _ _ _ _ _ _ _ h => h.elim

structure Fun (K : PySem.W.Frag) (x qual : Str) (st : Stmt) (f : Addr) (fd : FuncData) : Prop where
  ex : ∃ (oc : Value) (od : Option Addr) (kV doc pm : Value) (an : Option Addr) (cdv ct : Value) (osl : Array (Option Value)),
    fd = PySem.W.fnOf x qual (defArgs st) (defBody st) (defScope st) .none kV doc pm an cdv ct ∧ K.lookup f = some ⟨oc, od, .func fd, osl⟩ ∧ PySem.W.codeIn K cdv qual = true
  kp : PySem.W.keepIn K (.ref f) = true
section
variable {P : Program} {w : World} {K : PySem.W.Frag} {mg : Str → Option Value} {base : Heap}

theorem Fun.ok {x qual : Str} {st : Stmt} {f : Addr} {fd : FuncData} {N ps : List Str} {k : Nat} {sp : Sp} (F : Fun K x qual st f fd) (S : FnScope N ps (defScope st)) (len : ∀ vs H Q E, sp vs H Q E → vs.length = ps.length)
    (hbody : ∀ (cdv : Value) (A : Around) (outer : List Env) (s : Shared) (H : Hp) (vs : List V) (Q : VK) (E : XK), Room k (A.deeper (envOfC qual (defScope st) s.heap.objs.size f cdv)) → sp vs H Q E →
      ∃ t, PSs (cxOf CX0 P w K mg base N qual (defScope st) f cdv A outer s H E).nox (defBody st) t ∧ t { nx := fun _ H' => Q .non H', rt := Q } (start N vs) H) : FnOk P w K mg base CX0 (k + 1) f fd ps sp := by
  obtain ⟨oc, od, kV, doc, pm, an, cdv, ct, osl, rfl, lk, hcd⟩ := F.ex
  refine fn_of lk hcd S len fun A outer s H vs Q E hr hsp => ?_
  obtain ⟨t, h, q⟩ := hbody cdv A outer s H vs Q E hr hsp
  exact ⟨t, h.nox, q⟩

theorem Fun.binds {x qual : Str} {st : Stmt} {f : Addr} {fd : FuncData} {ps : List Str} (F : Fun K x qual st f fd)
    (h : ∀ (kV doc pm : Value) (an : Option Addr) (cdv ct : Value) (us : List Value), us.length = ps.length → bindArgs (PySem.W.fnOf x qual (defArgs st) (defBody st) (defScope st) .none kV doc pm an cdv ct) ⟨us, []⟩ = pure (ps.zip us)) : Binds K fd ps [] := by
  obtain ⟨oc, od, kV, doc, pm, an, cdv, ct, osl, rfl, lk, hcd⟩ := F.ex
  exact .all (h kV doc pm an cdv ct)
theorem fun_mk {x qual : Str} {st : Stmt} {f : Addr} {oc : Value} {od an : Option Addr} {osl : Array (Option Value)} {kV doc pm cdv ct : Value} (l : K.lookup f = some ⟨oc, od, .func (PySem.W.fnOf x qual (defArgs st) (defBody st) (defScope st) .none kV doc pm an cdv ct), osl⟩)
    (c : PySem.W.codeIn K cdv qual = true) (k : PySem.W.keepIn K (.ref f) = true) : Fun K x qual st f (PySem.W.fnOf x qual (defArgs st) (defBody st) (defScope st) .none kV doc pm an cdv ct) := ⟨⟨oc, od, kV, doc, pm, an, cdv, ct, osl, rfl, l, c⟩, k⟩
end
theorem small1000 {n : Nat} (h : n ≤ 1000) : n < sizeLine := Nat.lt_of_le_of_lt h (by decide)

section
variable {X : Cx}
theorem pv (i : Nat) {x : Str} {pos : Pos} (hN : X.N[i]? = some x := by rfl) (hv : Vis X.env.scope x := by first | exact Or.inl rfl | exact Or.inr (Or.inl rfl) | exact Or.inr (Or.inr rfl)) (hd : (x == ("__debug__" : Str)) = false := by decide)
    (hcd : (x == ("__classdict__" : Str)) = false := by decide) : PE X (.Name x pos) (tVar i) := pe_var hN hv hd hcd

end

def Same (H H' : Hp) : Prop := ∀ b o, H b = some o → H' b = some o
theorem Same.refl (H : Hp) : Same H H := fun _ _ h => h
theorem Same.trans {H H1 H2 : Hp} (a : Same H H1) (b : Same H1 H2) : Same H H2 := fun c o h => b c o (a c o h)
theorem Same.seq {K : PySem.W.Frag} {H H' : Hp} {a : Addr} {xs : List V} (e : Same H H') (h : SqL K H a xs) : SqL K H' a xs := by
  rcases h with (h | ⟨o, h⟩) | h
  · exact .inl (.inl (e _ _ h))
  · exact .inl (.inr ⟨o, e _ _ h⟩)
  · exact .inr h

end L2

set_option Elab.async false
set_option linter.all false
set_option maxRecDepth 100000
set_option maxHeartbeats 4000000
namespace L2
open PySem PySem.Spec PyProof.Rows

def clOf (env : Env) : List (Str × NameKind) → List (Str × Addr) → List (Str × Addr)
  | [], cs => cs
  | (n, k) :: r, cs => clOf env r (if k == .free then (n, (env.cells.lookup n).getD 0) :: cs else cs)
theorem clOf_mem {env : Env} {x : Str} {c : Addr} : ∀ {l : List (Str × NameKind)} {cs : List (Str × Addr)}, (x, c) ∈ clOf env l cs → (x, c) ∈ cs ∨ ((x, NameKind.free) ∈ l ∧ c = (env.cells.lookup x).getD 0)
  | [], cs, h => .inl h
  | (n, k) :: r, cs, h => by
    unfold clOf at h
    rcases clOf_mem h with h1 | ⟨h1, h2⟩
    · by_cases hk : (k == NameKind.free) = true
      · rw [if_pos hk] at h1
        have ek : k = .free := by simpa using hk
        rcases List.mem_cons.mp h1 with e | e
        · have e1 := congrArg Prod.fst e
          have e2 := congrArg Prod.snd e
          simp only at e1 e2
          subst e1 ek
          exact .inr ⟨List.mem_cons_self, e2⟩
        · exact .inl e
      · rw [if_neg hk] at h1
        exact .inl h1
    · exact .inr ⟨List.mem_cons_of_mem _ h1, h2⟩
theorem clOf_keep {env : Env} {p : Str × Addr} : ∀ {l : List (Str × NameKind)} {cs : List (Str × Addr)}, p ∈ cs → p ∈ clOf env l cs
  | [], _, h => h
  | (n, k) :: r, cs, h => by
    unfold clOf
    refine clOf_keep ?_
    split
    · exact List.mem_cons_of_mem _ h
    · exact h
theorem clOf_has {env : Env} {x : Str} : ∀ {l : List (Str × NameKind)} {cs : List (Str × Addr)}, (x, NameKind.free) ∈ l → (x, (env.cells.lookup x).getD 0) ∈ clOf env l cs
  | [], _, h => by simp at h
  | (n, k) :: r, cs, h => by
    unfold clOf
    rcases List.mem_cons.mp h with e | e
    · have e1 := congrArg Prod.fst e
      have e2 := congrArg Prod.snd e
      simp only at e1 e2
      subst e1 e2
      refine clOf_keep ?_
      rw [if_pos (by simp)]
      exact List.mem_cons_self
    · exact clOf_has e
theorem lookup_some_of_mem {β : Type} : ∀ {l : List (Str × β)} {x : Str} {c : β}, (x, c) ∈ l → ∃ d, l.lookup x = some d
  | [], _, _, h => by simp at h
  | (n, b) :: r, x, c, h => by
    by_cases e : x = n
    · subst e; exact ⟨b, by simp⟩
    · have hb : (x == n) = false := beq_eq_false_iff_ne.mpr e
      rcases List.mem_cons.mp h with q | q
      · exact absurd (congrArg Prod.fst q) e
      · obtain ⟨d, hd⟩ := lookup_some_of_mem q
        exact ⟨d, by simp only [List.lookup_cons, hb]; exact hd⟩
theorem closureFor_eq {scope : Scope} {env : Env} (h : ∀ x ∈ scope.names, x.2 = .free → ∃ c, env.cells.lookup x.1 = some c) : closureFor scope env = pure (clOf env scope.names []) := by
  unfold closureFor
  have key : ∀ (l : List (Str × NameKind)) (cs : List (Str × Addr)), (∀ x ∈ l, x.2 = .free → ∃ c, env.cells.lookup x.1 = some c) →
      ((forIn l cs fun (x : Str × NameKind) (r : List (Str × Addr)) => if (x.2 == NameKind.free) = true then do let y ← cellOf env x.1; pure (ForInStep.yield ((x.1, y) :: r)) else pure (ForInStep.yield r)) : Sem (List (Str × Addr))) = pure (clOf env l cs) := by
    intro l
    induction l with
    | nil => intro cs _; rfl
    | cons p r ih =>
      intro cs hh
      obtain ⟨n, k⟩ := p
      rw [List.forIn_cons]
      dsimp only
      by_cases hk : (k == NameKind.free) = true
      · obtain ⟨c, hc⟩ := hh (n, k) List.mem_cons_self (by simpa using hk)
        have e : cellOf env n = pure c := by unfold cellOf; rw [hc]
        rw [if_pos hk, e, pure_bind, pure_bind]
        dsimp only
        rw [ih _ fun x hx => hh x (List.mem_cons_of_mem _ hx)]
        show _ = pure (clOf env r _)
        rw [if_pos hk, hc]
        rfl
      · rw [if_neg hk, pure_bind]
        dsimp only
        rw [ih _ fun x hx => hh x (List.mem_cons_of_mem _ hx)]
        show _ = pure (clOf env r _)
        rw [if_neg hk]
  have := key scope.names [] h
  simp only at this ⊢
  rw [this, pure_bind]

def testsOf (ifs : List Expr) (env : Env) : Sem Bool := forIn ifs true fun c r => if r = true then do let ok ← isTrue c env (eval c env); pure (ForInStep.yield ok) else pure (ForInStep.yield r)
def PTs (X : Cx) (ifs : List Expr) (t : TT) : Prop :=
  ∀ (pins : List (Addr × Obj)) (s : Shared) (σ : St) (H : Hp) (Q : Bool → Hp → Prop), Inv X pins σ H s → t σ H Q → wpAny (model X.prog X.w) X.A (testsOf ifs X.env) (TP X pins σ Q) X.xe s
def tNoTest : TT := fun _ H Q => Q true H
theorem pts_nil {X : Cx} : PTs X [] tNoTest := fun _ _ _ H _ I h => wpAny_pure ⟨H, I, h⟩
section
variable {prog : Program} {w : World} {A : Around} {R : Result → Shared → Prop} {s : Shared}
theorem compLoop_any {elt target iter : Expr} {ifs : List Expr} {scope : Scope} {pos : Pos} {it acc : Value} {env : Env} (I : Nat → Shared → Prop)
    (turn : ∀ n s, I n s → wpAny (model prog w) A (pyNext it) (fun r s₁ => match r with
      | none => R (.ok .next) s₁
      | some v => wpAny (model prog w) A (letOwnedTupleGo target it v) (fun _ s₂ => wpAny (model prog w) A (assign target env v) (fun _ s₃ =>
          wpAny (model prog w) A (testsOf ifs env) (fun ok s₄ =>
            if ok = true then wpAny (model prog w) A (eval elt env) (fun x s₅ =>
              wpAny (model prog w) A (call (.builtin "list.append") [acc, x]) (fun _ s₆ => ∃ m, m < n ∧ I m s₆) (fun _ _ => False) s₅) (fun _ _ => False) s₄
            else ∃ m, m < n ∧ I m s₄) (fun _ _ => False) s₃) (fun _ _ => False) s₂) (fun _ _ => False) s₁) (fun _ _ => False) s)
    (n : Nat) (h : I n s) :
    codeAny (model prog w) A (.compLoop (.ListComp elt [⟨target, iter, ifs, 0⟩] scope pos) 0 it acc env) R s := by
  refine codeAny_loop rfl I (fun n s hI => ?_) n h
  show wpAny _ A ((compTurn (.ListComp elt [⟨target, iter, ifs, 0⟩] scope pos) 0 it acc env).onRaise (fun x => do noteFrame x env; theTreesLotGoes x)) _ _ s
  refine wpAny_noted ?_
  rw [compTurn_list]
  refine wpAny_bind (wpAny_standAt (wpAny_bind (wpAny_mono (turn n s hI) (fun r s₁ h₁ => ?_) fun _ _ h' => h'.elim)))
  cases r with
  | none => exact wpAny_pure h₁
  | some v =>
    refine wpAny_bind (wpAny_mono h₁ (fun _ s₂ h₂ => ?_) fun _ _ h' => h'.elim)
    refine wpAny_bind (wpAny_mono h₂ (fun _ s₃ h₃ => wpAny_bind (wpAny_mono h₃ (fun ok s₄ h₄ => ?_) fun _ _ h' => h'.elim)) fun _ _ h' => h'.elim)
    cases ok with
    | false => exact wpAny_pure ⟨rfl, h₄⟩
    | true =>
      exact wpAny_bind (wpAny_bind (wpAny_mono h₄ (fun x s₅ h₅ => wpAny_bind (wpAny_mono h₅ (fun _ s₆ h₆ => wpAny_pure (wpAny_pure ⟨rfl, h₆⟩)) fun _ _ h' => h'.elim)) fun _ _ h' => h'.elim))
end

def ixOk (N N' : List Str) (ix : List (Option Nat)) (scope : Scope) : Bool :=
  N'.length == ix.length && (N'.zip ix).all fun p => match p.2 with | none => true | some j => N[j]? == some p.1 && scope.names.lookup p.1 == some .free
def blk (ix : List (Option Nat)) (σ : St) : St := ix.map fun o => match o with | none => none | some j => (σ[j]?).join
def freeOk (scope : Scope) (outer : Scope) : Bool :=
  scope.names.all fun x => (x.2 != .cell) && (x.2 != .free || (outer.names.lookup x.1 == some .cell || outer.names.lookup x.1 == some .free)) && (x.2 != .local || scope.names.lookup x.1 == some .local) && (x.2 != .free || scope.names.lookup x.1 == some .free)
def bCx (X : Cx) (scope : Scope) (C : Addr) (N' : List Str) (s₂ : Shared) (H₂ : Hp) (fp : List Addr) : Cx :=
  { X with N := N', s₀ := s₂, H₀ := H₂, env := compEnvC scope (clOf X.env scope.names []) C X.env, outer := X.stack, stack := X.stack, ex := fp, fn := fun _ => false, pn := [], xe := fun _ _ => False }
theorem freeOk.at {scope outer : Scope} (h : freeOk scope outer = true) {x : Str × NameKind} (hx : x ∈ scope.names) : x.2 ≠ .cell ∧ (x.2 = .free → outer.names.lookup x.1 = some .cell ∨ outer.names.lookup x.1 = some .free) ∧ (x.2 = .local → scope.names.lookup x.1 = some .local) ∧ (x.2 = .free → scope.names.lookup x.1 = some .free) := by
  have h1 := List.all_eq_true.mp h x hx
  simp only [Bool.and_eq_true, Bool.or_eq_true, bne_iff_ne, ne_eq, beq_iff_eq] at h1
  obtain ⟨⟨⟨a, b⟩, c⟩, d⟩ := h1
  exact ⟨a, fun e => b.resolve_left fun z => z e, fun e => c.resolve_left fun z => z e, fun e => d.resolve_left fun z => z e⟩
theorem relabel_lookup {scope : Scope} {env : Env} : ∀ {names : List (Str × NameKind)} {x : Str} {k : NameKind},
    (names.map fun (n, k) => if (k == NameKind.free && env.scope.kind == .function && env.kindOf n == some .cell) then (n, NameKind.cell) else (n, k)).lookup x = some k → ∃ k', (x, k') ∈ names ∧ (k = k' ∨ (k = .cell ∧ k' = .free))
  | [], _, _, h => by simp at h
  | (n, k0) :: r, x, k, h => by
    rw [List.map_cons] at h
    by_cases hc : (k0 == NameKind.free && env.scope.kind == .function && env.kindOf n == some .cell) = true
    · simp only [hc, if_true] at h
      cases hx : x == n with
      | true =>
        simp only [List.lookup_cons, hx] at h
        have e : x = n := by simpa using hx
        subst e
        have hk : k0 = .free := by
          simp only [Bool.and_eq_true, beq_iff_eq] at hc
          exact hc.1.1
        exact ⟨k0, List.mem_cons_self, .inr ⟨(Option.some.inj h).symm, hk⟩⟩
      | false =>
        simp only [List.lookup_cons, hx] at h
        obtain ⟨k', m, q⟩ := relabel_lookup (scope := scope) (env := env) h
        exact ⟨k', List.mem_cons_of_mem _ m, q⟩
    · dsimp only at h
      rw [if_neg hc] at h
      cases hx : x == n with
      | true =>
        simp only [List.lookup_cons, hx] at h
        have e : x = n := by simpa using hx
        subst e
        exact ⟨k0, List.mem_cons_self, .inl (Option.some.inj h).symm⟩
      | false =>
        simp only [List.lookup_cons, hx] at h
        obtain ⟨k', m, q⟩ := relabel_lookup (scope := scope) (env := env) h
        exact ⟨k', List.mem_cons_of_mem _ m, q⟩
section
variable {X : Cx} {scope : Scope} {C : Addr} {N' : List Str} {s₂ : Shared} {H₂ : Hp} {fp : List Addr} {pins : List (Addr × Obj)} {σ : St}
theorem cl_cell (I : Inv X pins σ H₂ s₂) (hf : freeOk scope X.env.scope = true) {x : Str} {c : Addr} (h : (clOf X.env scope.names []).lookup x = some c) : X.env.cells.lookup x = some c ∧ (x, NameKind.free) ∈ scope.names := by
  rcases clOf_mem (PySem.mem_of_lookup h) with z | ⟨z1, z2⟩
  · simp at z
  · have q := (hf |> fun h => freeOk.at h z1).2.1 rfl
    obtain ⟨c', e⟩ := I.ok.has x q
    rw [e] at z2
    exact ⟨by rw [e, z2]; rfl, z1⟩
theorem bCx_ok (I : Inv X pins σ H₂ s₂) (hf : freeOk scope X.env.scope = true) (hk : scope.kind = .function) (hC : s₂.heap.objs.size ≤ C) (hfp : ∀ b ∈ fp, FpOk X pins H₂ b) (hfo : ∀ b ∈ fp, ∃ o, s₂.heap.get? b = some o) : (bCx X scope C N' s₂ H₂ fp).Ok where
  mod := I.ok.mod
  kind := hk
  glob := I.ok.glob
  blt := I.ok.blt
  above := hC
  inj := fun x y c h1 h2 => I.ok.inj x y c (cl_cell I hf h1).1 (cl_cell I hf h2).1
  has := fun x h => by
    have h : (relabel scope X.env).names.lookup x = some .cell ∨ (relabel scope X.env).names.lookup x = some .free := h
    have key : (x, NameKind.free) ∈ scope.names := by
      rcases h with h | h
      · obtain ⟨k', m, q⟩ := relabel_lookup (scope := scope) h
        rcases q with q | ⟨_, q⟩
        · subst q
          exact absurd rfl (freeOk.at hf m).1
        · subst q; exact m
      · obtain ⟨k', m, q⟩ := relabel_lookup (scope := scope) h
        rcases q with q | ⟨q, _⟩
        · subst q; exact m
        · cases q
    exact lookup_some_of_mem (clOf_has key)
  cab := fun _ _ h _ => absurd (show false = true from h) Bool.false_ne_true
  hd := I.ok.hd
  frames := I.ok.frames
  stk := .inl rfl
  exf := fun b hb => by
    obtain ⟨o, ho⟩ := hfo b hb
    obtain ⟨f0, f1, f2, f3, f4, f5⟩ := hfp b hb
    refine ⟨Nat.ne_of_lt (Nat.lt_of_lt_of_le (Heap.lt_size ho) hC), fun x c h => ?_⟩
    exact f4 x c (cl_cell I hf h).1
  bs := I.bs
  bsz := Nat.le_trans I.ok.bsz I.sz
  noex := fun b o e hb => by
    obtain ⟨f0, f1, f2, f3, f4, f5⟩ := hfp b hb
    rcases f3 with z | z
    · exact I.ok.noex b o e z
    · exact absurd (Nat.lt_of_lt_of_le (Nat.lt_of_lt_of_le (Heap.lt_size e) I.ok.bsz) z) (Nat.lt_irrefl _)
  exfs := fun b hb z => by
    obtain ⟨f0, f1, f2, f3, f4, f5⟩ := hfp b hb
    rcases List.mem_cons.mp (I.stkSub b z) with e | e
    · exact f1 e
    · exact f2 e
  funs := I.stack
  frf := I.stkFree
end

theorem Inv.less {X : Cx} {pins : List (Addr × Obj)} {σ σ' : St} {H : Hp} {s : Shared} (I : Inv X pins σ H s) (hl : σ'.length = σ.length) (h : ∀ (i : Nat) (v : V), σ'[i]? = some (some v) → σ[i]? = some (some v)) : Inv X pins σ' H s :=
  ⟨I.ok, I.os, I.bare, I.base, (let ⟨m, hn, hv⟩ := I.loc; ⟨m, hn, fun i x v e1 e2 e3 => hv i x v e1 (h i v e2) e3⟩), I.cell, I.free, I.freeC, I.pin, I.hok, hl.trans I.len⟩
def Ext (σ σ' : St) : Prop := σ'.length = σ.length ∧ ∀ (i : Nat) (v : V), σ[i]? = some (some v) → σ'[i]? = some (some v)
theorem Ext.refl (σ : St) : Ext σ σ := ⟨rfl, fun _ _ h => h⟩
theorem Ext.set {σ σ' : St} (h : Ext σ σ') {j : Nat} {w : Option V} (hj : σ[j]? = some none) : Ext σ (σ'.set j w) := by
  refine ⟨by rw [List.length_set]; exact h.1, fun i v e => ?_⟩
  have ne : j ≠ i := by rintro rfl; rw [hj] at e; cases e
  rw [List.getElem?_set_ne ne]
  exact h.2 i v e
theorem blk_len (ix : List (Option Nat)) (σ : St) : (blk ix σ).length = ix.length := by unfold blk; rw [List.length_map]

section
variable {X : Cx} {scope : Scope} {N' : List Str} {ix : List (Option Nat)} {s₂ s₄ : Shared} {H₂ : Hp} {fp : List Addr} {pins : List (Addr × Obj)} {σ : St} {C D : Addr} {h₄ : Heap}
theorem bInv (I : Inv X pins σ H₂ s₂) (hf : freeOk scope X.env.scope = true) (hk : scope.kind = .function) (hx : ixOk X.N N' ix scope = true) (hfp : ∀ b ∈ fp, FpOk X pins H₂ b) (hfo : ∀ b ∈ fp, ∃ o, s₂.heap.get? b = some o)
    (hD : s₂.heap.objs.size ≤ D) (hC : s₂.heap.objs.size ≤ C) (hDC : D ≠ C) (hn : h₄.Ns C (fun _ => none)) (kp : ∀ b o, s₂.heap.get? b = some o → h₄.get? b = some o)
    (hl : h₄.get? D = some { cls := .type "list", data := .seq ([] : List Value).toArray 0 }) (t' : Nat) :
    Inv (bCx X scope C N' s₂ H₂ fp) [] (blk ix σ) (upd H₂ D (.lst [])) { s₂ with heap := h₄, toks := t' } := by
  have hDn : H₂ D = none := I.hok.fresh hD
  have hCn : H₂ C = none := I.hok.fresh hC
  have hok : HOk X.prog X.w (upd H₂ D (.lst [])) h₄ := I.hok.laid kp hD ⟨Nat.zero_le _, [], 0, .nil, hl⟩
  refine ⟨bCx_ok I hf hk hC hfp hfo, rfl, I.bare, Un.laid kp hD hDn, ⟨_, hn, fun i x v e1 e2 e3 => ?_⟩, fun x c e => ?_, ?_, fun x c e => ?_, fun p hp => absurd (show p ∈ ([] : List (Addr × Obj)) from hp) (by simp), hok, ?_⟩
  · have hx1 := hx
    unfold ixOk at hx1
    rw [Bool.and_eq_true] at hx1
    have hlen : N'.length = ix.length := by simpa using hx1.1
    have hi : i < N'.length := (List.getElem?_eq_some_iff.mp e1).1
    unfold blk at e2
    rw [List.getElem?_map] at e2
    cases q : ix[i]? with
    | none => rw [q] at e2; cases e2
    | some o =>
      rw [q] at e2
      cases o with
      | none => cases e2
      | some j =>
        have hz : (x, some j) ∈ N'.zip ix := by
          refine List.mem_of_getElem? (i := i) ?_
          rw [List.getElem?_zip_eq_some]
          exact ⟨e1, q⟩
        have hz' := List.all_eq_true.mp hx1.2 _ hz
        simp only [Bool.and_eq_true, beq_iff_eq] at hz'
        obtain ⟨hNj, hfr⟩ := hz'
        have e2' : (σ[j]?).join = some v := by simpa using e2
        have e4 : σ[j]? = some (some v) := by
          cases z : σ[j]? with
          | none => rw [z] at e2'; cases e2'
          | some y => rw [z] at e2'; exact congrArg some e2'
        have hmem : (x, NameKind.free) ∈ scope.names := PySem.mem_of_lookup hfr
        have hkind := (freeOk.at hf hmem).2.1 rfl
        obtain ⟨m, hnm, hv⟩ := I.loc
        obtain ⟨u, ru, lk⟩ := hv j x v hNj e4 (by rcases hkind with z | z; exact .inr (.inl z); exact .inr (.inr z))
        refine ⟨u, ru, .inr ⟨?_, ?_⟩⟩
        · rcases e3 with z | z | z
          · obtain ⟨k', m', q'⟩ := relabel_lookup (scope := scope) (env := X.env) (show (relabel scope X.env).names.lookup x = some .local from z)
            rcases q' with q' | ⟨q', _⟩
            · subst q'
              have := (freeOk.at hf m').2.2.1 rfl
              rw [hfr] at this; cases this
            · cases q'
          · exact .inl z
          · exact .inr z
        · rcases lk with ⟨l1, _⟩ | ⟨_, c, l2, l3⟩
          · have l1 : X.env.scope.names.lookup x = some .local := l1
            rcases hkind with z | z
            · rw [l1] at z; cases z
            · rw [l1] at z; cases z
          · obtain ⟨c', e5⟩ := lookup_some_of_mem (clOf_has (env := X.env) (cs := []) hmem)
            have e6 := (cl_cell I hf e5).1
            rw [l2] at e6
            have e7 : c = c' := Option.some.inj e6
            subst e7
            exact ⟨c, e5, l3.keeps kp⟩
  · obtain ⟨v, z⟩ := I.cell x c (cl_cell I hf e).1
    exact ⟨v, z.keeps kp⟩
  · show upd H₂ D (.lst []) C = none
    rw [upd_ne (Ne.symm hDC)]
    exact hCn
  · show upd H₂ D (.lst []) c = none
    have e' := (cl_cell I hf e).1
    obtain ⟨v, z⟩ := I.cell x c e'
    have : c ≠ D := Nat.ne_of_lt (Nat.lt_of_lt_of_le z.lt hD)
    rw [upd_ne this]
    exact I.freeC x c e'
  · rw [blk_len]
    have hx1 := hx
    unfold ixOk at hx1
    rw [Bool.and_eq_true] at hx1
    have : N'.length = ix.length := by simpa using hx1.1
    exact this.symm
end

def LcGoal (ix : List (Option Nat)) (J : It) (g : TG) (tt : TT) (te : TE) (σ : St) (H1 : Hp) (Q : VK) (D : Addr) : Prop :=
  ∃ W : Nat → Nat → Hp → Prop, (∃ m, W 0 m (upd H1 D (.lst []))) ∧ ∀ i m H, W i m H →
    (J.stop i H ∧ Q (.ref D) H) ∨ (J.go i H ∧ ∃ N : Hp → Prop, (∀ H', N H' → ∃ m', m' < m ∧ W (i + 1) m' H') ∧ ∀ x H', J.yld i H x H' → g x (blk ix σ) H' fun σ2 H2 => Ext (blk ix σ) σ2 ∧ tt σ2 H2 fun b H3 =>
      if b = true then te σ2 H3 fun y H4 => ∃ ys, H4 D = some (.lst ys) ∧ ys.length < sizeLine ∧ N (upd H4 D (.lst (ys ++ [y]))) else N H3)
def tLc (ix : List (Option Nat)) (wi : TI) (g : TG) (tt : TT) (te : TE) : TE := fun σ H Q => wi σ H fun J H1 => ∀ D, H1 D = none → LcGoal ix J g tt te σ H1 Q D

abbrev BlkR (X : Cx) (scope : Scope) (N' : List Str) (F : Cx → Prop) : Prop := ∀ (C : Addr) (s₂ : Shared) (H₂ : Hp) (fp : List Addr), F (bCx X scope C N' s₂ H₂ fp)
section
variable {X : Cx} {elt target iter : Expr} {ifs : List Expr} {scope : Scope} {pos : Pos} {N' : List Str} {ix : List (Option Nat)} {wi : TI} {g : TG} {tt : TT} {te : TE}

theorem comp_run {pins : List (Addr × Obj)} {σ : St} {s₂ : Shared} {H₂ : Hp} {it : Addr} {fp : List Addr} {tn : Nat → Heap → Prop} {J : It} {QD : Addr → Hp → Prop} {RR : Value → Addr → Result → Shared → Prop} {E : Value → Shared → Prop}
    (hcm : X.calm = true) (hf : freeOk scope X.env.scope = true) (hk : scope.kind = .function) (hx : ixOk X.N N' ix scope = true)
    (hg : BlkR X scope N' fun Y => PG Y target g) (ht : BlkR X scope N' fun Y => PTs Y ifs tt) (he : BlkR X scope N' fun Y => PE Y elt te)
    (I : Inv X pins σ H₂ s₂) (T : Turn X.prog X.w X.K target J fp it tn) (st : tn 0 s₂.heap) (hfp : ∀ b ∈ fp, FpOk X pins H₂ b)
    (hw : ∀ D, H₂ D = none → ∃ W : Nat → Nat → Hp → Prop, (∃ m, W 0 m (upd H₂ D (.lst []))) ∧ ∀ i m H, W i m H →
      (J.stop i H ∧ QD D H) ∨ (J.go i H ∧ ∃ N : Hp → Prop, (∀ H', N H' → ∃ m', m' < m ∧ W (i + 1) m' H') ∧ ∀ x H', J.yld i H x H' → g x (blk ix σ) H' fun σ2 H2 => Ext (blk ix σ) σ2 ∧ tt σ2 H2 fun b H3 =>
        if b = true then te σ2 H3 fun y H4 => ∃ ys, H4 D = some (.lst ys) ∧ ys.length < sizeLine ∧ N (upd H4 D (.lst (ys ++ [y]))) else N H3))
    (hRR : ∀ (D C : Addr) (s' : Shared) (H' : Hp) (m : Str → Option Value), s₂.heap.objs.size ≤ C → H' C = none → C ∉ frs X.stack → s'.heap.Ns C m → (∃ o, s'.heap.get? C = some o ∧ ∀ v, o.data ≠ .cell v) → Inv X pins σ H' s' → QD D H' → RR (.ref D) C (.ok .next) s') :
    wpAny (model X.prog X.w) X.A (newList []) (fun acc s₃ => wpAny (model X.prog X.w) X.A (newFunctionEnv scope X.env.globals (clOf X.env scope.names []) [] X.env.qual none .none (some X.env)) (fun cenv s₄ =>
      codeAny (model X.prog X.w) X.A (.compStart (.ListComp elt [⟨target, iter, ifs, 0⟩] scope pos) 0 (.ref it) acc { cenv with scope := relabel scope X.env }) (RR acc cenv.locals) s₄) E s₃) E s₂ := by
  refine wpAny_newObj_type (wpAny_newFunctionEnv (fun x hx => (freeOk.at hf hx).1) (by intro y hy; simp at hy) (fun h₁ hns₁ hsb₁ => ?_) hk)
  dsimp only at hns₁ hsb₁ ⊢
  generalize hH2 : s₂.heap.push { cls := .type "list", dict := none, data := .seq ([] : List Value).toArray } = P2 at hns₁ hsb₁ ⊢
  have hCs : P2.objs.size = s₂.heap.objs.size + 1 := by rw [← hH2, Heap.size_push]
  have hDC : s₂.heap.objs.size ≠ P2.objs.size := by rw [hCs]; exact Nat.ne_of_lt (Nat.lt_succ_self _)
  have hCle : s₂.heap.objs.size ≤ P2.objs.size := by rw [hCs]; exact Nat.le_succ _
  have old : ∀ b o, s₂.heap.get? b = some o → h₁.get? b = some o := fun b o e => hsb₁.extBut b o (Nat.ne_of_lt (Nat.lt_of_lt_of_le (Heap.lt_size e) hCle)) (Heap.get?_push_of_some _ (hH2 ▸ Heap.get?_push_of_some _ e))
  have hacc : h₁.get? s₂.heap.objs.size = some { cls := .type "list", data := .seq ([] : List Value).toArray 0 } := hsb₁.extBut _ _ hDC (Heap.get?_push_of_some _ (hH2 ▸ Heap.get?_push_size _ rfl))
  have hfo : ∀ b ∈ fp, ∃ o, s₂.heap.get? b = some o := fun b hb => let ⟨o, e, _⟩ := T.obj _ _ st b hb; ⟨o, e⟩
  have hCnone : s₂.heap.get? P2.objs.size = none := Heap.get?_none_of_le hCle
  have hDn : H₂ s₂.heap.objs.size = none := I.hok.fresh (Nat.le_refl _)
  obtain ⟨W, ⟨m0, w0⟩, turn⟩ := hw s₂.heap.objs.size hDn
  have fpD : ∀ b ∈ fp, b ≠ s₂.heap.objs.size := fun b hb => let ⟨o, e⟩ := hfo b hb; Nat.ne_of_lt (Heap.lt_size e)
  have fpC : ∀ b ∈ fp, b ≠ P2.objs.size := fun b hb => let ⟨o, e⟩ := hfo b hb; Nat.ne_of_lt (Nat.lt_of_lt_of_le (Heap.lt_size e) hCle)
  let Y := bCx X scope P2.objs.size N' s₂ H₂ fp
  have hcY : Y.calm = true := hcm
  have I0 : Inv Y [] (blk ix σ) (upd H₂ s₂.heap.objs.size (.lst [])) { s₂ with heap := h₁, toks := s₂.toks + ([] : List (Str × Value)).length } :=
    bInv I hf hk hx hfp hfo (Nat.le_refl _) hCle hDC (by simpa using hns₁) old hacc _
  have nofr : P2.objs.size ∉ frs X.stack := fun z => by
    rcases List.mem_cons.mp (I.stkSub _ z) with e | e
    · exact absurd I.lt (by rw [← e]; exact Nat.not_lt.mpr hCle)
    · exact I.nofs hCle e

  have stat : ∀ {H' : Hp}, (∀ b ∈ fp, H' b = none) → ∀ b ∈ fp, FpOk Y [] H' b := fun hn b hb => by
    obtain ⟨f0, f1, f2, f3, f4, f5⟩ := hfp b hb
    refine ⟨hn b hb, fpC b hb, I0.ok.exfs b hb, .inl hb, (I0.ok.exf b hb).2, fun p hp => absurd (show p ∈ ([] : List (Addr × Obj)) from hp) (by simp)⟩
  have hst₁ : tn 0 h₁ := T.keep _ _ _ st fun b _ o e => old b o e
  have loop : ∀ s₃ : Shared, s₃ = { s₂ with heap := h₁, toks := s₂.toks + ([] : List (Str × Value)).length } →
      codeAny (model X.prog X.w) X.A (.compLoop (.ListComp elt [⟨target, iter, ifs, 0⟩] scope pos) 0 (.ref it) (.ref s₂.heap.objs.size) (compEnvC scope (clOf X.env scope.names []) P2.objs.size X.env))
        (RR (.ref s₂.heap.objs.size) P2.objs.size) s₃ := by
    rintro s₃ rfl
    refine compLoop_any (fun n s' => ∃ i H', Inv Y [] (blk ix σ) H' s' ∧ tn i s'.heap ∧ (∀ b ∈ fp, H' b = none) ∧ W i n H') ?_ m0 ⟨0, _, I0, hst₁, fun b hb => by rw [upd_ne (fpD b hb)]; exact (hfp b hb).1, w0⟩
    rintro n s3 ⟨i, H3, I3, st3, fr3, w3⟩
    rcases turn i n H3 w3 with ⟨stop, qn⟩ | ⟨go, Nn, hNn, step⟩
    · refine thn (T.done Y rfl rfl rfl hcY i [] s3 _ H3 _ I3 (stat fr3) st3 stop) fun r s4 ⟨hr, I4⟩ => ?_
      subst hr
      obtain ⟨m, hn, _⟩ := I4.loc
      refine hRR _ _ s4 H3 m hCle I4.free nofr hn ?_ ?_ qn
      · obtain ⟨o, es, ep, ho, hd, _⟩ := hn
        exact ⟨o, ho, fun v z => by rw [hd] at z; cases z⟩
      · refine I.call' (s' := s4) (ch := fp) I4.os ?_ I4.hok I4.bare fun b hb => ?_
        · exact I4.base
        · obtain ⟨f0, f1, f2, f3, f4, f5⟩ := hfp b hb
          exact ⟨f3, f1, f4, f5⟩
    · refine thn (T.item Y rfl rfl rfl hcY i [] s3 _ H3 _ I3 (stat fr3) st3 go) fun r s4 ⟨u, hr, h4⟩ => ?_
      subst hr
      refine thn h4 fun _ s5 ⟨x, H5, I5, r5, y5, st5, fr5⟩ => ?_
      have I5' := I5.pinned (stat fr5) (T.obj _ _ st5)
      refine thn (hg _ _ _ _ _ s5 _ H5 x u _ I5' r5 (step x H5 y5)) fun _ s6 ⟨σ6, H6, I6, ext, q6⟩ => ?_
      refine thn (ht _ _ _ _ _ s6 σ6 H6 _ I6 q6) fun ok s7 ⟨H7, I7, q7⟩ => ?_
      have again : ∀ {s8 : Shared} {H8 : Hp} {m' : Nat}, Inv Y ([] ++ pinsAt fp s5.heap) σ6 H8 s8 → m' < n → W (i + 1) m' H8 → ∃ m, m < n ∧ ∃ i H', Inv Y [] (blk ix σ) H' s8 ∧ tn i s8.heap ∧ (∀ b ∈ fp, H' b = none) ∧ W i m H' := fun {s8 H8 m'} I8 hm w8 => by
        refine ⟨m', hm, i + 1, H8, (I8.unpinned).less ext.1.symm ext.2, T.keep _ _ _ st5 fun b hb o e => (I8.pin (b, o) (List.mem_append_right _ (List.mem_append_right _ (mem_pinsAt hb e)))).1, fun b hb => ?_, w8⟩
        obtain ⟨o, e, d⟩ := T.obj _ _ st5 b hb
        exact (I8.pin (b, o) (List.mem_append_right _ (List.mem_append_right _ (mem_pinsAt hb e)))).2.1
      cases ok with
      | false =>
        rw [if_neg Bool.false_ne_true] at q7 ⊢
        obtain ⟨m', hm, w8⟩ := hNn _ q7
        exact again I7 hm w8
      | true =>
        rw [if_pos rfl] at q7 ⊢
        refine thn (he _ _ _ _ _ s7 σ6 H7 _ I7 q7) fun y s8 ⟨yv, H8, I8, ry, ys, hD, hz, w9⟩ => ?_
        have ap := (mt_append (X := Y)) (pins := [] ++ pinsAt fp s5.heap) s8 σ6 H8 (.ref s₂.heap.objs.size) [yv] (.ref s₂.heap.objs.size) [y] (fun _ H9 => Nn H9) I8 rfl (.cons ry .nil)
          ⟨_, ys, yv, rfl, rfl, hD, hz, w9⟩
        exact thn ap fun _ s9 ⟨_, H9, I9, _, w10⟩ => let ⟨m', hm, w11⟩ := hNn _ w10; again I9 hm w11
  exact codeAny_compStart_list (loop _ rfl) (T.self _ 0 _ _ _ hst₁ (loop _ rfl))

theorem Inv.letC {pins : List (Addr × Obj)} {σ : St} {H H₂ : Hp} {s s₂ : Shared} {C : Addr} {h' : Heap} (I₂ : Inv X pins σ H₂ s₂) (I : Inv X pins σ H s) (hge : s₂.heap.objs.size ≤ C) (hC : H C = none) (hs : Heap.SameBut C s.heap h') : Inv X pins σ H { s with heap := h' } := by
  refine I.turned (t' := s.toks) (fun b o hb e => (hs.2 b hb).trans e) hC (Nat.ne_of_gt (Nat.lt_of_lt_of_le I₂.lt hge)) (.inr (Nat.le_trans I₂.sz hge)) (fun x c e z => ?_) fun p hp z => ?_
  · obtain ⟨v, q⟩ := I₂.cell x c e
    exact absurd (Nat.lt_of_lt_of_le q.lt (by rw [z]; exact hge)) (Nat.lt_irrefl _)
  · exact absurd (Nat.lt_of_lt_of_le (Heap.lt_size (I₂.pin p hp).1) (by rw [z]; exact hge)) (Nat.lt_irrefl _)

theorem pe_lc (hcm : X.calm = true) (hf : freeOk scope X.env.scope = true) (hk : scope.kind = .function) (hx : ixOk X.N N' ix scope = true)
    (hi : PI X target iter wi) (hg : BlkR X scope N' fun Y => PG Y target g) (ht : BlkR X scope N' fun Y => PTs Y ifs tt) (he : BlkR X scope N' fun Y => PE Y elt te)
    (hs : ∀ x, foldedSetIterable iter X.env x = pure x := by intro _; rfl) : PE X (.ListComp elt [⟨target, iter, ifs, 0⟩] scope pos) (tLc ix wi g tt te) := by
  refine ⟨?_⟩
  intro pins s σ H Q I h
  rw [eval_ListComp]
  have hcl : ∀ x ∈ scope.names, x.2 = .free → ∃ c, X.env.cells.lookup x.1 = some c := fun x hx he => I.ok.has x.1 ((freeOk.at hf hx).2.1 he)
  refine wpAny_comprehension_free (use := none) rfl hs (closureFor_eq hcl) hk (fun x hx he => (freeOk.at hf hx).2.2.1 he) (wpAny_mono (hi pins s σ H _ I h) (fun xv s₁ h₁ => wpAny_mono h₁ (fun itv s₂ h₂ => ?_) fun _ _ e => e) fun _ _ e => e)
  obtain ⟨it, fp, tn, J, H2, e, I2, T, st2, f2, hw⟩ := h₂
  subst e
  refine comp_run (RR := fun acc C => compPost (model X.prog X.w) X.A X.xe none (EP X pins σ Q) acc C) (QD := fun D H' => Q (.ref D) H') hcm hf hk hx hg ht he I2 T st2 f2 hw ?_
  intro D C s' H' m hC hCn hfr hn ho I' q
  exact ⟨m, hn, fun h' hs' => ⟨.ref D, H', I2.letC I' hC hCn hs', rfl, q⟩⟩

theorem ps_setLc {i : Nat} {y : Str} {py spos : Pos} (hN : X.N.Nodup) (hiN : X.N[i]? = some y) (hy : Loc X.env.scope y) (hcm : X.calm = true) (hf : freeOk scope X.env.scope = true) (hk : scope.kind = .function) (hx : ixOk X.N N' ix scope = true)
    (hi : PI X target iter wi) (hg : BlkR X scope N' fun Y => PG Y target g) (ht : BlkR X scope N' fun Y => PTs Y ifs tt) (he : BlkR X scope N' fun Y => PE Y elt te)
    (hsw : swapsWith (.ListComp elt [⟨target, iter, ifs, 0⟩] scope pos) (some (.Name y py)) spos.line X.env = pure true := by rfl)
    (hs : ∀ x, foldedSetIterable iter X.env x = pure x := by intro _; rfl) (hfn : X.fn y = true ∨ X.env.scope.names.lookup y = some .local := by first | exact .inl rfl | exact .inr rfl | assumption) :
    PS X (.Assign [.Name y py] (.ListComp elt [⟨target, iter, ifs, 0⟩] scope pos) spos) (tAsg (tLc ix wi g tt te) (gName i)) := by
  refine ⟨?_⟩
  intro pins s σ H D I h
  rw [exec_Assign_Name_used _ _ _ _ hsw]
  refine wpAny_bind (wpAny_standAt (wpAny_bind ?_))
  show wpAny _ X.A (do let _ ← comprehension (.ListComp elt [⟨target, iter, ifs, 0⟩] scope pos) scope X.env _ (newList []) false (eval iter X.env) (some (assign (.Name y py) X.env))) _ _ s
  have hcl : ∀ x ∈ scope.names, x.2 = .free → ∃ c, X.env.cells.lookup x.1 = some c := fun x hx he => I.ok.has x.1 ((freeOk.at hf hx).2.1 he)
  refine wpAny_bind (wpAny_mono (wpAny_comprehension_free (use := some (assign (.Name y py) X.env)) (Q := fun _ s' => SP X pins D .next s') rfl hs (closureFor_eq hcl) hk (fun x hx he => (freeOk.at hf hx).2.2.1 he)
    (wpAny_mono (hi pins s σ H _ I h) (fun xv s₁ h₁ => wpAny_mono h₁ (fun itv s₂ h₂ => ?_) fun _ _ e => e) fun _ _ e => e)) (fun _ s' hq => wpAny_pure (wpAny_pure hq)) fun _ _ e => e)
  obtain ⟨it, fp, tn, J, H2, e, I2, T, st2, f2, hw⟩ := h₂
  subst e
  refine comp_run (RR := fun acc C => compPost (model X.prog X.w) X.A X.xe (some (assign (.Name y py) X.env)) (fun _ s' => SP X pins D .next s') acc C) (QD := fun D' H' => D.nx (σ.set i (some (.ref D'))) H') hcm hf hk hx hg ht he I2 T st2 f2 hw ?_
  intro D' C s' H' m hC hCn hfr hn ho I' q
  obtain ⟨o, ho, hoc⟩ := ho
  show wpAny _ X.A (assign (.Name y py) X.env (.ref D')) _ _ s'
  have hCL : C ≠ X.env.locals := Nat.ne_of_gt (Nat.lt_of_lt_of_le I2.lt hC)
  have hCf : C ∉ X.fs := I2.nofs hC
  have I'' : Inv X (pins ++ [(C, o)]) σ H' s' := I'.pins_of fun p hp => (List.mem_append.mp hp).elim (fun z => I'.pin p (List.mem_append_right _ z)) fun z => by
    have z' : p = (C, o) := by simpa using z
    subst z'
    exact ⟨ho, hCn, hCL, hCf, hoc⟩
  refine wpAny_assign_Name (store_ok I'' hN hiN hy (v := .ref D') rfl (fun s3 I3 => ?_) hfn)
  obtain ⟨e3, n3, _⟩ := I3.pin (C, o) (List.mem_append_right _ (List.mem_append_right _ (by simp)))
  obtain ⟨o', es, ep, ho', r'⟩ := hn
  rw [ho] at ho'; cases ho'
  have I3' : Inv X pins (σ.set i (some (.ref D'))) H' s3 := I3.unpinned
  refine ⟨m, ⟨o, es, ep, e3, r'⟩, fun h' hs' => ⟨_, H', ?_, q⟩⟩
  refine I3'.turned (t' := s3.toks) (fun b o hb e => (hs'.2 b hb).trans e) n3 hCL (.inr (Nat.le_trans I2.sz hC)) (fun x c e z => ?_) fun p hp z => ?_
  · obtain ⟨v, q⟩ := I2.cell x c e
    exact absurd (Nat.lt_of_lt_of_le q.lt (by rw [z]; exact hC)) (Nat.lt_irrefl _)
  · exact absurd (Nat.lt_of_lt_of_le (Heap.lt_size (I2.pin p hp).1) (by rw [z]; exact hC)) (Nat.lt_irrefl _)
end

def LcN (Pv : Nat → List V → Hp → Prop) (D : Addr) (i : Nat) (H : Hp) : Prop := ∃ zs, H D = some (.lst zs) ∧ zs.length ≤ i + 1 ∧ Pv (i + 1) zs H
theorem lc_put {Pv : Nat → List V → Hp → Prop} {D : Addr} {i n : Nat} {ys : List V} {y : V} {H : Hp} (hD : H D = some (.lst ys)) (hl : ys.length ≤ i) (hi : i < n) (hn : n ≤ sizeLine) (h : Pv (i + 1) (ys ++ [y]) (upd H D (.lst (ys ++ [y])))) :
    ∃ zs, H D = some (.lst zs) ∧ zs.length < sizeLine ∧ LcN Pv D i (upd H D (.lst (zs ++ [y]))) :=
  ⟨ys, hD, by omega, ys ++ [y], upd_same, by rw [List.length_append, List.length_singleton]; omega, h⟩

theorem lc_turns {ix : List (Option Nat)} {J : It} {n : Nat} {g : TG} {tt : TT} {te : TE} {σ : St} {H1 : Hp} {Q : VK} {D : Addr} (Pv : Nat → List V → Hp → Prop) (hn : n ≤ sizeLine) (h0 : Pv 0 [] (upd H1 D (.lst [])))
    (hgo : ∀ i ys H, i < n → Pv i ys H → J.go i H) (hstop : ∀ ys H, Pv n ys H → J.stop n H)
    (hs : ∀ i ys H, i < n → H D = some (.lst ys) → ys.length ≤ i → Pv i ys H → ∀ x H', J.yld i H x H' → g x (blk ix σ) H' fun σ2 H2 => Ext (blk ix σ) σ2 ∧ tt σ2 H2 fun b H3 =>
      if b = true then te σ2 H3 fun y H4 => ∃ zs, H4 D = some (.lst zs) ∧ zs.length < sizeLine ∧ LcN Pv D i (upd H4 D (.lst (zs ++ [y]))) else LcN Pv D i H3)
    (hd : ∀ ys H, H D = some (.lst ys) → ys.length ≤ n → Pv n ys H → Q (.ref D) H) :
    LcGoal ix J g tt te σ H1 Q D := by
  refine ⟨fun i m H => m = n - i ∧ i ≤ n ∧ ∃ ys, H D = some (.lst ys) ∧ ys.length ≤ i ∧ Pv i ys H, ⟨n, by simp, Nat.zero_le _, [], upd_same, Nat.le_refl _, h0⟩, ?_⟩
  rintro i m H ⟨rfl, hi, ys, hD, hl, p⟩
  by_cases hlt : i < n
  · exact .inr ⟨hgo i ys H hlt p, LcN Pv D i, fun H' ⟨zs, a, b, c⟩ => ⟨n - (i + 1), by omega, rfl, hlt, zs, a, b, c⟩, fun x H' y => hs i ys H hlt hD hl p x H' y⟩
  · have e : i = n := by omega
    subst e
    exact .inl ⟨hstop ys H p, hd ys H hD hl p⟩
end L2

set_option Elab.async false
set_option linter.all false
set_option maxRecDepth 100000
set_option maxHeartbeats 4000000
namespace L2
open PySem PySem.Spec PyProof.Rows

section
variable {X : Cx}
def CDiv2 (i j : Int) : Prop := 0 < j ∧ j.natAbs.log2 < 9000
theorem op_fdiv2 : OpR X (binaryOp .FloorDiv) (rI CDiv2 fun i j => .int (i / j)) := opI fun i j _ _ _ _ _ hc q => by
  have h1 : (0 : Int) < j := hc.1
  exact floordiv_int (by omega) (by rw [Int.fdiv_eq_ediv_of_nonneg i (by omega)]; exact q) (.inl (PyProof.noPylong_of_log2 hc.2))

def uAdd : R2 := fun x y H Q => match x, y with
  | .int i, .int j => Q (.int (i + j)) H
  | .str i, .str j => i.length + j.length ≤ sizeLine ∧ Q (.str (i ++ j)) H
  | .ref a, .ref b => ∃ xs zs, H a = some (.lst xs) ∧ H b = some (.lst zs) ∧ xs.length + zs.length ≤ sizeLine ∧ ∀ p, H p = none → Q (.ref p) (upd H p (.lst (xs ++ zs)))
  | _, _ => False
def uI (C : Int → Int → Prop) (g : Int → Int → V) : R2 := fun x y H Q => match x, y with
  | .int i, .int j => C i j ∧ Q (g i j) H
  | _, _ => False
def uI0 (g : Int → Int → V) : R2 := fun x y H Q => match x, y with
  | .int i, .int j => Q (g i j) H
  | _, _ => False
theorem opU {f : Value → Value → Sem Value} {C : Int → Int → Prop} {g : Int → Int → V} (h : OpR X f (rI C g)) : OpR X f (uI C g) := by
  intro pins s σ H x y v u Q I rx ry q
  cases x <;> cases y <;> first
    | exact (show False from q).elim
    | exact h pins s σ H _ _ v u Q I rx ry ⟨_, _, rfl, rfl, q.1, q.2⟩
theorem opU0 {f : Value → Value → Sem Value} {g : Int → Int → V} (h : OpR X f (rI0 g)) : OpR X f (uI0 g) := by
  intro pins s σ H x y v u Q I rx ry q
  cases x <;> cases y <;> first
    | exact (show False from q).elim
    | exact h pins s σ H _ _ v u Q I rx ry ⟨_, _, rfl, rfl, q⟩
theorem op_uSub : OpR X (binaryOp .Sub) (uI0 fun i j => .int (i - j)) := opU0 op_sub
theorem op_uMul : OpR X (binaryOp .Mult) (uI CMul fun i j => .int (i * j)) := opU op_mul
theorem op_uMod : OpR X (binaryOp .Mod) (uI (fun _ j => 0 < j) fun i j => .int (i % j)) := opU op_mod
theorem op_uFdiv : OpR X (binaryOp .FloorDiv) (uI CDiv2 fun i j => .int (i / j)) := opU op_fdiv2
theorem op_uPow : OpR X (binaryOp .Pow) (uI CPow fun i j => .int (i ^ j.toNat)) := opU op_pow
theorem op_uLt : OpR X (compareOp .Lt) (uI0 fun i j => .bl (decide (i < j))) := opU0 op_lt
theorem op_uLe : OpR X (compareOp .LtE) (uI0 fun i j => .bl (decide (i ≤ j))) := opU0 op_le
theorem op_uGt : OpR X (compareOp .Gt) (uI0 fun i j => .bl (decide (j < i))) := opU0 op_gt
theorem op_uGe : OpR X (compareOp .GtE) (uI0 fun i j => .bl (decide (j ≤ i))) := opU0 op_ge

def SameD (K : PySem.W.Frag) (H : Hp) : Nat → V → V → Prop
  | 0, _, _ => False
  | n + 1, x, y => (x = y ∧ flatV x = true) ∨ ∃ a b xs ys, x = .ref a ∧ y = .ref b ∧ ((SqT K H a xs ∧ SqT K H b ys) ∨ (SqL K H a xs ∧ SqL K H b ys)) ∧ xs.length = ys.length ∧ ∀ (i : Nat) u v, xs[i]? = some u → ys[i]? = some v → SameD K H n u v
theorem in1_units (A : Around) : A.in1.units = A.units + 1 := rfl
theorem sameD_at {pins : List (Addr × Obj)} {σ : St} {H : Hp} {s : Shared} (I : Inv X pins σ H s) : ∀ (n : Nat) (A : Around) {x y : V} {u v : Value}, SameD X.K H n x y → A.units + n < cLine → RelV x u → RelV y v → SeqAt.EqAt A s u v true
  | 0, _, _, _, _, _, h, _, _, _ => h.elim
  | n + 1, A, x, y, u, v, h, hu, rx, ry => by
    rcases h with ⟨e, f⟩ | ⟨a, b, xs, ys, ex, ey, hq, hl, hi⟩
    · subst e
      have q := eqAt_V (A := A) (s := s) rx ry f f
      have e2 : eqV x x = true := by cases x <;> first | rfl | exact absurd (show false = true from f) Bool.false_ne_true | simp [eqV]
      rw [e2] at q
      exact q
    · subst ex ey
      cases rx
      cases ry
      by_cases hab : a = b
      · subst hab; exact SeqAt.EqAt.same _
      rcases hq with ⟨h1, h2⟩ | ⟨h1, h2⟩
      · obtain ⟨its, r1, p1, z1⟩ := I.tuple h1
        obtain ⟨its2, r2, p2, z2⟩ := I.tuple h2
        have l1 := r1.length
        have l2 := r2.length
        have sz : its.toArray.size = its2.toArray.size := by simp; omega
        have key := SeqAt.RcAt.tuples (A := A) (e := fun _ => true) (show s.heap.IsTuple a its.toArray from p1) (show s.heap.IsTuple b its2.toArray from p2) (by omega) fun j hj1 hj2 => by
          have hj1' : j < its.length := by simpa using hj1
          have hj2' : j < its2.length := by simpa using hj2
          obtain ⟨u', e1, ru⟩ := r1.get (i := j) (x := xs[j]'(by omega)) (by simp)
          obtain ⟨v', e2, rv⟩ := r2.get (i := j) (x := ys[j]'(by omega)) (by simp)
          have f1 : its.toArray[j] = u' := by
            have := List.getElem?_eq_getElem hj1'
            rw [this] at e1
            simpa using Option.some.inj e1
          have f2 : its2.toArray[j] = v' := by
            have := List.getElem?_eq_getElem hj2'
            rw [this] at e2
            simpa using Option.some.inj e2
          rw [f1, f2]
          exact sameD_at I n A.in1 (hi j _ _ (by simp) (by simp)) (by rw [in1_units]; omega) ru rv
        have key2 : SeqAt.RcAt A s (.ref a) (.ref b) true := by
          have : ((List.range (min its.toArray.size its2.toArray.size)).all (fun _ => true) && its.toArray.size == its2.toArray.size) = true := by
            rw [sz]; simp
          rw [this] at key
          exact key
        exact SeqAt.EqAt.of_refs hab key2
      · obtain ⟨its, r1, p1, z1⟩ := I.list h1
        obtain ⟨its2, r2, p2, z2⟩ := I.list h2
        have l1 := r1.length
        have l2 := r2.length
        have sz : its.toArray.size = its2.toArray.size := by simp; omega
        have key := SeqAt.RcAt.lists (A := A) (e := fun _ => true) p1.isList p2.isList sz (by omega) fun j hj1 hj2 => by
          have hj1' : j < its.length := by simpa using hj1
          have hj2' : j < its2.length := by simpa using hj2
          obtain ⟨u', e1, ru⟩ := r1.get (i := j) (x := xs[j]'(by omega)) (by simp)
          obtain ⟨v', e2, rv⟩ := r2.get (i := j) (x := ys[j]'(by omega)) (by simp)
          have f1 : its.toArray[j] = u' := by
            have := List.getElem?_eq_getElem hj1'
            rw [this] at e1
            simpa using Option.some.inj e1
          have f2 : its2.toArray[j] = v' := by
            have := List.getElem?_eq_getElem hj2'
            rw [this] at e2
            simpa using Option.some.inj e2
          rw [f1, f2]
          exact sameD_at I n A.in1 (hi j _ _ (by simp) (by simp)) (by rw [in1_units]; omega) ru rv
        have key2 : SeqAt.RcAt A s (.ref a) (.ref b) true := by
          have : ((List.range its.toArray.size).all (fun _ => true)) = true := by simp
          rw [this] at key
          exact key
        exact SeqAt.EqAt.of_refs hab key2
end
end L2

set_option Elab.async false
set_option linter.all false
set_option maxRecDepth 100000
set_option maxHeartbeats 4000000
namespace L2
open PySem PySem.Spec PyProof.Rows
section
variable {X : Cx}

theorem seq_rc {pins : List (Addr × Obj)} {σ : St} {H : Hp} {s : Shared} (I : Inv X pins σ H s) {A : Around} {n : Nat} {a b : Addr} (h : SameD X.K H (n + 1) (.ref a) (.ref b)) (hu : A.units + n + 1 < cLine) :
    SeqAt.RcAt A s (.ref a) (.ref b) true ∧ SeqAt.RcNeAt A s (.ref a) (.ref b) false := by
  rcases h with ⟨e, f⟩ | ⟨a', b', xs, ys, ex, ey, hq, hl, hi⟩
  · exact absurd (show false = true from f) Bool.false_ne_true
  · cases ex
    cases ey
    rcases hq with ⟨h1, h2⟩ | ⟨h1, h2⟩
    · obtain ⟨its, r1, p1, z1⟩ := I.tuple h1
      obtain ⟨its2, r2, p2, z2⟩ := I.tuple h2
      have l1 := r1.length
      have l2 := r2.length
      have sz : its.toArray.size = its2.toArray.size := by simp; omega
      have items : ∀ j (h1 : j < its.toArray.size) (h2 : j < its2.toArray.size), SeqAt.EqAt A.in1 s its.toArray[j] its2.toArray[j] ((fun _ => true) j) := fun j hj1 hj2 => by
        have hj1' : j < its.length := by simpa using hj1
        have hj2' : j < its2.length := by simpa using hj2
        obtain ⟨u', e1, ru⟩ := r1.get (i := j) (x := xs[j]'(by omega)) (by simp)
        obtain ⟨v', e2, rv⟩ := r2.get (i := j) (x := ys[j]'(by omega)) (by simp)
        have f1 : its.toArray[j] = u' := by
          have := List.getElem?_eq_getElem hj1'
          rw [this] at e1
          simpa using Option.some.inj e1
        have f2 : its2.toArray[j] = v' := by
          have := List.getElem?_eq_getElem hj2'
          rw [this] at e2
          simpa using Option.some.inj e2
        rw [f1, f2]
        exact sameD_at I n A.in1 (hi j _ _ (by simp) (by simp)) (by rw [in1_units]; omega) ru rv
      have e : ((List.range (min its.toArray.size its2.toArray.size)).all (fun _ => true) && its.toArray.size == its2.toArray.size) = true := by
        rw [sz]; simp
      have k1 := SeqAt.RcAt.tuples (A := A) (show s.heap.IsTuple a its.toArray from p1) (show s.heap.IsTuple b its2.toArray from p2) (by omega) items
      have k2 := SeqAt.RcNeAt.tuples (A := A) (show s.heap.IsTuple a its.toArray from p1) (show s.heap.IsTuple b its2.toArray from p2) (by omega) items
      rw [e] at k1 k2
      exact ⟨k1, k2⟩
    · obtain ⟨its, r1, p1, z1⟩ := I.list h1
      obtain ⟨its2, r2, p2, z2⟩ := I.list h2
      have l1 := r1.length
      have l2 := r2.length
      have sz : its.toArray.size = its2.toArray.size := by simp; omega
      have items : ∀ j (h1 : j < its.toArray.size) (h2 : j < its2.toArray.size), SeqAt.EqAt A.in1 s its.toArray[j] its2.toArray[j] ((fun _ => true) j) := fun j hj1 hj2 => by
        have hj1' : j < its.length := by simpa using hj1
        have hj2' : j < its2.length := by simpa using hj2
        obtain ⟨u', e1, ru⟩ := r1.get (i := j) (x := xs[j]'(by omega)) (by simp)
        obtain ⟨v', e2, rv⟩ := r2.get (i := j) (x := ys[j]'(by omega)) (by simp)
        have f1 : its.toArray[j] = u' := by
          have := List.getElem?_eq_getElem hj1'
          rw [this] at e1
          simpa using Option.some.inj e1
        have f2 : its2.toArray[j] = v' := by
          have := List.getElem?_eq_getElem hj2'
          rw [this] at e2
          simpa using Option.some.inj e2
        rw [f1, f2]
        exact sameD_at I n A.in1 (hi j _ _ (by simp) (by simp)) (by rw [in1_units]; omega) ru rv
      have e : (List.range its.toArray.size).all (fun _ => true) = true := by simp
      have k1 := SeqAt.RcAt.lists (A := A) p1.isList p2.isList sz (by omega) items
      have k2 := SeqAt.RcNeAt.lists (A := A) p1.isList p2.isList sz (by omega) items
      rw [e] at k1 k2
      exact ⟨k1, k2⟩

def DiffL (K : PySem.W.Frag) (H : Hp) (a b : Addr) : Prop := ∃ xs ys, xs.length ≠ ys.length ∧ ((SqL K H a xs ∧ SqL K H b ys) ∨ (SqT K H a xs ∧ SqT K H b ys ∧ (xs = [] ∨ ys = [])))
theorem diff_rc {pins : List (Addr × Obj)} {σ : St} {H : Hp} {s : Shared} (I : Inv X pins σ H s) {A : Around} {a b : Addr} (h : DiffL X.K H a b) (hu : A.units < cLine) :
    SeqAt.RcAt A s (.ref a) (.ref b) false ∧ SeqAt.RcNeAt A s (.ref a) (.ref b) true := by
  obtain ⟨xs, ys, hne, ⟨h1, h2⟩ | ⟨h1, h2, h3⟩⟩ := h
  · obtain ⟨its, r1, p1, z1⟩ := I.list h1
    obtain ⟨its2, r2, p2, z2⟩ := I.list h2
    have l1 := r1.length
    have l2 := r2.length
    have hb : (its.toArray.size != its2.toArray.size) = true := by simp; omega
    exact ⟨SeqAt.RcAt.lists_lengths p1.isList p2.isList hb hu, SeqAt.RcNeAt.lists_lengths p1.isList p2.isList hb hu⟩
  · obtain ⟨its, r1, p1, z1⟩ := I.tuple h1
    obtain ⟨its2, r2, p2, z2⟩ := I.tuple h2
    have l1 := r1.length
    have l2 := r2.length
    have items : ∀ j (h1 : j < its.toArray.size) (h2 : j < its2.toArray.size), SeqAt.EqAt A.in1 s its.toArray[j] its2.toArray[j] ((fun _ => true) j) := fun j hj1 hj2 => by
      exfalso
      have hj1' : j < its.length := by simpa using hj1
      have hj2' : j < its2.length := by simpa using hj2
      rcases h3 with e | e
      · subst e; simp at l1; omega
      · subst e; simp at l2; omega
    have e : ((List.range (min its.toArray.size its2.toArray.size)).all (fun _ => true) && its.toArray.size == its2.toArray.size) = false := by
      have : its.toArray.size ≠ its2.toArray.size := by simp; omega
      rw [Bool.and_eq_false_iff]
      exact .inr (beq_eq_false_iff_ne.mpr this)
    have k1 := SeqAt.RcAt.tuples (A := A) (show s.heap.IsTuple a its.toArray from p1) (show s.heap.IsTuple b its2.toArray from p2) hu items
    have k2 := SeqAt.RcNeAt.tuples (A := A) (show s.heap.IsTuple a its.toArray from p1) (show s.heap.IsTuple b its2.toArray from p2) hu items
    rw [e] at k1 k2
    exact ⟨k1, k2⟩
def uEq (K : PySem.W.Frag) : R2 := fun x y H Q => match x, y with
  | .ref a, .ref b => (SameD K H 20 (.ref a) (.ref b) ∧ Q (.bl true) H) ∨ (DiffL K H a b ∧ Q (.bl false) H)
  | x, y => scal x y = true ∧ Q (.bl (decide (x = y))) H
def uNe (K : PySem.W.Frag) : R2 := fun x y H Q => match x, y with
  | .ref a, .ref b => (SameD K H 20 (.ref a) (.ref b) ∧ Q (.bl false) H) ∨ (DiffL K H a b ∧ Q (.bl true) H)
  | x, y => scal x y = true ∧ Q (.bl (!decide (x = y))) H
theorem op_uEq (hu : X.A.units + 64 < cLine) : OpR X (compareOp .Eq) (uEq X.K) := by
  intro pins s σ H x y v u Q I rx ry h
  cases x <;> cases y <;> first
    | exact op_eq pins s σ H _ _ v u Q I rx ry h
    | (cases rx; cases ry
       rcases h with ⟨h1, q⟩ | ⟨h1, q⟩
       · exact (seq_rc I (A := X.A) h1 (by omega)).1 X.prog X.w X.xe _ ⟨.bl true, H, I, rfl, q⟩
       · exact (diff_rc I (A := X.A) h1 (by omega)).1 X.prog X.w X.xe _ ⟨.bl false, H, I, rfl, q⟩)
theorem op_uNe (hu : X.A.units + 64 < cLine) : OpR X (compareOp .NotEq) (uNe X.K) := by
  intro pins s σ H x y v u Q I rx ry h
  cases x <;> cases y <;> first
    | exact op_ne pins s σ H _ _ v u Q I rx ry h
    | (cases rx; cases ry
       rcases h with ⟨h1, q⟩ | ⟨h1, q⟩
       · exact (seq_rc I (A := X.A) h1 (by omega)).2 X.prog X.w X.xe _ ⟨.bl false, H, I, rfl, q⟩
       · exact (diff_rc I (A := X.A) h1 (by omega)).2 X.prog X.w X.xe _ ⟨.bl true, H, I, rfl, q⟩)

def uIs (g : Bool → Bool) : R2 := fun x y H Q => match x, y with
  | .bl c, .bl d => Q (.bl (g (c == d))) H
  | x, .non => Q (.bl (g (decide (x = .non)))) H
  | _, _ => False
theorem op_uIs : OpR X (compareOp .Is) (uIs id) := by
  intro pins s σ H x y v u Q I rx ry h
  cases x <;> cases y <;> first
    | exact (show False from h).elim
    | exact op_isN pins s σ H _ _ v u Q I rx ry ⟨rfl, h⟩
    | (cases rx; cases ry; exact is_bool ⟨.bl _, H, I, rfl, h⟩)
theorem op_uIsNot : OpR X (compareOp .IsNot) (uIs not) := by
  intro pins s σ H x y v u Q I rx ry h
  cases x <;> cases y <;> first
    | exact (show False from h).elim
    | exact op_notN pins s σ H _ _ v u Q I rx ry ⟨rfl, h⟩
    | (cases rx; cases ry; exact isnot_bool ⟨.bl _, H, I, rfl, h⟩)

def uIn (K : PySem.W.Frag) (neg : Bool) : R2 := fun x y H Q => match y with
  | .ref p => ∃ xs, (SqL K H p xs ∨ SqT K H p xs) ∧ flatV x = true ∧ xs.all flatV = true ∧ Q (.bl (if neg then !inV x xs else inV x xs)) H
  | _ => False
theorem op_uIn : OpR X (compareOp .In) (uIn X.K false) := by
  intro pins s σ H x y v u Q I rx ry h
  cases y <;> first
    | exact (show False from h).elim
    | (obtain ⟨xs, h1, h2, h3, h4⟩ := h; exact op_in_seq pins s σ H _ _ v u Q I rx ry ⟨_, xs, rfl, h1, h2, h3, h4⟩)
def uIsi (K : PySem.W.Frag) : List V → Hp → VK → Prop := fun xs H Q => match xs with
  | [x, .ty n] => ∃ t b, TyOf K H x t ∧ PySem.W.kitOne K t (.type n) = some b ∧ Q (.bl b) H
  | _ => False
def iSeq (K : PySem.W.Frag) (tl : TE) : TI := fun σ H R => tl σ H fun x H1 => match x with
  | .ref a => ((∃ xs, SqL K H1 a xs) ∧ R (Itl K a) H1) ∨ ((∃ xs, SqT K H1 a xs) ∧ R (Itt K a) H1)
  | _ => False
theorem pi_seq {tg l : Expr} {tl : TE} (hl : PE X l tl) : PI X tg l (iSeq X.K tl) := by
  refine ⟨?_⟩
  intro pins s σ H R I h
  refine thn (hl pins s σ H _ I h) fun v s1 ⟨x, H1, I1, r1, q1⟩ => ?_
  cases x <;> first
    | exact (show False from q1).elim
    | (rename_i a; cases r1
       rcases q1 with ⟨⟨xs, hq⟩, q⟩ | ⟨⟨xs, hq⟩, q⟩
       · obtain ⟨its, rv, p, hz⟩ := I1.list hq
         refine wpAny_pyIter_list p.isList ?_
         refine ⟨s1.heap.objs.size, [s1.heap.objs.size], _, _, H1, rfl, I1.kept (t' := s1.toks) fun b o e => Heap.get?_push_of_some _ e, turn_list a _, ⟨_, Heap.get?_push_size _ rfl, rfl, rfl⟩, fun b hb => ?_, q⟩
         have e : b = s1.heap.objs.size := by simpa using hb
         subst e
         exact I1.fpOk (Nat.le_refl _) (I1.hok.fresh (Nat.le_refl _))
       · obtain ⟨its, rv, p, hz⟩ := I1.tuple hq
         refine wpAny_pyIter_tuple (show s1.heap.IsTuple a its.toArray from p) ?_
         refine ⟨s1.heap.objs.size, [s1.heap.objs.size], _, _, H1, rfl, I1.kept (t' := s1.toks) fun b o e => Heap.get?_push_of_some _ e, turn_tuple a _, ⟨_, Heap.get?_push_size _ rfl, rfl, rfl⟩, fun b hb => ?_, q⟩
         have e : b = s1.heap.objs.size := by simpa using hb
         subst e
         exact I1.fpOk (Nat.le_refl _) (I1.hok.fresh (Nat.le_refl _)))

def Its (lo st : Int) (n : Nat) : It := ⟨fun i _ => i < n, fun i H x H' => H' = H ∧ x = .int (lo + i * st), fun i _ => n ≤ i⟩
theorem turn_step {P : Program} {w : World} {K : PySem.W.Frag} {tg : Expr} (it : Addr) (lo st : Int) (n : Nat) : Turn P w K tg (Its lo st n) [it] it (fun i h => IsRangeIter h it (lo + (i : Nat) * st) ((n : Int) - (i : Nat)) st) where
  mem := by simp
  obj := fun i h st b hb => by
    have e : b = it := by simpa using hb
    subst e
    exact ⟨_, st, fun v z => by
      have z' : Data.fields _ = Data.cell v := z
      cases z'⟩
  keep := fun i h h' st k => k it (by simp) _ st
  item := by
    intro X hP hw hK hc i pins s σ H E I hf stt hg
    subst hP hw hK
    obtain ⟨f0, f1, f2, f3, f4, f5⟩ := hf it (by simp)
    have W := Walks.range (prog := X.prog) (w := X.w) (I.ok.hd hc) it lo st n
    refine W.item i s _ _ hg stt fun v h' tk hv st' kk => ?_
    obtain ⟨t, rfl⟩ := hv
    have I1 : Inv X pins σ H { s with heap := h', toks := tk } := I.turned (fun b o hb e => kk b o (by simpa using hb) e) f0 f1 f3 f4 f5
    exact ⟨_, rfl, go_of (s := { s with heap := h', toks := tk }) (n := "range_iterator") st' rfl rfl (by decide) ⟨.int (lo + i * st), H, I1, ⟨t, rfl⟩, ⟨rfl, rfl⟩, st', fun b hb => (hf b hb).1⟩⟩
  done := by
    intro X hP hw hK hc i pins s σ H E I hf stt hg
    subst hP hw hK
    obtain ⟨f0, f1, f2, f3, f4, f5⟩ := hf it (by simp)
    exact wpAny_pyNext_range_end (I.ok.hd hc) stt (by have : n ≤ i := hg; omega) fun h' eb => ⟨rfl, I.turned (t' := s.toks) (fun b o hb e => eb b o hb e) f0 f1 f3 f4 f5⟩
  self := fun _ _ _ _ _ st h => wpAny_pyIter_rangeiter st h
def iRng3 (ta : TA) : TI := fun σ H R => ta σ H fun vs H1 => match vs with
  | [.int i, .int j, .int k] => Builtin.Range.small i j k = true ∧ 0 < k ∧ k < 1000 ∧ R (Its i k (Builtin.Range.rangeSize i j k).toNat) H1
  | _ => False
theorem pi_range3 {tg a b c : Expr} {ta : TA} {p pos : Pos} (hg : Gl X "range") (hm : X.mg "range" = none) (ha : PA X [a, b, c] ta) (hs : starEach [a, b, c] X.env = [(false, eval a X.env), (false, eval b X.env), (false, eval c X.env)] := by rfl) (hs2 : starEach [b, c] X.env = [(false, eval b X.env), (false, eval c X.env)] := by rfl) :
    PI X tg (.Call (.Name "range" p) [a, b, c] [] pos) (iRng3 ta) := by
  refine ⟨?_⟩
  intro pins s σ H R I h
  refine Call_ (ld_blt I hg hm boot_range (PyProof.Rows.callWith_type1 (thn (ha pos pins s σ H _ I h) fun us s1 ⟨vs, H1, I1, r1, q1⟩ => ?_) (by rw [hs, hs2]) (by rw [hs2]; rfl)))
  match vs, r1, q1 with
  | [.int i, .int j, .int k], r1, q1 =>
    obtain ⟨q1, q2, q3, q⟩ := q1
    cases r1 with
    | cons r rr =>
      cases rr with
      | cons r' rr =>
        cases rr with
        | cons r'' rr =>
          cases rr
          obtain ⟨t, rfl⟩ := r
          obtain ⟨t', rfl⟩ := r'
          obtain ⟨t'', rfl⟩ := r''
          refine call_range_3 (by omega) ?_ (.inl (PyProof.noPylong_small (by omega)))
          refine wpAny_pyIter_range (IsRange.new ..) q1 ?_
          generalize hh : s1.heap.push { cls := .type "range", data := .fields #[.int i t, .int j t', .int k t''] } = h1
          have I2 : Inv X pins σ H1 { s1 with heap := h1 } := I1.kept (t' := s1.toks) fun b o e => by rw [← hh]; exact Heap.get?_push_of_some _ e
          refine ⟨h1.objs.size, [h1.objs.size], _, _, H1, rfl, I2.kept (t' := s1.toks) fun b o e => Heap.get?_push_of_some _ e, turn_step _ i k (Builtin.Range.rangeSize i j k).toNat, ?_, fun b hb => ?_, q⟩
          · have e1 : i + ((0 : Nat) : Int) * k = i := by simp
            have e2 : (((Builtin.Range.rangeSize i j k).toNat : Nat) : Int) - ((0 : Nat) : Int) = Builtin.Range.rangeSize i j k := by
              have := rangeSize_toNat i j k
              simp only [Int.sub_zero, Int.natCast_zero]
              exact this.symm
            show IsRangeIter _ _ (i + ((0 : Nat) : Int) * k) ((((Builtin.Range.rangeSize i j k).toNat : Nat) : Int) - ((0 : Nat) : Int)) k
            rw [e1, e2]
            exact Heap.get?_push_size _ rfl
          · have e : b = h1.objs.size := by simpa using hb
            subst e
            exact I2.fpOk (Nat.le_refl _) (I2.hok.fresh (Nat.le_refl _))
end

structure Def (P : Program) (w : World) (K : PySem.W.Frag) (mg : Str → Option Value) (base : Heap) (x : Str) (k : Nat) (ps : List Str) (sp : Sp) : Prop where
  ex : ∃ f fd, FnOk P w K mg base CX0 k f fd ps sp ∧ mg x = some (.ref f) ∧ PySem.W.keepIn K (.ref f) = true ∧ Binds K fd ps []

structure Top1 (K : PySem.W.Frag) (mg : Str → Option Value) (x qual : Str) (st : Stmt) (ps : List Str) : Prop where
  ex : ∃ f fd, Fun K x qual st f fd ∧ mg x = some (.ref f) ∧ Binds K fd ps []
section
variable {P : Program} {w : World} {K : PySem.W.Frag} {mg : Str → Option Value} {base : Heap}
theorem Top1.ok {x qual : Str} {st : Stmt} {N ps : List Str} {k : Nat} {sp : Sp} (T : Top1 K mg x qual st ps) (S : FnScope N ps (defScope st)) (len : ∀ vs H Q E, sp vs H Q E → vs.length = ps.length)
    (hbody : ∀ (f : Addr) (cdv : Value) (A : Around) (outer : List Env) (s : Shared) (H : Hp) (vs : List V) (Q : VK) (E : XK), Room k (A.deeper (envOfC qual (defScope st) s.heap.objs.size f cdv)) → sp vs H Q E →
      ∃ t, PSs (cxOf CX0 P w K mg base N qual (defScope st) f cdv A outer s H E).nox (defBody st) t ∧ t { nx := fun _ H' => Q .non H', rt := Q } (start N vs) H) : Def P w K mg base x (k + 1) ps sp := by
  obtain ⟨f, fd, F, hm, hb⟩ := T.ex
  exact ⟨f, fd, F.ok S len (hbody f), hm, F.kp, hb⟩
end

theorem pe_cd {X : Cx} {k j : Nat} {ps : List Str} {sp : Sp} {x : Str} {p pos : Pos} {e : Expr} {es : List Expr} {t : TA} (D : Def X.prog X.w X.K X.mg X.base x k ps sp) (hr : Room j X.A) (ha : PA X (e :: es) t) (hg : Gl X x := by rfl) (hj : k ≤ j := by decide)
    (hdb : (x == ("__debug__" : Str)) = false := by decide) (he : starEach (e :: es) X.env = (false, eval e X.env) :: starEach es X.env := by rfl) (hpl : (backTo pos (starEach es X.env)).any (·.1) = false := by rfl) :
    PE X (.Call (.Name x p) (e :: es) [] pos) (tCall sp [] E0 t) := by
  obtain ⟨f, fd, F, hm, hk, hb⟩ := D.ex
  exact pe_call F (hr.mono hj) hg hm hk hb .nil pass0 ha hdb he hpl
end L2

set_option Elab.async false
set_option linter.all false
set_option maxRecDepth 100000
set_option maxHeartbeats 4000000
namespace L2
open PySem PySem.Spec PyProof.Rows
section
variable {X : Cx}
def uIx (K : PySem.W.Frag) : R2 := fun x y H Q => match x, y with
  | .str z, .int i => ∃ c, z.length ≤ sizeLine ∧ atI z.cps.toList i = some c ∧ Q (.str ⟨#[c]⟩) H
  | .ref p, .int i => ∃ xs v, (SqL K H p xs ∨ SqT K H p xs) ∧ atI xs i = some v ∧ Q v H
  | .ref p, .str k => ∃ v, DGet H p (.str k) (some v) ∧ Q v H
  | _, _ => False
theorem ix_u (hu : X.A.units + 64 < cLine) : IxR X (uIx X.K) := by
  intro value slice pins s σ H x y v u Q I rx ry h hs
  cases x <;> cases y <;> first
    | exact (show False from h).elim
    | (obtain ⟨c, h1, h2, h3⟩ := h; exact ix_str value slice pins s σ H _ _ v u Q I rx ry ⟨_, _, c, rfl, rfl, h1, h2, h3⟩ hs)
    | (obtain ⟨xs, w', h1 | h1, h2, h3⟩ := h
       · exact ix_list value slice pins s σ H _ _ v u Q I rx ry ⟨_, xs, _, w', rfl, rfl, h1, h2, h3⟩ hs
       · exact ix_tup value slice pins s σ H _ _ v u Q I rx ry ⟨_, xs, _, w', rfl, rfl, h1, h2, h3⟩ hs)
    | (obtain ⟨w', g, h3⟩ := h
       cases rx
       exact tail_any (dict_typeIs I g) PySem.F.slot_dict_getitem.lookup (d_getItem (by omega) I g ry fun w2 s3 I3 rw' => ⟨w', H, I3, rw', h3⟩) hs)
end

inductive DV where
  | non | bl (b : Bool) | int (i : Int) | str (x : Str) | tup (ds : List DV) | lst (ds : List DV) | dict
inductive HD (H : Hp) : Nat → V → DV → Prop
  | non {n} : HD H n .non .non
  | bl {n} (b : Bool) : HD H n (.bl b) (.bl b)
  | int {n} (i : Int) : HD H n (.int i) (.int i)
  | str {n} (x : Str) : HD H n (.str x) (.str x)
  | tup {n a xs ds} : H a = some (.tup xs) → xs.length = ds.length → (∀ (i : Nat) u e, xs[i]? = some u → ds[i]? = some e → HD H n u e) → HD H (n + 1) (.ref a) (.tup ds)
  | lst {n a xs ds} : H a = some (.lst xs) → xs.length = ds.length → (∀ (i : Nat) u e, xs[i]? = some u → ds[i]? = some e → HD H n u e) → HD H (n + 1) (.ref a) (.lst ds)
  | dict {n a kvs} : H a = some (.dK kvs) → HD H n (.ref a) .dict
theorem HD.same {H H' : Hp} (s : Same H H') {n : Nat} {x : V} {d : DV} (h : HD H n x d) : HD H' n x d := by
  induction h with
  | non => exact .non
  | bl b => exact .bl b
  | int i => exact .int i
  | str x => exact .str x
  | tup a b c ih => exact .tup (s _ _ a) b ih
  | lst a b c ih => exact .lst (s _ _ a) b ih
  | dict a => exact .dict (s _ _ a)
inductive HT (H : Hp) : Nat → V → DV → Prop
  | non {n} : HT H n .non .non
  | bl {n} (b : Bool) : HT H n (.bl b) (.bl b)
  | int {n} (i : Int) : HT H n (.int i) (.int i)
  | str {n} (x : Str) : HT H n (.str x) (.str x)
  | tup {n a xs ds} : H a = some (.tup xs) → xs.length = ds.length → (∀ (i : Nat) u e, xs[i]? = some u → ds[i]? = some e → HT H n u e) → HT H (n + 1) (.ref a) (.tup ds)
theorem HT.hd {H : Hp} {n : Nat} {x : V} {d : DV} (h : HT H n x d) : HD H n x d := by
  induction h with
  | non => exact .non
  | bl b => exact .bl b
  | int i => exact .int i
  | str x => exact .str x
  | tup a b c ih => exact .tup a b ih

def Tups (H H' : Hp) : Prop := ∀ b xs, H b = some (.tup xs) → H' b = some (.tup xs)
theorem Same.tups {H H' : Hp} (h : Same H H') : Tups H H' := fun b xs e => h b _ e
theorem Tups.refl (H : Hp) : Tups H H := fun _ _ h => h
theorem Tups.trans {H H1 H2 : Hp} (a : Tups H H1) (b : Tups H1 H2) : Tups H H2 := fun c o h => b c o (a c o h)
theorem Tups.upd {H H' : Hp} (h : Tups H H') {p : Addr} {o : HO} (hp : ∀ xs, H' p ≠ some (.tup xs)) : Tups H (upd H' p o) := fun b xs e => by
  have e' := h b xs e
  have : b ≠ p := fun z => by subst z; exact hp xs e'
  rw [upd_ne this]; exact e'
theorem HT.stay {H H' : Hp} (s : Tups H H') {n : Nat} {x : V} {d : DV} (h : HT H n x d) : HT H' n x d := by
  induction h with
  | non => exact .non
  | bl b => exact .bl b
  | int i => exact .int i
  | str x => exact .str x
  | tup a b c ih => exact .tup (s _ _ a) b ih

theorem Same.new {H : Hp} {p : Addr} (o : HO) (hn : H p = none) : Same H (upd H p o) := fun b u e => by rw [upd_ne (ne_of_none e hn)]; exact e

def PotAt (H : Hp) (p : Addr) : Prop := ∃ a b, H p = some (.lst [.int a, .int b])
structure Step (p : Addr) (H H' : Hp) : Prop where
  pot : PotAt H' p
  rest : ∀ b o, H b = some o → b ≠ p → H' b = some o
theorem Step.refl {p : Addr} {H : Hp} (h : PotAt H p) : Step p H H := ⟨h, fun _ _ e _ => e⟩
theorem Step.trans {p : Addr} {H H1 H2 : Hp} (a : Step p H H1) (b : Step p H1 H2) : Step p H H2 := ⟨b.pot, fun c o e n => b.rest c o (a.rest c o e n) n⟩
theorem Step.same {p : Addr} {H H1 H2 : Hp} (a : Step p H H1) (b : Same H1 H2) : Step p H H2 :=
  ⟨let ⟨x, y, e⟩ := a.pot; ⟨x, y, b _ _ e⟩, fun c o e n => b c o (a.rest c o e n)⟩
theorem Step.set {p : Addr} {H H1 : Hp} (a : Step p H H1) (x y : Int) : Step p H (upd H1 p (.lst [.int x, .int y])) :=
  ⟨⟨x, y, upd_same⟩, fun c o e n => by rw [upd_ne n]; exact a.rest c o e n⟩
theorem Step.new {p q : Addr} {H H1 : Hp} (a : Step p H H1) {o : HO} (hn : H1 q = none) : Step p H (upd H1 q o) := a.same (Same.new o hn)
theorem Step.tups {p : Addr} {H H1 : Hp} (a : Step p H H1) (hp : PotAt H p) : Tups H H1 := fun b xs e => a.rest b _ e fun z => by
  subst z
  obtain ⟨_, _, h⟩ := hp
  rw [h] at e; cases e
theorem Step.ne {p q : Addr} {H : Hp} (hp : PotAt H p) (hn : H q = none) : q ≠ p := fun z => by
  subst z
  obtain ⟨_, _, h⟩ := hp
  rw [h] at hn; cases hn
end L2

set_option Elab.async false
set_option linter.all false
set_option maxRecDepth 100000
set_option maxHeartbeats 4000000
namespace L2
open PySem PySem.Spec PyProof.Rows
section
variable {X : Cx}
def uLen (K : PySem.W.Frag) : List V → Hp → VK → Prop := fun xs H Q => match xs with
  | [x] => ∃ n, LenV K x H n ∧ Q (.int (n : Nat)) H
  | _ => False
theorem call_ulen : CallR X (.builtin "len") (uLen X.K) := by
  intro pins s σ H xs us Q I r h
  match xs, r, h with
  | [x], r, h =>
    obtain ⟨n, h1, h2⟩ := h
    exact call_len pins s σ H _ us Q I r ⟨x, n, rfl, h1, h2⟩
def uII (g : Int → Int → Int) : List V → Hp → VK → Prop := fun xs H Q => match xs with
  | [.int i, .int j] => Q (.int (g i j)) H
  | _ => False
theorem call_umax (hc : X.calm = true) : CallR X (.builtin "max") (uII fun i j => if j > i then j else i) := by
  intro pins s σ H xs us Q I r h
  match xs, r, h with
  | [.int i, .int j], r, h => exact call_max2 hc pins s σ H _ us Q I r ⟨i, j, rfl, h⟩
theorem call_umin (hc : X.calm = true) : CallR X (.builtin "min") (uII fun i j => if j < i then j else i) := by
  intro pins s σ H xs us Q I r h
  match xs, r, h with
  | [.int i, .int j], r, h => exact call_min2 hc pins s σ H _ us Q I r ⟨i, j, rfl, h⟩
def uTuple (K : PySem.W.Frag) : List V → Hp → VK → Prop := fun xs H Q => match xs with
  | [.ref p] => (∃ ys, SqL K H p ys ∧ ∀ l, H l = none → Q (.ref l) (upd H l (.tup ys))) ∨ (∃ ys, SqT K H p ys ∧ Q (.ref p) H)
  | _ => False
theorem call_utuple : CallR X (.type "tuple") (uTuple X.K) := by
  intro pins s σ H xs us Q I r h
  match xs, r, h with
  | [.ref p], r, h =>
    rcases h with ⟨ys, h1, h2⟩ | ⟨ys, h1, h2⟩
    · exact call_tuple_of pins s σ H _ us Q I r ⟨p, ys, rfl, .inl ⟨h1, h2⟩⟩
    · exact call_tuple_of pins s σ H _ us Q I r ⟨p, ys, rfl, .inr ⟨h1, h2⟩⟩
def uList (K : PySem.W.Frag) : List V → Hp → VK → Prop := fun xs H Q => match xs with
  | [.ref p] => ∃ ys, (SqL K H p ys ∨ SqT K H p ys) ∧ ∀ l, H l = none → Q (.ref l) (upd H l (.lst ys))
  | _ => False
theorem call_ulist : CallR X (.type "list") (uList X.K) := by
  intro pins s σ H xs us Q I r h
  match xs, r, h with
  | [.ref p], r, h =>
    obtain ⟨ys, h1, h2⟩ := h
    exact call_list_of pins s σ H _ us Q I r ⟨p, ys, rfl, h1, h2⟩
def uSetL : V → V → V → Hp → (Hp → Prop) → Prop := fun o i v H Q => match o, i with
  | .ref p, .int k => ∃ xs j, H p = some (.lst xs) ∧ ixN xs.length k = some j ∧ Q (upd H p (.lst (xs.set j v)))
  | _, _ => False
theorem set_ulist : PSet X uSetL := by
  intro pins s σ H o i v ov iv u Q I ro ri rv h
  cases o <;> cases i <;> first
    | exact (show False from h).elim
    | (obtain ⟨xs, j, h1, h2, h3⟩ := h; exact set_list pins s σ H _ _ v ov iv u Q I ro ri rv ⟨_, xs, _, j, rfl, rfl, h1, h2, h3⟩)
end
theorem cx_K {CX P w K mg base N qual scope f cd A outer s H E} : (cxOf CX P w K mg base N qual scope f cd A outer s H E).nox.K = K := rfl
theorem nox_K {X : Cx} : X.nox.K = X.K := rfl
theorem cxOf_K {CX P w K mg base N qual scope f cd A outer s H E} : (cxOf CX P w K mg base N qual scope f cd A outer s H E).K = K := rfl
theorem bCx_K {X : Cx} {scope C N' s₂ H₂ fp} : (bCx X scope C N' s₂ H₂ fp).K = X.K := rfl
theorem two_le : 2 ≤ sizeLine := by decide

def DE (te : TE) (σ : St) (n : Nat) (d : DV) : Prop := ∀ H (Q : VK), (∀ x H', Same H H' → HD H' n x d → Q x H') → te σ H Q
theorem de_int {σ : St} {n : Nat} {i : Int} : DE (tC (.int i)) σ n (.int i) := fun H Q q => q _ _ (Same.refl H) (.int i)
theorem de_bl {σ : St} {n : Nat} {i : Bool} : DE (tC (.bl i)) σ n (.bl i) := fun H Q q => q _ _ (Same.refl H) (.bl i)
theorem de_str {σ : St} {n : Nat} {i : Str} : DE (tC (.str i)) σ n (.str i) := fun H Q q => q _ _ (Same.refl H) (.str i)
theorem de_non {σ : St} {n : Nat} : DE (tC .non) σ n .non := fun H Q q => q _ _ (Same.refl H) .non
theorem de_var {σ : St} {n i : Nat} {z : Int} (h : σ[i]? = some (some (.int z))) : DE (tVar i) σ n (.int z) := fun H Q q => ⟨_, h, q _ _ (Same.refl H) (.int z)⟩
theorem de_dict {σ : St} {n : Nat} : DE tDNewK σ n .dict := fun H Q q p hp => q _ _ (Same.new _ hp) (.dict upd_same)
theorem seq_asg {te : TE} {i : Nat} {u : TS} {D : Ends} {σ : St} {H : Hp} (h : te σ H fun x H1 => u D (σ.set i (some x)) H1) : tSeq (tAsg te (gName i)) u D σ H := h

end L2

set_option Elab.async false
set_option linter.all false
set_option maxRecDepth 100000
set_option maxHeartbeats 4000000
namespace L2
open PySem PySem.Spec PyProof.Rows
section
variable {K : PySem.W.Frag} {H : Hp} {Q : VK} {i j : Int} {a b : Addr} {x y : V} {s t : Str}
theorem uAdd_ii : uAdd (.int i) (.int j) H Q = Q (.int (i + j)) H := rfl
theorem uAdd_ss : uAdd (.str s) (.str t) H Q = (s.length + t.length ≤ sizeLine ∧ Q (.str (s ++ t)) H) := rfl
theorem uAdd_rr : uAdd (.ref a) (.ref b) H Q = ∃ xs zs, H a = some (.lst xs) ∧ H b = some (.lst zs) ∧ xs.length + zs.length ≤ sizeLine ∧ ∀ p, H p = none → Q (.ref p) (upd H p (.lst (xs ++ zs))) := rfl
theorem uI_ii {C : Int → Int → Prop} {g : Int → Int → V} : uI C g (.int i) (.int j) H Q = (C i j ∧ Q (g i j) H) := rfl
theorem uI0_ii {g : Int → Int → V} : uI0 g (.int i) (.int j) H Q = Q (g i j) H := rfl
theorem dec_VI : decide (V.int i = V.int j) = decide (i = j) := by simp
theorem dec_VS : decide (V.str s = V.str t) = decide (s = t) := by simp
theorem uEq_ii : uEq K (.int i) (.int j) H Q = Q (.bl (decide (i = j))) H := by
  show (true = true ∧ Q (.bl (decide (V.int i = V.int j))) H) = _
  rw [dec_VI]; simp
theorem uEq_ss : uEq K (.str s) (.str t) H Q = Q (.bl (decide (s = t))) H := by
  show (true = true ∧ Q (.bl (decide (V.str s = V.str t))) H) = _
  rw [dec_VS]; simp
theorem uNe_ii : uNe K (.int i) (.int j) H Q = Q (.bl (!decide (i = j))) H := by
  show (true = true ∧ Q (.bl (!decide (V.int i = V.int j))) H) = _
  rw [dec_VI]; simp
theorem uNe_ss : uNe K (.str s) (.str t) H Q = Q (.bl (!decide (s = t))) H := by
  show (true = true ∧ Q (.bl (!decide (V.str s = V.str t))) H) = _
  rw [dec_VS]; simp
theorem uEq_rr : uEq K (.ref a) (.ref b) H Q = ((SameD K H 20 (.ref a) (.ref b) ∧ Q (.bl true) H) ∨ (DiffL K H a b ∧ Q (.bl false) H)) := rfl
theorem uNe_rr : uNe K (.ref a) (.ref b) H Q = ((SameD K H 20 (.ref a) (.ref b) ∧ Q (.bl false) H) ∨ (DiffL K H a b ∧ Q (.bl true) H)) := rfl
theorem uIs_bb {g : Bool → Bool} {c d : Bool} : uIs g (.bl c) (.bl d) H Q = Q (.bl (g (c == d))) H := rfl
theorem uIn_r {neg : Bool} : uIn K neg x (.ref a) H Q = ∃ xs, (SqL K H a xs ∨ SqT K H a xs) ∧ flatV x = true ∧ xs.all flatV = true ∧ Q (.bl (if neg then !inV x xs else inV x xs)) H := rfl
theorem uIx_ri : uIx K (.ref a) (.int i) H Q = ∃ xs v, (SqL K H a xs ∨ SqT K H a xs) ∧ atI xs i = some v ∧ Q v H := rfl
theorem uIx_rs : uIx K (.ref a) (.str s) H Q = ∃ v, DGet H a (.str s) (some v) ∧ Q v H := rfl
theorem uIx_si : uIx K (.str s) (.int i) H Q = ∃ c, s.length ≤ sizeLine ∧ atI s.cps.toList i = some c ∧ Q (.str ⟨#[c]⟩) H := rfl
theorem uIsi_t {n : String} : uIsi K [x, .ty n] H Q = ∃ t b, TyOf K H x t ∧ PySem.W.kitOne K t (.type n) = some b ∧ Q (.bl b) H := rfl
theorem uLen_1 : uLen K [x] H Q = ∃ n, LenV K x H n ∧ Q (.int (n : Nat)) H := rfl
theorem uII_2 {g : Int → Int → Int} : uII g [.int i, .int j] H Q = Q (.int (g i j)) H := rfl
theorem uTuple_1 : uTuple K [.ref a] H Q = ((∃ ys, SqL K H a ys ∧ ∀ l, H l = none → Q (.ref l) (upd H l (.tup ys))) ∨ (∃ ys, SqT K H a ys ∧ Q (.ref a) H)) := rfl
theorem uList_1 : uList K [.ref a] H Q = ∃ ys, (SqL K H a ys ∨ SqT K H a ys) ∧ ∀ l, H l = none → Q (.ref l) (upd H l (.lst ys)) := rfl
theorem uSetL_ri {R : Hp → Prop} : uSetL (.ref a) (.int i) x H R = ∃ xs j, H a = some (.lst xs) ∧ ixN xs.length i = some j ∧ R (upd H a (.lst (xs.set j x))) := rfl
theorem some_join {α : Type} {o : Option α} : (some o).join = o := rfl
end

theorem for_its {lo st : Int} {n : Nat} {g : TG} {tb : TS} {D : Ends} {σ : St} {H : Hp} (Pv : Nat → St → Hp → Prop) (h0 : Pv 0 σ H)
    (hs : ∀ i σ H, i < n → Pv i σ H → g (.int (lo + i * st)) σ H fun σ2 H2 => tb { D with nx := Pv (i + 1), ct := Pv (i + 1), bk := D.nx } σ2 H2) (hd : ∀ σ H, Pv n σ H → D.nx σ H) :
    ∃ W : Nat → Nat → St → Hp → Prop, (∃ m, W 0 m σ H) ∧ ∀ i m σ H, W i m σ H →
      ((Its lo st n).stop i H ∧ D.nx σ H) ∨ ((Its lo st n).go i H ∧ ∃ N : St → Hp → Prop, (∀ σ' H', N σ' H' → ∃ m', m' < m ∧ W (i + 1) m' σ' H') ∧ ∀ x H', (Its lo st n).yld i H x H' → g x σ H' fun σ2 H2 => tb { D with nx := N, ct := N, bk := D.nx } σ2 H2) := by
  refine ⟨fun i m σ H => m = n - i ∧ i ≤ n ∧ Pv i σ H, ⟨n, by simp, Nat.zero_le _, h0⟩, ?_⟩
  rintro i m σ H ⟨rfl, hi, p⟩
  by_cases hlt : i < n
  · refine .inr ⟨hlt, Pv (i + 1), fun σ' H' p' => ⟨n - (i + 1), by omega, rfl, hlt, p'⟩, fun x H' y => ?_⟩
    obtain ⟨e, y⟩ := y
    subst e y
    exact hs i σ _ hlt p
  · have e : i = n := by omega
    subst e
    exact .inl ⟨Nat.le_refl _, hd σ H p⟩

end L2

set_option Elab.async false
set_option linter.all false
set_option maxRecDepth 100000
set_option maxHeartbeats 4000000
namespace L2
open PySem PySem.Spec PyProof.Rows

def plainE : Expr → Bool
  | .Starred .. => false
  | _ => true
theorem star_cons {e : Expr} {es : List Expr} {env : Env} (h : plainE e = true) : starEach (e :: es) env = (false, eval e env) :: starEach es env := by
  cases e <;> first | rfl | exact absurd h Bool.false_ne_true
theorem star_any {pos : Pos} {env : Env} : ∀ {es : List Expr}, es.all plainE = true → (backTo pos (starEach es env)).any (·.1) = false
  | [], _ => rfl
  | e :: es, h => by
    rw [List.all_cons, Bool.and_eq_true] at h
    rw [star_cons h.1]
    show (false || (backTo pos (starEach es env)).any (·.1)) = false
    rw [star_any h.2]; rfl
def noComp : Expr → Bool
  | .ListComp .. => false
  | .SetComp .. => false
  | .DictComp .. => false
  | _ => true
theorem no_swap {e : Expr} {t : Option Expr} {l : Nat} {env : Env} (h : noComp e = true) : swapsWith e t l env = pure false := by
  cases e <;> first | rfl | exact absurd h Bool.false_ne_true
section
variable {X : Cx} {e : Expr} {es : List Expr} {te : TE} {t : TA} {pos p : Pos} {x : Str}
theorem pa_c (ha : PE X e te) (hr : PA X es t) (h : plainE e = true := by rfl) : PA X (e :: es) (tCons te t) := pa_cons ha hr (star_cons h)
theorem pe_cf {k j : Nat} {ps : List Str} {sp : Sp} (D : Def X.prog X.w X.K X.mg X.base x k ps sp) (hr : Room j X.A) (ha : PA X (e :: es) t) (hg : Gl X x := by rfl) (hj : k ≤ j := by decide)
    (hdb : (x == ("__debug__" : Str)) = false := by decide) (h1 : plainE e = true := by rfl) (h2 : es.all plainE = true := by rfl) :
    PE X (.Call (.Name x p) (e :: es) [] pos) (tCall sp [] E0 t) := pe_cd D hr ha hg hj hdb (star_cons h1) (star_any h2)
theorem pe_cB {id : String} {r : List V → Hp → VK → Prop} (hc : CallR X (.builtin id) r) (hg : Gl X x) (hm : X.mg x = none) (hv : bootBuiltins x = some (.builtin id)) (ha : PA X (e :: es) t) (hn : x ≠ "__name__" := by decide) (hdb : (x == ("__debug__" : Str)) = false := by decide)
    (h1 : plainE e = true := by rfl) (h2 : es.all plainE = true := by rfl) : PE X (.Call (.Name x p) (e :: es) [] pos) (tCB r t) := pe_callB hc hg hm hv ha hn hdb (star_cons h1) (star_any h2)
theorem pe_cT {T : String} {r : List V → Hp → VK → Prop} (hc : CallR X (.type T) r) (hg : Gl X x) (hm : X.mg x = none) (hv : bootBuiltins x = some (.type T)) (ha : PA X (e :: es) t) (hn : x ≠ "__name__" := by decide) (hdb : (x == ("__debug__" : Str)) = false := by decide)
    (h1 : plainE e = true := by rfl) (h2 : es.all plainE = true := by rfl) : PE X (.Call (.Name x p) (e :: es) [] pos) (tCB r t) := pe_callTy hc hg hm hv ha hn hdb (star_cons h1) (star_any h2)
theorem ps_st {i : Nat} {pos' : Pos} (hN : X.N.Nodup) (hi : X.N[i]? = some x) (hx : Loc X.env.scope x) (he : PE X e te) (h : noComp e = true := by rfl) (hf : X.fn x = true ∨ X.env.scope.names.lookup x = some .local := by first | exact .inl rfl | exact .inr rfl | assumption) :
    PS X (.Assign [.Name x pos'] e pos) (tAsg te (gName i)) := ps_set hN hi hx he (no_swap h) hf
theorem ps_ex (he : PE X e te) (h : noComp e = true := by rfl) : PS X (.Expr e pos) (tDrop te) := ps_expr he (no_swap h)
end
end L2

set_option Elab.async false
set_option linter.all false
namespace L2
open PySem PySem.Spec PyProof.Rows
def noSlice : Expr → Bool
  | .Slice .. => false
  | _ => true
theorem plain_ix {b : Expr} (h : noSlice b = true) : PlainIx b := fun o i => by
  cases b <;> first | rfl | exact absurd h Bool.false_ne_true
theorem pe_ixu {X : Cx} {a b : Expr} {ta tb : TE} {pos : Pos} (hu : X.A.units + 64 < cLine) (ha : PE X a ta) (hb : PE X b tb) (h : noSlice b = true := by rfl) : PE X (.Subscript a b pos) (tOp (uIx X.K) ta tb) := pe_ix (ix_u hu) ha hb (plain_ix h)
end L2

set_option Elab.async false
set_option linter.all false
set_option maxRecDepth 100000
set_option maxHeartbeats 4000000
namespace PySem
section
variable {prog : Program} {w : World} {A : Around} {E : Value → Shared → Prop} {s : Shared}
theorem nextOf_tup_item {j a : Addr} {n : Nat} {its : Array Value} {v : Value} {Q : Value → Shared → Prop} (st : s.heap.IsTupleIter j a n) (ht : s.heap.IsTuple a its) (hv : its[n]? = some v)
    (q : ∀ g, g.IsTupleIter j a (n + 1) → Heap.SameBut j s.heap g → Q v { s with heap := g }) : wpAny (model prog w) A (Builtin.SmallTypes.nextOf (.ref j)) Q E s := by
  obtain ⟨ob, e, c, d⟩ := id st
  obtain ⟨ot, et, _, nt, dt⟩ := ht
  unfold Builtin.SmallTypes.nextOf
  refine wpAny_bind (wpAny_callSpecial?_slot (name := Str.ofString "__next__") st.typeIs F.slot_tuple_iterator_next (wpAny_call_entry F.slot_tuple_iterator_next st.typeIs F.entry_tuple_iterator_next ?_ (F.args_tuple_iterator_next_1 _)))
  refine wpAny_bind (m := field (.ref j) 0) (wpAny_field e d (x := .ref a) rfl ?_)
  show wpAny _ _ (if (Value.ref a == Value.none) = true then _ else _) _ _ _
  rw [if_neg (by exact Bool.false_ne_true)]
  refine wpAny_bind (m := field (.ref j) 1) (wpAny_field e d (x := .int n 0) rfl ?_)
  refine wpAny_bind (m := seqItems? (.ref a)) (wpAny_seqItems et dt ?_)
  simp only [Int.toNat_natCast, hv]
  refine wpAny_bind (wpAny_setField e d (by simp) (wpAny_pure ⟨v, rfl, wpAny_pure (q _ ⟨_, Heap.get?_update_self _ e (Obj.isFreed_of_fields (Obj.data_mapFields d _)), (Obj.cls_mapFields ..).trans c, ?_⟩ (Heap.SameBut.update ..))⟩))
  rw [Obj.data_mapFields d]; simp [rawInt]
theorem nextOf_tup_end {j a : Addr} {n : Nat} {its : Array Value} {Q : Value → Shared → Prop} (hh : A.handled = none) (st : s.heap.IsTupleIter j a n) (ht : s.heap.IsTuple a its) (hv : its[n]? = none)
    (q : ∀ g e, Heap.ExtBut j s.heap g → (∃ o, g.get? e = some o ∧ o.cls = .type "StopIteration") → E (.ref e) { s with heap := g }) : wpAny (model prog w) A (Builtin.SmallTypes.nextOf (.ref j)) Q E s := by
  obtain ⟨ob, e, c, d⟩ := id st
  obtain ⟨ot, et, _, nt, dt⟩ := ht
  unfold Builtin.SmallTypes.nextOf
  refine wpAny_bind (wpAny_callSpecial?_slot (name := Str.ofString "__next__") st.typeIs F.slot_tuple_iterator_next (wpAny_call_entry F.slot_tuple_iterator_next st.typeIs F.entry_tuple_iterator_next ?_ (F.args_tuple_iterator_next_1 _)))
  refine wpAny_bind (m := field (.ref j) 0) (wpAny_field e d (x := .ref a) rfl ?_)
  show wpAny _ _ (if (Value.ref a == Value.none) = true then _ else _) _ _ _
  rw [if_neg (by exact Bool.false_ne_true)]
  refine wpAny_bind (m := field (.ref j) 1) (wpAny_field e d (x := .int n 0) rfl ?_)
  refine wpAny_bind (m := seqItems? (.ref a)) (wpAny_seqItems et dt ?_)
  simp only [Int.toNat_natCast, hv]
  refine wpAny_bind (wpAny_rule (wpAny_bind (wpAny_setField e d (by simp) (wpAny_bind (m := newExc (.type "StopIteration") []) ?_))))
  simp only [newExc, newTuple]
  refine wpAny_bind (wpAny_newObj_type (wpAny_bind (m := firstArgMember _ _) (wpAny_of_eq (a := Value.none) (by first | rfl | (simp only [firstArgMember]; rfl)) (wpAny_newObj_type ?_ (by size_fits)))) (by size_fits))
  simp only [raiseNew]
  refine wpAny_bind (wpAny_handled ?_)
  first | rw [show A.in1.handled = none from hh] | rw [hh]
  exact wpAny_bind (wpAny_pure (wpAny_throw (q _ _ (((Heap.SameBut.update ..).extBut.push _).push _) ⟨_, Heap.get?_push_size _ rfl, rfl⟩)))
end
theorem Draws.tup {prog : Program} {w : World} {A : Around} (hh : A.handled = none) (j a : Addr) (hne : a ≠ j) (its : Array Value) :
    Draws prog w A j [j, a] its.size (fun i v => its[i]? = some v) (fun i h => h.IsTupleIter j a i ∧ h.IsTuple a its) where
  live := fun _ _ st => let ⟨o, ho, _⟩ := st.1; ⟨o, ho⟩
  frame := fun _ _ _ st k => ⟨st.1.at fun o e => k j (by simp) o e, st.2.at fun o e => k a (by simp) o e⟩
  item := fun i s Q E hi st q => nextOf_tup_item st.1 st.2 (v := its[i]) (by simp [hi]) fun g st' sb => q _ g s.toks (by simp [hi]) ⟨st', st.2.extBut sb.extBut hne⟩ sb
  done := fun s Q E st q => nextOf_tup_end hh st.1 st.2 (by simp) q

def SqAt (b : Bool) (h : Heap) (a : Addr) (its : Array Value) : Prop := if b = true then h.IsList a its else h.IsTuple a its
def ItAt (b : Bool) (h : Heap) (j a : Addr) (n : Nat) : Prop := if b = true then h.IsListIter j a n else h.IsTupleIter j a n
theorem ItAt.at {b : Bool} {h h' : Heap} {j a : Addr} {n : Nat} (x : ItAt b h j a n) (k : ∀ o, h.get? j = some o → h'.get? j = some o) : ItAt b h' j a n := by
  cases b
  · exact Heap.IsTupleIter.at x k
  · exact Heap.IsListIter.at x k
theorem ItAt.obj {b : Bool} {h : Heap} {j a : Addr} {n : Nat} (x : ItAt b h j a n) : ∃ o, h.get? j = some o ∧ ∀ v, o.data ≠ .cell v := by
  cases b <;> (obtain ⟨o, e, c, d⟩ := x; exact ⟨o, e, fun v z => by rw [d] at z; cases z⟩)
theorem Draws.sq {prog : Program} {w : World} {A : Around} (hh : A.handled = none) (b : Bool) (j a : Addr) (hne : a ≠ j) (its : Array Value) :
    Draws prog w A j [j, a] its.size (fun i v => its[i]? = some v) (fun i h => ItAt b h j a i ∧ SqAt b h a its) := by
  cases b
  · exact Draws.tup hh j a hne its
  · exact Draws.list hh j a hne its
end PySem

set_option Elab.async false
set_option linter.all false
set_option maxRecDepth 100000
set_option maxHeartbeats 4000000
namespace PySem
structure ZA (z ti to i1 i2 : Addr) (f1 f2 : List Addr) : Prop where
  a1 : ti ≠ z
  a2 : to ≠ z
  a3 : i1 ≠ z
  a4 : i2 ≠ z
  a5 : ti ≠ to
  a6 : ti ≠ i1
  a7 : ti ≠ i2
  a8 : to ≠ i1
  a9 : to ≠ i2
  a10 : i1 ≠ i2
  b1 : z ∉ f1
  b2 : to ∉ f1
  b3 : i2 ∉ f1
  c1 : z ∉ f2
  c2 : to ∉ f2
  c3 : i1 ∉ f2
section
variable {prog : Program} {w : World} {A : Around} {E : Value → Shared → Prop} {s : Shared} {z ti to i1 i2 : Addr} {f1 f2 : List Addr} {n1 n2 k : Nat} {P1 P2 : Nat → Value → Prop} {S1 S2 : Nat → Heap → Prop} {a b : Value}
theorem zip_itemD {Q : Value → Shared → Prop} (Z : ZA z ti to i1 i2 f1 f2) (D1 : Draws prog w A i1 f1 n1 P1 S1) (D2 : Draws prog w A i2 f2 n2 P2 S2) (hz : IsZip s.heap z ti to .none) (hti : IsPair s.heap ti (.ref i1) (.ref i2)) (hto : IsPair s.heap to a b)
    (s1 : S1 k s.heap) (s2 : S2 k s.heap) (l1 : k < n1) (l2 : k < n2)
    (q : ∀ x y g tk, P1 k x → P2 k y → IsZip g z ti to (rawInt s.heap.objs.size) → IsPair g to x y → S1 (k + 1) g → S2 (k + 1) g → IsPair g s.heap.objs.size x y → g.objs.size = s.heap.objs.size + 1 →
      (∀ c o, c ≠ z → c ≠ to → c ≠ i1 → c ≠ i2 → s.heap.get? c = some o → g.get? c = some o) → Q (.ref s.heap.objs.size) { s with heap := g, toks := tk }) :
    wpAny (model prog w) A (Builtin.«zip.__next__» ⟨[.ref z], []⟩) (fun fin s' => ∃ v, fin = .done (.ret v) ∧ Q v s') E s := by
  refine wpAny_bind (m := field (.ref z) 2) (wpAny_field hz rfl (x := .bool false) rfl (wpAny_bind (m := field (.ref z) 3) (wpAny_field hz rfl (x := .ref ti) rfl ?_)))
  refine wpAny_bind (wpAny_seqItems hti rfl (wpAny_bind (m := Builtin.SmallTypes.ownedTupleIsFree (.ref z)) ?_))
  unfold Builtin.SmallTypes.ownedTupleIsFree
  refine wpAny_bind (wpAny_field hz rfl (x := .none) rfl (wpAny_pure ?_))
  simp only [if_true]
  refine wpAny_bind (wpAny_rule (wpAny_bind (wpAny_field hz rfl (x := .ref to) rfl (wpAny_bind (wpAny_setField_rec hz (by simp) fun g1 hz1 e1 => ?_)))))
  replace hz1 : IsZip g1 z ti to .ellipsis := hz1
  refine wpAny_bind ?_
  simp only [List.zipIdx_cons, List.zipIdx_nil, List.forIn_cons, List.forIn_nil]
  refine wpAny_bind (wpAny_bind (wpAny_onRaise (wpAny_bind (m := Builtin.SmallTypes.nextOf (.ref i1)) ?_)))
  refine D1.item k _ _ _ l1 (D1.frame _ _ _ s1 fun c hc o e => e1.extBut c o (fun h => Z.b1 (h ▸ hc)) e) fun x g2 tk2 px t1 e2 => wpAny_pure ?_
  replace e2 : Heap.SameBut i1 g1 g2 := e2
  have hto2 : IsPair g2 to a b := e2.extBut _ _ Z.a8 (e1.extBut _ _ Z.a2 hto)
  refine wpAny_bind (wpAny_seqItems hto2 rfl (wpAny_bind (wpAny_updateSeq_pair hto2 fun g3 hto3 e3 => wpAny_bind (wpAny_letGo (wpAny_pure ?_)))))
  replace hto3 : IsPair g3 to x b := hto3
  replace e3 : Heap.SameBut to g2 g3 := e3
  refine wpAny_bind (wpAny_bind (wpAny_onRaise (wpAny_bind (m := Builtin.SmallTypes.nextOf (.ref i2)) ?_)))
  refine D2.item k _ _ _ l2 (D2.frame _ _ _ s2 fun c hc o e => e3.extBut c o (fun h => Z.c2 (h ▸ hc)) (e2.extBut c o (fun h => Z.c3 (h ▸ hc)) (e1.extBut c o (fun h => Z.c1 (h ▸ hc)) e))) fun y g4 tk4 py t2 e4 => wpAny_pure ?_
  replace e4 : Heap.SameBut i2 g3 g4 := e4
  have hto4 : IsPair g4 to x b := e4.extBut _ _ Z.a9 hto3
  refine wpAny_bind (wpAny_seqItems hto4 rfl (wpAny_bind (wpAny_updateSeq_pair hto4 fun g5 hto5 e5 => wpAny_bind (wpAny_letGo (wpAny_pure (wpAny_pure ?_))))))
  replace hto5 : IsPair g5 to x y := hto5
  replace e5 : Heap.SameBut to g4 g5 := e5
  refine wpAny_bind (wpAny_seqItems hto5 rfl (wpAny_bind (wpAny_newTuple ?_)))
  have hsz : g5.objs.size = s.heap.objs.size := by rw [e5.1, e4.1, e3.1, e2.1, e1.1]
  have hz5 : IsZip g5 z ti to .ellipsis := e5.extBut _ _ Z.a2.symm (e4.extBut _ _ Z.a4.symm (e3.extBut _ _ Z.a2.symm (e2.extBut _ _ Z.a3.symm hz1)))
  have k5 : ∀ c o, c ≠ z → c ≠ to → c ≠ i1 → c ≠ i2 → s.heap.get? c = some o → g5.get? c = some o := fun c o c1 c2 c3 c4 e => e5.extBut _ _ c2 (e4.extBut _ _ c4 (e3.extBut _ _ c2 (e2.extBut _ _ c3 (e1.extBut _ _ c1 e))))
  have u1 : S1 (k + 1) g5 := D1.frame _ _ _ t1 fun c hc o e => e5.extBut c o (fun h => Z.b2 (h ▸ hc)) (e4.extBut c o (fun h => Z.b3 (h ▸ hc)) (e3.extBut c o (fun h => Z.b2 (h ▸ hc)) e))
  have u2 : S2 (k + 1) g5 := D2.frame _ _ _ t2 fun c hc o e => e5.extBut c o (fun h => Z.c2 (h ▸ hc)) e
  have zlt : z < g5.objs.size := Heap.lt_size hz5
  refine wpAny_bind (m := Builtin.SmallTypes.ownedTupleHandOut (.ref z) (.ref g5.objs.size)) ?_
  unfold Builtin.SmallTypes.ownedTupleHandOut
  have hz6 : IsZip (g5.push { cls := .type "tuple", data := .seq #[x, y] }) z ti to .ellipsis := Heap.get?_push_of_some _ hz5
  refine wpAny_bind (wpAny_setField_rec hz6 (by simp) fun g7 hz7 e7 => ?_)
  replace hz7 : IsZip g7 z ti to (rawInt g5.objs.size) := hz7
  refine wpAny_setField_rec hz7 (by simp) fun g8 hz8 e8 => ?_
  replace hz8 : IsZip g8 z ti to (rawInt g5.objs.size) := hz8
  have up : ∀ c o, c ≠ z → g5.get? c = some o → g8.get? c = some o := fun c o c1 e => e8.extBut _ _ c1 (e7.extBut _ _ c1 (Heap.get?_push_of_some _ e))
  have hT : IsPair g8 g5.objs.size x y := e8.extBut _ _ (Nat.ne_of_gt zlt) (e7.extBut _ _ (Nat.ne_of_gt zlt) (Heap.get?_push_size _ rfl))
  have sz8 : g8.objs.size = g5.objs.size + 1 := by rw [e8.1, e7.1, Heap.size_push]
  rw [hsz] at hz8 hT sz8
  refine wpAny_pure ⟨_, rfl, ?_⟩
  show Q (.ref g5.objs.size) _
  rw [hsz]
  exact q x y g8 _ px py hz8 (up _ _ Z.a2 hto5) (D1.frame _ _ _ u1 fun c hc o e => up c o (fun h => Z.b1 (h ▸ hc)) e) (D2.frame _ _ _ u2 fun c hc o e => up c o (fun h => Z.c1 (h ▸ hc)) e) hT sz8 fun c o c1 c2 c3 c4 e => up c o c1 (k5 c o c1 c2 c3 c4 e)
theorem zip_endD {Q : Fin → Shared → Prop} (Z : ZA z ti to i1 i2 f1 f2) (D1 : Draws prog w A i1 f1 n1 P1 S1) (D2 : Draws prog w A i2 f2 n2 P2 S2) (hz : IsZip s.heap z ti to .none) (hti : IsPair s.heap ti (.ref i1) (.ref i2)) (hto : IsPair s.heap to a b)
    (s1 : S1 k s.heap) (s2 : S2 k s.heap) (l : k = n1 ∨ (k < n1 ∧ k = n2))
    (q : ∀ g e tk, (∀ c o, c ≠ z → c ≠ to → c ≠ i1 → c ≠ i2 → s.heap.get? c = some o → g.get? c = some o) → (∃ o, g.get? e = some o ∧ o.cls = .type "StopIteration") → E (.ref e) { s with heap := g, toks := tk }) :
    wpAny (model prog w) A (Builtin.«zip.__next__» ⟨[.ref z], []⟩) Q E s := by
  refine wpAny_bind (m := field (.ref z) 2) (wpAny_field hz rfl (x := .bool false) rfl (wpAny_bind (m := field (.ref z) 3) (wpAny_field hz rfl (x := .ref ti) rfl ?_)))
  refine wpAny_bind (wpAny_seqItems hti rfl (wpAny_bind (m := Builtin.SmallTypes.ownedTupleIsFree (.ref z)) ?_))
  unfold Builtin.SmallTypes.ownedTupleIsFree
  refine wpAny_bind (wpAny_field hz rfl (x := .none) rfl (wpAny_pure ?_))
  simp only [if_true]
  refine wpAny_bind (wpAny_rule (wpAny_bind (wpAny_field hz rfl (x := .ref to) rfl (wpAny_bind (wpAny_setField_rec hz (by simp) fun g1 hz1 e1 => ?_)))))
  replace hz1 : IsZip g1 z ti to .ellipsis := hz1
  refine wpAny_bind ?_
  simp only [List.zipIdx_cons, List.zipIdx_nil, List.forIn_cons, List.forIn_nil]
  refine wpAny_bind (wpAny_bind (wpAny_onRaise (wpAny_bind (m := Builtin.SmallTypes.nextOf (.ref i1)) ?_)))
  have s1' := D1.frame _ _ _ s1 fun c hc o e => e1.extBut c o (fun h => Z.b1 (h ▸ hc)) e
  rcases l with l | ⟨l1, l2⟩
  · subst l
    refine D1.done _ _ _ s1' fun g2 x e2 ⟨ox, hx, cx⟩ => ?_
    replace e2 : Heap.ExtBut i1 g1 g2 := e2
    have hz2 : IsZip g2 z ti to .ellipsis := e2 _ _ Z.a3.symm hz1
    have hxz : x ≠ z := fun y => by subst y; rw [hz2] at hx; cases hx; simp at cx
    exact wpAny_setField_rec hz2 (by simp) fun g3 _ e3 => q g3 x s.toks (fun c o c1 _ c3 _ y => e3.extBut _ _ c1 (e2 _ _ c3 (e1.extBut _ _ c1 y))) ⟨ox, e3.extBut _ _ hxz hx, cx⟩
  · subst l2
    refine D1.item k _ _ _ l1 s1' fun x g2 tk2 px t1 e2 => wpAny_pure ?_
    replace e2 : Heap.SameBut i1 g1 g2 := e2
    have hto2 : IsPair g2 to a b := e2.extBut _ _ Z.a8 (e1.extBut _ _ Z.a2 hto)
    refine wpAny_bind (wpAny_seqItems hto2 rfl (wpAny_bind (wpAny_updateSeq_pair hto2 fun g3 hto3 e3 => wpAny_bind (wpAny_letGo (wpAny_pure ?_)))))
    replace e3 : Heap.SameBut to g2 g3 := e3
    refine wpAny_bind (wpAny_bind (wpAny_onRaise (wpAny_bind (m := Builtin.SmallTypes.nextOf (.ref i2)) ?_)))
    refine D2.done _ _ _ (D2.frame _ _ _ s2 fun c hc o e => e3.extBut c o (fun h => Z.c2 (h ▸ hc)) (e2.extBut c o (fun h => Z.c3 (h ▸ hc)) (e1.extBut c o (fun h => Z.c1 (h ▸ hc)) e))) fun g4 x e4 ⟨ox, hx, cx⟩ => ?_
    replace e4 : Heap.ExtBut i2 g3 g4 := e4
    have hz4 : IsZip g4 z ti to .ellipsis := e4 _ _ Z.a4.symm (e3.extBut _ _ Z.a2.symm (e2.extBut _ _ Z.a3.symm hz1))
    have hxz : x ≠ z := fun y => by subst y; rw [hz4] at hx; cases hx; simp at cx
    exact wpAny_setField_rec hz4 (by simp) fun g5 _ e5 => q g5 x tk2 (fun c o c1 c2 c3 c4 y => e5.extBut _ _ c1 (e4 _ _ c4 (e3.extBut _ _ c2 (e2.extBut _ _ c3 (e1.extBut _ _ c1 y))))) ⟨ox, e5.extBut _ _ hxz hx, cx⟩
end
section
variable {prog : Program} {w : World} {A : Around} {E : Value → Shared → Prop} {s : Shared} {z ti to i1 i2 : Addr} {f1 f2 : List Addr} {n1 n2 k : Nat} {P1 P2 : Nat → Value → Prop} {S1 S2 : Nat → Heap → Prop} {a b : Value}
theorem next_zip_item {Q : Option Value → Shared → Prop} (Z : ZA z ti to i1 i2 f1 f2) (D1 : Draws prog w A.in1 i1 f1 n1 P1 S1) (D2 : Draws prog w A.in1 i2 f2 n2 P2 S2) (hz : IsZip s.heap z ti to .none) (hti : IsPair s.heap ti (.ref i1) (.ref i2)) (hto : IsPair s.heap to a b)
    (s1 : S1 k s.heap) (s2 : S2 k s.heap) (l1 : k < n1) (l2 : k < n2)
    (q : ∀ x y g tk, P1 k x → P2 k y → IsZip g z ti to (rawInt s.heap.objs.size) → IsPair g to x y → S1 (k + 1) g → S2 (k + 1) g → IsPair g s.heap.objs.size x y → g.objs.size = s.heap.objs.size + 1 →
      (∀ c o, c ≠ z → c ≠ to → c ≠ i1 → c ≠ i2 → s.heap.get? c = some o → g.get? c = some o) → Q (some (.ref s.heap.objs.size)) { s with heap := g, toks := tk }) :
    wpAny (model prog w) A (pyNext (.ref z)) Q E s := by
  have hT : s.TypeIs (.ref z) "zip" := ⟨_, hz, rfl⟩
  unfold pyNext
  exact wpAny_bind (wpAny_attempt (wpAny_callSpecial?_slot (name := Str.ofString "__next__") hT F.slot_zip_next (wpAny_call_entry F.slot_zip_next hT F.entry_zip_next
    (zip_itemD Z D1 D2 hz hti hto s1 s2 l1 l2 fun x y g tk p1 p2 a1 a2 a3 a4 a5 a6 a7 => wpAny_pure (q x y g tk p1 p2 a1 a2 a3 a4 a5 a6 a7)) (F.args_zip_next_1 _))))
theorem next_zip_end {Q : Option Value → Shared → Prop} (Z : ZA z ti to i1 i2 f1 f2) (D1 : Draws prog w A.in1 i1 f1 n1 P1 S1) (D2 : Draws prog w A.in1 i2 f2 n2 P2 S2) (hz : IsZip s.heap z ti to .none) (hti : IsPair s.heap ti (.ref i1) (.ref i2)) (hto : IsPair s.heap to a b)
    (s1 : S1 k s.heap) (s2 : S2 k s.heap) (l : k = n1 ∨ (k < n1 ∧ k = n2))
    (q : ∀ g tk, (∀ c o, c ≠ z → c ≠ to → c ≠ i1 → c ≠ i2 → s.heap.get? c = some o → g.get? c = some o) → Q none { s with heap := g, toks := tk }) : wpAny (model prog w) A (pyNext (.ref z)) Q E s := by
  have hT : s.TypeIs (.ref z) "zip" := ⟨_, hz, rfl⟩
  unfold pyNext
  refine wpAny_bind (wpAny_attempt (wpAny_callSpecial?_slot (name := Str.ofString "__next__") hT F.slot_zip_next (wpAny_call_entry F.slot_zip_next hT F.entry_zip_next
    (zip_endD Z D1 D2 hz hti hto s1 s2 l fun g e tk kk ⟨o, ho, hc⟩ => ?_) (F.args_zip_next_1 _))))
  exact wpAny_bind (wpAny_isInstance (T := "StopIteration") (b := true) ⟨o, ho, hc⟩ isSubtype_stop (wpAny_pure (q _ _ kk)))
end

def itO (b : Bool) (a : Addr) : Obj := if b = true then { cls := .type "list_iterator", data := .fields #[.ref a, .int 0 0] } else { cls := .type "tuple_iterator", data := .fields #[.ref a, .int 0 0] }
abbrev zz1 (h : Heap) (b : Bool) (l : Addr) : Heap := h.push (itO b l)
abbrev zz2 (h : Heap) (b c : Bool) (l m : Addr) : Heap := (zz1 h b l).push (itO c m)
abbrev zz3 (h : Heap) (b c : Bool) (l m : Addr) : Heap := (zz2 h b c l m).push { cls := .type "tuple", data := .seq #[.ref h.objs.size, .ref (zz1 h b l).objs.size] }
abbrev zz4 (h : Heap) (b c : Bool) (l m : Addr) : Heap := (zz3 h b c l m).push { cls := .type "tuple", data := .seq #[.none, .none] }
abbrev zz5 (h : Heap) (b c : Bool) (l m : Addr) : Heap := (zz4 h b c l m).push { cls := .type "zip", data := .fields #[.none, .bool false, .bool false, .ref (zz2 h b c l m).objs.size, .ref (zz3 h b c l m).objs.size] }
theorem meets_zip (b c : Bool) (l m : Addr) (xs ys : Array Value) :
    Meets (Builtin.«zip.__new__» ⟨[.type "zip", .ref l, .ref m], []⟩) (fun _ R s => SqAt b s.heap l xs ∧ SqAt c s.heap m ys ∧ R (.ok (.ret (.ref (zz4 s.heap b c l m).objs.size))) { s with heap := zz5 s.heap b c l m }) :=
  .of_wp fun prog w A R s h => by
    obtain ⟨hp, g, d, tk, os⟩ := s
    obtain ⟨h1, h2, h⟩ := h
    have hsub := sub_zip
    cases b <;> cases c
    · have L1 : Heap.IsTuple (Shared.heap ⟨hp, g, d, tk, os⟩) l xs := h1
      have L2 : Heap.IsTuple (Shared.heap ⟨hp.push { cls := .type "tuple_iterator", data := .fields #[.ref l, .int 0 0] }, g, d, tk, os⟩) m ys := Heap.IsTuple.push h2 _
      wp_walk using wpAny_pyIter_tuple L1, wpAny_pyIter_tuple L2
      exact ⟨_, rfl, h⟩
    · have L1 : Heap.IsTuple (Shared.heap ⟨hp, g, d, tk, os⟩) l xs := h1
      have L2 : Heap.IsList (Shared.heap ⟨hp.push { cls := .type "tuple_iterator", data := .fields #[.ref l, .int 0 0] }, g, d, tk, os⟩) m ys := Heap.IsList.push h2 _
      wp_walk using wpAny_pyIter_tuple L1, wpAny_pyIter_list L2
      exact ⟨_, rfl, h⟩
    · have L1 : Heap.IsList (Shared.heap ⟨hp, g, d, tk, os⟩) l xs := h1
      have L2 : Heap.IsTuple (Shared.heap ⟨hp.push { cls := .type "list_iterator", data := .fields #[.ref l, .int 0 0] }, g, d, tk, os⟩) m ys := Heap.IsTuple.push h2 _
      wp_walk using wpAny_pyIter_list L1, wpAny_pyIter_tuple L2
      exact ⟨_, rfl, h⟩
    · have L1 : Heap.IsList (Shared.heap ⟨hp, g, d, tk, os⟩) l xs := h1
      have L2 : Heap.IsList (Shared.heap ⟨hp.push { cls := .type "list_iterator", data := .fields #[.ref l, .int 0 0] }, g, d, tk, os⟩) m ys := Heap.IsList.push h2 _
      wp_walk using wpAny_pyIter_list L1, wpAny_pyIter_list L2
      exact ⟨_, rfl, h⟩
theorem itO_free (b : Bool) (a : Addr) : (itO b a).isFreed = false := by cases b <;> rfl
theorem itO_at {b : Bool} {h : Heap} {j a : Addr} (e : h.get? j = some (itO b a)) : ItAt b h j a 0 := by
  cases b
  · exact ⟨_, e, rfl, rfl⟩
  · exact ⟨_, e, rfl, rfl⟩
theorem call_zip {prog : Program} {w : World} {A : Around} {E : Value → Shared → Prop} {s : Shared} {b c : Bool} {l m : Addr} {xs ys : Array Value} {Q : Value → Shared → Prop} (h1 : SqAt b s.heap l xs) (h2 : SqAt c s.heap m ys)
    (q : ∀ g, IsZip g (s.heap.objs.size + 4) (s.heap.objs.size + 2) (s.heap.objs.size + 3) .none → IsPair g (s.heap.objs.size + 2) (.ref s.heap.objs.size) (.ref (s.heap.objs.size + 1)) →
      IsPair g (s.heap.objs.size + 3) .none .none → ItAt b g s.heap.objs.size l 0 → ItAt c g (s.heap.objs.size + 1) m 0 → g.objs.size = s.heap.objs.size + 5 →
      (∀ d o, s.heap.get? d = some o → g.get? d = some o) → Q (.ref (s.heap.objs.size + 4)) { s with heap := g }) :
    wpAny (model prog w) A (call (.type "zip") [.ref l, .ref m]) Q E s := by
  refine callType_new F.called_zip (by decide) (F.typeCall_zip_2 _ _) (F.newCall_zip_2 _ _) (fun obj => F.args_object_init_3 obj _ _) F.entry_zip_new (meets_zip b c l m xs ys) ⟨h1, h2, ?_⟩
  have y1 : (zz1 s.heap b l).objs.size = s.heap.objs.size + 1 := Heap.size_push ..
  have y2 : (zz2 s.heap b c l m).objs.size = s.heap.objs.size + 2 := by rw [Heap.size_push, y1]
  have y3 : (zz3 s.heap b c l m).objs.size = s.heap.objs.size + 3 := by rw [Heap.size_push, y2]
  have y4 : (zz4 s.heap b c l m).objs.size = s.heap.objs.size + 4 := by rw [Heap.size_push, y3]
  have y5 : (zz5 s.heap b c l m).objs.size = s.heap.objs.size + 5 := by rw [Heap.size_push, y4]
  have e5 : (zz5 s.heap b c l m).get? (zz4 s.heap b c l m).objs.size = some _ := Heap.get?_push_size _ rfl
  have e4 : (zz5 s.heap b c l m).get? (zz3 s.heap b c l m).objs.size = some _ := Heap.get?_push_of_some _ (Heap.get?_push_size _ rfl)
  have e3 : (zz5 s.heap b c l m).get? (zz2 s.heap b c l m).objs.size = some _ := Heap.get?_push_of_some _ (Heap.get?_push_of_some _ (Heap.get?_push_size _ rfl))
  have e2 : (zz5 s.heap b c l m).get? (zz1 s.heap b l).objs.size = some (itO c m) := Heap.get?_push_of_some _ (Heap.get?_push_of_some _ (Heap.get?_push_of_some _ (Heap.get?_push_size _ (itO_free ..))))
  have e1 : (zz5 s.heap b c l m).get? s.heap.objs.size = some (itO b l) := Heap.get?_push_of_some _ (Heap.get?_push_of_some _ (Heap.get?_push_of_some _ (Heap.get?_push_of_some _ (Heap.get?_push_size _ (itO_free ..)))))
  show _ ∧ _
  rw [y2, y3, y4] at e5
  rw [y1, y2] at e3
  rw [y3] at e4
  rw [y1] at e2
  rw [y4]
  exact ⟨⟨_, e5, rfl⟩, q _ e5 e3 e4 (itO_at e1) (itO_at e2) y5 fun d o x => Heap.get?_push_of_some _ (Heap.get?_push_of_some _ (Heap.get?_push_of_some _ (Heap.get?_push_of_some _ (Heap.get?_push_of_some _ x))))⟩

theorem meets_enum_tup (l : Addr) (its : Array Value) :
    Meets (Builtin.«enumerate.__new__» ⟨[.type "enumerate", .ref l], []⟩) (fun _ R s => s.heap.IsTuple l its ∧
      R (.ok (.ret (.ref (s.heap.push (itO false l)).objs.size))) { s with heap := (s.heap.push (itO false l)).push { cls := .type "enumerate", data := .fields #[.none, .bool false, .ref s.heap.objs.size, rawInt 0, .none, .none] } }) :=
  .of_wp fun prog w A R s h => by
    obtain ⟨hp, g, d, tk, os⟩ := s
    obtain ⟨hl, h⟩ := h
    have hsub := sub_enumerate
    have L1 : Heap.IsTuple (Shared.heap ⟨hp, g, d, tk, os⟩) l its := hl
    obtain ⟨ob, eo, co, no, dob⟩ := id hl
    replace eo : hp.get? l = some ob := eo
    wp_walk using AutoSeq1.wpAny_loadPart' eo
    refine wpAny_stack_any fun st => wpAny_pure ?_
    split
    · rename_i c _ _ _ _ _
      cases (c == Value.type "enumerate")
      · wp_walk using AutoSeq1.wpAny_loadPart' eo, wpAny_pyIter_tuple L1
        exact ⟨_, rfl, h⟩
      · wp_walk using AutoSeq1.wpAny_loadPart' eo, wpAny_pyIter_tuple L1
        exact ⟨_, rfl, h⟩
    · wp_walk using AutoSeq1.wpAny_loadPart' eo, wpAny_pyIter_tuple L1
      exact ⟨_, rfl, h⟩
end PySem

set_option Elab.async false
set_option linter.all false
set_option maxRecDepth 100000
set_option maxHeartbeats 4000000
namespace L2
open PySem PySem.Spec PyProof.Rows
section
variable {X : Cx} {pins : List (Addr × Obj)} {σ : St} {H : Hp} {s : Shared}

theorem Inv.turnedS {t' : Nat} {ch : List Addr} {h' : Heap} (I : Inv X pins σ H s) (hf : ∀ b ∈ ch, FpOk X pins H b) (k : ∀ b o, b ∉ ch → s.heap.get? b = some o → h'.get? b = some o) : Inv X pins σ H { s with heap := h', toks := t' } := by
  have nit : ∀ b u, H b = some u → b ∉ ch := fun b u e z => by rw [(hf b z).1] at e; cases e
  refine I.step (g' := s.gens) (d' := s.drawn) (ch := ch) (fun b hb => ?_) (fun b o _ _ hc e _ => k b o hc e) (fun b o _ _ hc e _ => ⟨o.slots, k b o hc e⟩) (fun _ _ _ _ n => n) (fun b o hc e => ⟨o, k b o hc e⟩) (fun _ _ e => e) (fun _ _ _ e => e) (fun b ps e => ⟨#[], by rw [e]; simp⟩) (fun m hm => ?_) (fun b u e => ?_) I.bare
  · obtain ⟨f0, f1, f2, f3, f4, f5⟩ := hf b hb
    exact ⟨f3, f1, f4, f5⟩
  · obtain ⟨o, es, ep, ho, r⟩ := hm
    exact ⟨o, es, ep, k _ o (fun z => (hf _ z).2.1 rfl) ho, r⟩
  · refine (I.hok b u e).stay (fun c v hc q => k c v ?_ q) (fun _ q => q) fun _ _ q => q
    rcases hc with z | z
    · rw [z]; exact nit b u e
    · exact nit c _ z

theorem Inv.turnedT {t' : Nat} {ch : List Addr} {h' : Heap} {T : Addr} {xs : List V} {its : List Value} (I : Inv X pins σ H s) (hf : ∀ b ∈ ch, FpOk X pins H b) (k : ∀ b o, b ∉ ch → s.heap.get? b = some o → h'.get? b = some o)
    (hT : s.heap.objs.size ≤ T) (hv : Vals xs its) (hz : xs.length ≤ sizeLine) (ht : IsTup h' T its.toArray) : Inv X pins σ (upd H T (.tup xs)) { s with heap := h', toks := t' } := by
  have nit : ∀ b u, H b = some u → b ∉ ch := fun b u e z => by rw [(hf b z).1] at e; cases e
  have hTn : H T = none := I.hok.fresh hT
  have nT : ∀ b o, s.heap.get? b = some o → b ≠ T := fun b o e => Nat.ne_of_lt (Nat.lt_of_lt_of_le (Heap.lt_size e) hT)
  refine I.step (g' := s.gens) (d' := s.drawn) (ch := ch) (fun b hb => ?_) (fun b o _ _ hc e _ => k b o hc e) (fun b o _ _ hc e _ => ⟨o.slots, k b o hc e⟩) (fun b o _ e n => by rw [upd_ne (nT b o e)]; exact n) (fun b o hc e => ⟨o, k b o hc e⟩)
    (fun b ys e => by rw [upd_ne (ne_of_none e hTn)]; exact e) (fun b o u e => by rw [upd_ne (ne_of_none e hTn)]; exact e) (fun b ps e => ⟨#[], by rw [upd_ne (ne_of_none e hTn), e]; simp⟩) (fun m hm => ?_) (fun b u e => ?_) I.bare
  · obtain ⟨f0, f1, f2, f3, f4, f5⟩ := hf b hb
    exact ⟨f3, f1, f4, f5⟩
  · obtain ⟨o, es, ep, ho, r⟩ := hm
    exact ⟨o, es, ep, k _ o (fun z => (hf _ z).2.1 rfl) ho, r⟩
  · by_cases hb : b = T
    · subst hb
      rw [upd_same] at e
      cases e
      exact ⟨hz, its, hv, ht⟩
    · rw [upd_ne hb] at e
      refine (I.hok b u e).stay (fun c v hc q => k c v ?_ q) (fun c q => by rw [upd_ne (ne_of_none q hTn)]; exact q) fun c ys q => by rw [upd_ne (ne_of_none q hTn)]; exact q
      rcases hc with z | z
      · rw [z]; exact nit b u e
      · exact nit c _ z

def Sq (b : Bool) (K : PySem.W.Frag) (H : Hp) (a : Addr) (xs : List V) : Prop := if b = true then SqL K H a xs else SqT K H a xs
theorem Sq.l {K : PySem.W.Frag} {a : Addr} {xs : List V} (h : H a = some (.lst xs)) : Sq true K H a xs := SqL.of h
theorem Sq.t {K : PySem.W.Frag} {a : Addr} {xs : List V} (h : H a = some (.tup xs)) : Sq false K H a xs := SqT.of h
theorem Inv.sq (I : Inv X pins σ H s) {b : Bool} {a : Addr} {xs : List V} (h : Sq b X.K H a xs) : ∃ its : List Value, Vals xs its ∧ SqAt b s.heap a its.toArray ∧ xs.length ≤ sizeLine := by
  cases b
  · exact I.tuple h
  · obtain ⟨its, r, p, z⟩ := I.list h
    exact ⟨its, r, p.isList, z⟩
theorem Inv.sq_inj (I : Inv X pins σ H s) {b : Bool} {a : Addr} {xs ys : List V} (h : Sq b X.K H a xs) (h' : Sq b X.K H a ys) : xs = ys := by
  cases b
  · exact I.tuple_inj h h'
  · exact I.list_inj h h'
theorem rd_ne {u : HO} {a b : Addr} (h : Rd H a u) (hn : H b = none) : a ≠ b := fun z => by
  subst z
  rcases h with h | ⟨o, h⟩ <;> (rw [hn] at h; cases h)
theorem Inv.sq_ne (I : Inv X pins σ H s) {b : Bool} {a c : Addr} {xs : List V} (h : Sq b X.K H a xs) (hf : FpOk X pins H c) : a ≠ c := by
  have key : ∀ o, X.K.lookup a = some o → a ≠ c := fun o e z => by
    subst z
    have e' := I.ok.mod.kin a o e
    rcases hf.2.2.2.1 with y | y
    · exact I.ok.noex a o e' y
    · exact absurd (Nat.lt_of_lt_of_le (Nat.lt_of_lt_of_le (Heap.lt_size e') I.ok.bsz) y) (Nat.lt_irrefl _)
  cases b
  · rcases h with h | ⟨o, its, n, hk, _⟩
    · exact rd_ne h hf.1
    · exact key o hk
  · rcases h with h | ⟨o, its, n, hk, _⟩
    · exact rd_ne h hf.1
    · exact key o hk
end
end L2

set_option Elab.async false
set_option linter.all false
set_option maxRecDepth 100000
set_option maxHeartbeats 4000000
namespace L2
open PySem PySem.Spec PyProof.Rows

def Ite (b : Bool) (K : PySem.W.Frag) (a : Addr) : It :=
  ⟨fun i H => ∃ xs x, Sq b K H a xs ∧ xs[i]? = some x, fun i H y H' => ∃ T, H T = none ∧ y = .ref T ∧ ∀ xs, Sq b K H a xs → ∃ x, xs[i]? = some x ∧ H' = upd H T (.tup [.int i, x]), fun i H => ∃ xs, Sq b K H a xs ∧ xs.length = i⟩
def Itz (b c : Bool) (K : PySem.W.Frag) (a d : Addr) : It :=
  ⟨fun i H => ∃ xs ys x y, Sq b K H a xs ∧ Sq c K H d ys ∧ xs[i]? = some x ∧ ys[i]? = some y, fun i H v H' => ∃ T, H T = none ∧ v = .ref T ∧ ∀ xs ys, Sq b K H a xs → Sq c K H d ys → ∃ x y, xs[i]? = some x ∧ ys[i]? = some y ∧ H' = upd H T (.tup [x, y]),
   fun i H => ∃ xs ys, Sq b K H a xs ∧ Sq c K H d ys ∧ (i = xs.length ∨ (i < xs.length ∧ i = ys.length))⟩
theorem two_size {a b : V} : ([a, b] : List V).length ≤ sizeLine := by show 2 ≤ sizeLine; decide
theorem get_arr {its : List Value} {i : Nat} {u : Value} (h : its[i]? = some u) : i < its.toArray.size := by
  have := (List.getElem?_eq_some_iff.mp h).1
  simpa using this
theorem turn_enum {P : Program} {w : World} {K : PySem.W.Frag} {es : List Expr} {kt : Nat} {tp : Pos} (b : Bool) (e j a : Addr) (hej : e ≠ j) :
    Turn P w K (.Tuple es kt tp) (Ite b K a) [e, j] e (fun i h => (∃ old, IsEnum h e j i old) ∧ ItAt b h j a i) where
  mem := by simp
  obj := fun i h st c hc => by
    obtain ⟨⟨old, he⟩, hj⟩ := st
    simp only [List.mem_cons, List.not_mem_nil, or_false] at hc
    rcases hc with rfl | rfl
    · exact ⟨_, he, fun v z => by
        have z' : Data.fields _ = Data.cell v := z
        cases z'⟩
    · exact hj.obj
  keep := fun i h h' st k => by
    obtain ⟨⟨old, he⟩, hj⟩ := st
    exact ⟨⟨old, k e (by simp) _ he⟩, hj.at fun o q => k j (by simp) o q⟩
  item := by
    intro X hP hw hK hc i pins s σ H E I hf st hg
    subst hP hw hK
    obtain ⟨⟨old, he⟩, hj⟩ := st
    obtain ⟨xs, x, hq, hx⟩ := hg
    obtain ⟨its, rv, p, hz⟩ := I.sq hq
    obtain ⟨u, hu, ru⟩ := rv.get hx
    have hae : a ≠ e := I.sq_ne hq (hf e (by simp))
    have haj : a ≠ j := I.sq_ne hq (hf j (by simp))
    have D := Draws.sq (prog := X.prog) (w := X.w) (A := X.A.in1) (show X.A.in1.handled = none from I.ok.hd hc) b j a haj its.toArray
    refine wpAny_pyNext_enum_itemD D he ⟨hj, p⟩ (get_arr hu) hej (by simp [hej, Ne.symm hae]) fun y h1 tk py ho s1 hT sz kk => ?_
    have ey : y = u := by
      have : its.toArray[i]? = some u := by simpa using hu
      exact Option.some.inj (py.symm.trans this)
    subst ey
    refine ⟨_, rfl, wpAny_letOwnedTupleGo_enum ho fun h2 he2 hs2 => ?_⟩
    have k2 : ∀ c o, c ∉ [e, j] → s.heap.get? c = some o → h2.get? c = some o := fun c o hcn q => (hs2.2 c fun z => hcn (by simp [z])).trans (kk c o (fun z => hcn (by simp [z])) (fun z => hcn (by simp [z])) q)
    have hTe : s.heap.objs.size ≠ e := Nat.ne_of_gt (Heap.lt_size he)
    have hT2 : IsTup h2 s.heap.objs.size ([.int i tk, y] : List Value).toArray := ⟨_, (hs2.2 _ hTe).trans hT, rfl, _, rfl⟩
    have hTn : H s.heap.objs.size = none := I.hok.fresh (Nat.le_refl _)
    refine ⟨.ref s.heap.objs.size, upd H s.heap.objs.size (.tup [.int i, x]), I.turnedT hf k2 (Nat.le_refl _) (.cons ⟨tk, rfl⟩ (.cons ru .nil)) two_size hT2, rfl, ⟨_, hTn, rfl, fun ys hy => ⟨x, by rw [I.sq_inj hy hq]; exact hx, rfl⟩⟩, ⟨⟨y, ?_⟩, ?_⟩, fun c hcm => ?_⟩
    · simpa using he2
    · exact s1.1.at fun o q => (hs2.2 j (Ne.symm hej)).trans q
    · have hne : c ≠ s.heap.objs.size := by
        simp only [List.mem_cons, List.not_mem_nil, or_false] at hcm
        rcases hcm with rfl | rfl
        · exact Ne.symm hTe
        · obtain ⟨o, ho', _⟩ := hj.obj
          exact Nat.ne_of_lt (Heap.lt_size ho')
      rw [upd_ne hne]
      exact (hf c hcm).1
  done := by
    intro X hP hw hK hc i pins s σ H E I hf st hg
    subst hP hw hK
    obtain ⟨⟨old, he⟩, hj⟩ := st
    obtain ⟨xs, hq, hx⟩ := hg
    obtain ⟨its, rv, p, hz⟩ := I.sq hq
    have haj : a ≠ j := I.sq_ne hq (hf j (by simp))
    have D := Draws.sq (prog := X.prog) (w := X.w) (A := X.A.in1) (show X.A.in1.handled = none from I.ok.hd hc) b j a haj its.toArray
    have hl : its.toArray.size = i := by have := rv.length; simp; omega
    refine wpAny_pyNext_enum_endD D he (by rw [hl]; exact ⟨hj, p⟩) fun h' kk => ⟨rfl, I.turnedS (t' := s.toks) hf fun c o hcn q => kk c o (fun z => hcn (by simp [z])) q⟩
  self := fun _ _ _ _ _ st h => by
    obtain ⟨⟨old, he⟩, hj⟩ := st
    exact wpAny_pyIter_enum he h
theorem call_enum {prog : Program} {w : World} {A : Around} {E : Value → Shared → Prop} {s : Shared} {b : Bool} {l : Addr} {its : Array Value} {Q : Value → Shared → Prop} (hL : SqAt b s.heap l its)
    (q : ∀ g, IsEnum g (s.heap.objs.size + 1) s.heap.objs.size 0 .none → ItAt b g s.heap.objs.size l 0 → g.objs.size = s.heap.objs.size + 2 → (∀ c o, s.heap.get? c = some o → g.get? c = some o) → Q (.ref (s.heap.objs.size + 1)) { s with heap := g }) :
    wpAny (model prog w) A (call (.type "enumerate") [.ref l]) Q E s := by
  cases b
  · refine callType_new F.called_enumerate (by decide) (F.typeCall_enumerate_1 _) (F.newCall_enumerate_1 _) (fun obj => F.args_object_init_2 obj _) F.entry_enumerate_new (meets_enum_tup l its) ⟨hL, ?_⟩
    have hz : (s.heap.push (itO false l)).objs.size = s.heap.objs.size + 1 := Heap.size_push ..
    show _ ∧ _
    rw [hz]
    have he := Heap.get?_push_size (s.heap.push (itO false l)) (o := { cls := .type "enumerate", data := .fields #[.none, .bool false, .ref s.heap.objs.size, rawInt 0, .none, .none] }) rfl
    rw [hz] at he
    refine ⟨⟨_, he, rfl⟩, q _ he (itO_at (Heap.get?_push_of_some _ (Heap.get?_push_size _ (itO_free ..)))) (by rw [Heap.size_push, hz]) fun c o x => Heap.get?_push_of_some _ (Heap.get?_push_of_some _ x)⟩
  · exact call_enumerate_list hL q
theorem turn_zip {P : Program} {w : World} {K : PySem.W.Frag} {es : List Expr} {kt : Nat} {tp : Pos} (b c : Bool) (z ti to i1 i2 a d : Addr) (N : [z, ti, to, i1, i2].Nodup) :
    Turn P w K (.Tuple es kt tp) (Itz b c K a d) [z, ti, to, i1, i2] z (fun i h => IsZip h z ti to .none ∧ IsPair h ti (.ref i1) (.ref i2) ∧ (∃ u v, IsPair h to u v) ∧ ItAt b h i1 a i ∧ ItAt c h i2 d i) where
  mem := by simp
  obj := fun i h st e he => by
    obtain ⟨g1, g2, ⟨u, v, g3⟩, g4, g5⟩ := st
    simp only [List.mem_cons, List.not_mem_nil, or_false] at he
    rcases he with rfl | rfl | rfl | rfl | rfl
    · exact ⟨_, g1, fun v z => by
        have z' : Data.fields _ = Data.cell v := z
        cases z'⟩
    · exact ⟨_, g2, fun v z => by
        have z' : Data.seq _ _ = Data.cell v := z
        cases z'⟩
    · exact ⟨_, g3, fun v z => by
        have z' : Data.seq _ _ = Data.cell v := z
        cases z'⟩
    · exact g4.obj
    · exact g5.obj
  keep := fun i h h' st k => by
    obtain ⟨g1, g2, ⟨u, v, g3⟩, g4, g5⟩ := st
    exact ⟨k z (by simp) _ g1, k ti (by simp) _ g2, ⟨u, v, k to (by simp) _ g3⟩, g4.at fun o q => k i1 (by simp) o q, g5.at fun o q => k i2 (by simp) o q⟩
  item := by
    intro X hP hw hK hc i pins s σ H E I hf st hg
    subst hP hw hK
    obtain ⟨g1, g2, ⟨u0, v0, g3⟩, g4, g5⟩ := st
    obtain ⟨xs, ys, x, y, hq, hr, hx, hy⟩ := hg
    obtain ⟨its, rv, p, hz⟩ := I.sq hq
    obtain ⟨itt, rt, pt, hzt⟩ := I.sq hr
    obtain ⟨u, hu, ru⟩ := rv.get hx
    obtain ⟨v, hv, rv'⟩ := rt.get hy
    have na : ∀ e ∈ [z, ti, to, i1, i2], e ≠ a := fun e he => Ne.symm (I.sq_ne hq (hf e he))
    have nd : ∀ e ∈ [z, ti, to, i1, i2], e ≠ d := fun e he => Ne.symm (I.sq_ne hr (hf e he))
    simp only [List.nodup_cons, List.mem_cons, List.not_mem_nil, or_false, not_or, List.nodup_nil, not_false_eq_true, and_true] at N
    obtain ⟨⟨n1, n2, n3, n4⟩, ⟨n5, n6, n7⟩, ⟨n8, n9⟩, n10⟩ := N
    have hh : X.A.in1.handled = none := I.ok.hd hc
    have D1 := Draws.sq (prog := X.prog) (w := X.w) (A := X.A.in1) hh b i1 a (Ne.symm (na i1 (by simp))) its.toArray
    have D2 := Draws.sq (prog := X.prog) (w := X.w) (A := X.A.in1) hh c i2 d (Ne.symm (nd i2 (by simp))) itt.toArray
    have Z : ZA z ti to i1 i2 [i1, a] [i2, d] := ⟨Ne.symm n1, Ne.symm n2, Ne.symm n3, Ne.symm n4, n5, n6, n7, n8, n9, n10, by simp [n3, na], by simp [n8, na], by simp [Ne.symm n10, na], by simp [n4, nd], by simp [n9, nd], by simp [n10, nd]⟩
    refine next_zip_item Z D1 D2 g1 g2 g3 ⟨g4, p⟩ ⟨g5, pt⟩ (get_arr hu) (get_arr hv) fun x' y' h1 tk px py hz1 hto1 s1 s2 hT sz kk => ?_
    have ex : x' = u := by
      have : its.toArray[i]? = some u := by simpa using hu
      exact Option.some.inj (px.symm.trans this)
    have ey : y' = v := by
      have : itt.toArray[i]? = some v := by simpa using hv
      exact Option.some.inj (py.symm.trans this)
    subst ex ey
    refine ⟨_, rfl, wpAny_letOwnedTupleGo_zip hz1 fun h2 hz2 hs2 => ?_⟩
    have k2 : ∀ e o, e ∉ [z, ti, to, i1, i2] → s.heap.get? e = some o → h2.get? e = some o := fun e o he q =>
      (hs2.2 e fun w => he (by simp [w])).trans (kk e o (fun w => he (by simp [w])) (fun w => he (by simp [w])) (fun w => he (by simp [w])) (fun w => he (by simp [w])) q)
    have hTz : s.heap.objs.size ≠ z := Nat.ne_of_gt (Heap.lt_size g1)
    have hT2 : IsTup h2 s.heap.objs.size ([x', y'] : List Value).toArray := ⟨_, (hs2.2 _ hTz).trans hT, rfl, _, rfl⟩
    have hTn : H s.heap.objs.size = none := I.hok.fresh (Nat.le_refl _)
    refine ⟨.ref s.heap.objs.size, upd H s.heap.objs.size (.tup [x, y]), I.turnedT hf k2 (Nat.le_refl _) (.cons ru (.cons rv' .nil)) two_size hT2, rfl,
      ⟨_, hTn, rfl, fun xs' ys' hx' hy' => ⟨x, y, by rw [I.sq_inj hx' hq]; exact hx, by rw [I.sq_inj hy' hr]; exact hy, rfl⟩⟩, ⟨hz2, ?_, ⟨_, _, (hs2.2 to (Ne.symm n2)).trans hto1⟩, s1.1.at fun o q => (hs2.2 i1 (Ne.symm n3)).trans q, s2.1.at fun o q => (hs2.2 i2 (Ne.symm n4)).trans q⟩, fun e he => ?_⟩
    · exact (hs2.2 ti (Ne.symm n1)).trans (kk ti _ (Ne.symm n1) n5 n6 n7 g2)
    · have hne : e ≠ s.heap.objs.size := by
        simp only [List.mem_cons, List.not_mem_nil, or_false] at he
        rcases he with rfl | rfl | rfl | rfl | rfl
        · exact Ne.symm hTz
        · exact Nat.ne_of_lt (Heap.lt_size g2)
        · exact Nat.ne_of_lt (Heap.lt_size g3)
        · obtain ⟨o, ho', _⟩ := g4.obj
          exact Nat.ne_of_lt (Heap.lt_size ho')
        · obtain ⟨o, ho', _⟩ := g5.obj
          exact Nat.ne_of_lt (Heap.lt_size ho')
      rw [upd_ne hne]
      exact (hf e he).1
  done := by
    intro X hP hw hK hc i pins s σ H E I hf st hg
    subst hP hw hK
    obtain ⟨g1, g2, ⟨u0, v0, g3⟩, g4, g5⟩ := st
    obtain ⟨xs, ys, hq, hr, hx⟩ := hg
    obtain ⟨its, rv, p, hz⟩ := I.sq hq
    obtain ⟨itt, rt, pt, hzt⟩ := I.sq hr
    have na : ∀ e ∈ [z, ti, to, i1, i2], e ≠ a := fun e he => Ne.symm (I.sq_ne hq (hf e he))
    have nd : ∀ e ∈ [z, ti, to, i1, i2], e ≠ d := fun e he => Ne.symm (I.sq_ne hr (hf e he))
    simp only [List.nodup_cons, List.mem_cons, List.not_mem_nil, or_false, not_or, List.nodup_nil, not_false_eq_true, and_true] at N
    obtain ⟨⟨n1, n2, n3, n4⟩, ⟨n5, n6, n7⟩, ⟨n8, n9⟩, n10⟩ := N
    have hh : X.A.in1.handled = none := I.ok.hd hc
    have D1 := Draws.sq (prog := X.prog) (w := X.w) (A := X.A.in1) hh b i1 a (Ne.symm (na i1 (by simp))) its.toArray
    have D2 := Draws.sq (prog := X.prog) (w := X.w) (A := X.A.in1) hh c i2 d (Ne.symm (nd i2 (by simp))) itt.toArray
    have Z : ZA z ti to i1 i2 [i1, a] [i2, d] := ⟨Ne.symm n1, Ne.symm n2, Ne.symm n3, Ne.symm n4, n5, n6, n7, n8, n9, n10, by simp [n3, na], by simp [n8, na], by simp [Ne.symm n10, na], by simp [n4, nd], by simp [n9, nd], by simp [n10, nd]⟩
    have l1 := rv.length
    have l2 := rt.length
    exact next_zip_end Z D1 D2 g1 g2 g3 ⟨g4, p⟩ ⟨g5, pt⟩ (by simp only [List.size_toArray]; omega) fun h' tk kk => ⟨rfl, I.turnedS hf fun e o he q => kk e o (fun w => he (by simp [w])) (fun w => he (by simp [w])) (fun w => he (by simp [w])) (fun w => he (by simp [w])) q⟩
  self := fun _ _ _ _ _ st h => wpAny_pyIter_zip st.1 h
section
variable {X : Cx}
def iEnum (K : PySem.W.Frag) (ta : TA) : TI := fun σ H R => ta σ H fun vs H1 => match vs with
  | [.ref a] => ∃ b xs, Sq b K H1 a xs ∧ R (Ite b K a) H1
  | _ => False
def iZip (K : PySem.W.Frag) (ta : TA) : TI := fun σ H R => ta σ H fun vs H1 => match vs with
  | [.ref a, .ref d] => ∃ b c xs ys, Sq b K H1 a xs ∧ Sq c K H1 d ys ∧ R (Itz b c K a d) H1
  | _ => False
theorem pi_enum {es : List Expr} {kt : Nat} {tp : Pos} {a : Expr} {ta : TA} {p pos : Pos} (hg : Gl X "enumerate") (hm : X.mg "enumerate" = none) (ha : PA X [a] ta) (hs : starEach [a] X.env = [(false, eval a X.env)] := by rfl) :
    PI X (.Tuple es kt tp) (.Call (.Name "enumerate" p) [a] [] pos) (iEnum X.K ta) := by
  refine ⟨?_⟩
  intro pins s σ H R I h
  refine Call_ (ld_blt I hg hm boot_enumerate (PyProof.Rows.callWith_type1 (thn (ha pos pins s σ H _ I h) fun us s1 ⟨vs, H1, I1, r1, q1⟩ => ?_) (by rw [hs]; rfl) rfl))
  match vs, r1, q1 with
  | [.ref a], r1, q1 =>
    obtain ⟨b, xs, hq, q⟩ := q1
    cases r1 with
    | cons r rr =>
      cases rr
      cases r
      obtain ⟨its, rv, p, hz⟩ := I1.sq hq
      refine call_enum p fun g e1 e2 sz kk => wpAny_pyIter_enum e1 ?_
      have I2 : Inv X pins σ H1 { s1 with heap := g } := I1.kept (t' := s1.toks) kk
      refine ⟨_, [s1.heap.objs.size + 1, s1.heap.objs.size], _, _, H1, rfl, I2, turn_enum b _ _ a (Nat.succ_ne_self _), ⟨⟨_, e1⟩, e2⟩, fun c hc => ?_, q⟩
      have hc' : s1.heap.objs.size ≤ c := by
        simp only [List.mem_cons, List.not_mem_nil, or_false] at hc
        rcases hc with rfl | rfl
        · exact Nat.le_succ _
        · exact Nat.le_refl _
      exact I1.fpOk hc' (I1.hok.fresh hc')
theorem pi_zip {es : List Expr} {kt : Nat} {tp : Pos} {a b : Expr} {ta : TA} {p pos : Pos} (hg : Gl X "zip") (hm : X.mg "zip" = none) (ha : PA X [a, b] ta) (hs : starEach [a, b] X.env = [(false, eval a X.env), (false, eval b X.env)] := by rfl) (hs2 : starEach [b] X.env = [(false, eval b X.env)] := by rfl) :
    PI X (.Tuple es kt tp) (.Call (.Name "zip" p) [a, b] [] pos) (iZip X.K ta) := by
  refine ⟨?_⟩
  intro pins s σ H R I h
  refine Call_ (ld_blt I hg hm boot_zip (PyProof.Rows.callWith_type1 (thn (ha pos pins s σ H _ I h) fun us s1 ⟨vs, H1, I1, r1, q1⟩ => ?_) (by rw [hs, hs2]) (by rw [hs2]; rfl)))
  match vs, r1, q1 with
  | [.ref a, .ref d], r1, q1 =>
    obtain ⟨b, c, xs, ys, hq, hr, q⟩ := q1
    cases r1 with
    | cons r rr =>
      cases rr with
      | cons r' rr =>
        cases rr
        cases r
        cases r'
        obtain ⟨its, rv, p1, hz⟩ := I1.sq hq
        obtain ⟨itt, rt, p2, hzt⟩ := I1.sq hr
        refine call_zip p1 p2 fun g e1 e2 e3 e4 e5 sz kk => wpAny_pyIter_zip e1 ?_
        have I2 : Inv X pins σ H1 { s1 with heap := g } := I1.kept (t' := s1.toks) kk
        refine ⟨_, [s1.heap.objs.size + 4, s1.heap.objs.size + 2, s1.heap.objs.size + 3, s1.heap.objs.size, s1.heap.objs.size + 1], _, _, H1, rfl, I2, turn_zip b c _ _ _ _ _ a d ?_, ⟨e1, e2, ⟨_, _, e3⟩, e4, e5⟩, fun e he => ?_, q⟩
        · simp
        · have hc' : s1.heap.objs.size ≤ e := by
            simp only [List.mem_cons, List.not_mem_nil, or_false] at he
            rcases he with rfl | rfl | rfl | rfl | rfl
            · exact Nat.le_add_right _ _
            · exact Nat.le_add_right _ _
            · exact Nat.le_add_right _ _
            · exact Nat.le_refl _
            · exact Nat.le_add_right _ _
          exact I1.fpOk hc' (I1.hok.fresh hc')
end
end L2

set_option Elab.async false
set_option linter.all false
set_option maxRecDepth 100000
set_option maxHeartbeats 4000000
namespace HT
open PySem PyProof.Rows
section
variable {prog : Program} {w : World} {A : Around} {E : Value → Shared → Prop} {s : Shared}
theorem getItem_tuple_all {t sl : Addr} {items : Array Value} {vl vu : Value} {lo hi : Option Int} {Q : Value → Shared → Prop} (ht : IsTup s.heap t items) (hs : s.heap.IsSliceOf sl vl vu .none) (pl : IsPart vl lo) (pu : IsPart vu hi)
    (hw : sIx items.size 0 lo = 0 ∧ sIx items.size items.size hi = items.size) (h : Q (.ref t) s) : wpAny (model prog w) A (getItem (.ref t) (.ref sl)) Q E s := by
  obtain ⟨os, hos, hcs, hds⟩ := id hs
  have hTs : s.TypeIs (.ref sl) "slice" := ⟨os, hos, hcs⟩
  unfold getItem
  try with_reducible refine wpAny_holding ?_
  first | refine wpAny_bind (wpAny_pure ?_) | skip
  refine wpAny_bind (wpAny_sequenceKey ht.typeIs (by decide) (wpAny_bind (wpAny_callSpecial?_slot (name := Str.ofString "__getitem__") ht.typeIs PyProof.Rows.slot_tuple_getitem
    (wpAny_call_entry PyProof.Rows.slot_tuple_getitem ht.typeIs entry_tuple_getitem ?_ (args_tuple_getitem _ _)))))
  refine wpAny_bind (m := Builtin.Tuple.tupleItemsOf (.ref t)) (tupleItemsOf_ ht (wpAny_bind (wpAny_typeOf hTs ?_)))
  rw [if_pos (by decide)]
  refine wpAny_bind (sliceApplied_gen hs pl pu ?_)
  have hyes : (((sIx items.size 0 lo : Nat) : Int) == 0 && (1 : Int) == 1 && (sIx items.size items.size hi - sIx items.size 0 lo) == items.size) = true := by
    rw [hw.1, hw.2]
    simp
  show wpAny _ _ (if (((sIx items.size 0 lo : Nat) : Int) == 0 && (1 : Int) == 1 && (sIx items.size items.size hi - sIx items.size 0 lo) == items.size) = true then _ else _) _ _ s
  rw [if_pos hyes]
  refine wpAny_bind (m := Builtin.Tuple.tupleIsExact (.ref t)) ?_
  unfold Builtin.Tuple.tupleIsExact
  refine wpAny_bind (wpAny_typeOf ht.typeIs (wpAny_pure ?_))
  rw [if_pos (by decide)]
  exact wpAny_bind (wpAny_rule (wpAny_pure ⟨_, rfl, wpAny_pure h⟩))
end
end HT
namespace L2
open PySem PySem.Spec PyProof.Rows
section
variable {X : Cx}

def uSl : V → Option Int → Option Int → Hp → VK → Prop := fun x lo hi H Q => match x with
  | .ref a => (∃ xs, H a = some (.lst xs) ∧ ∀ p, H p = none → Q (.ref p) (upd H p (.lst (cutV xs lo hi)))) ∨ (∃ xs, H a = some (.tup xs) ∧ ∀ p H', Same H H' → H' p = some (.tup (cutV xs lo hi)) → Q (.ref p) H')
  | _ => False
theorem uSl_r {a : Addr} {lo hi : Option Int} {H : Hp} {Q : VK} : uSl (.ref a) lo hi H Q = ((∃ xs, H a = some (.lst xs) ∧ ∀ p, H p = none → Q (.ref p) (upd H p (.lst (cutV xs lo hi)))) ∨ (∃ xs, H a = some (.tup xs) ∧ ∀ p H', Same H H' → H' p = some (.tup (cutV xs lo hi)) → Q (.ref p) H')) := rfl
theorem sl_u : SlR X uSl := by
  intro pins s σ H x v vl vu lo hi sl Q I rx hs pl pu h
  cases x <;> first
    | exact (show False from h).elim
    | skip
  rename_i a
  rcases h with ⟨xs, hx, q⟩ | ⟨xs, hx, q⟩
  · exact sl_list pins s σ H _ v vl vu lo hi sl Q I rx hs pl pu ⟨a, xs, rfl, SqL.of hx, q⟩
  · by_cases hw : HT.sIx xs.length 0 lo = 0 ∧ HT.sIx xs.length xs.length hi = xs.length
    · cases rx
      obtain ⟨its, r, ht, hz⟩ := I.tuple (SqT.of hx)
      have hlen : its.toArray.size = xs.length := by rw [List.size_toArray]; exact r.length.symm
      refine ⟨"tuple", _, PyProof.Rows.slot_tuple_getitem.lookup, ht.typeIs, HT.getItem_tuple_all ht hs pl pu (by rw [hlen]; exact hw) ⟨.ref a, H, I, rfl, q a H (Same.refl H) ?_⟩⟩
      have e : cutV xs lo hi = xs := by
        unfold cutV
        rw [hw.1, hw.2]
        simp
      rw [e]; exact hx
    · exact sl_tup pins s σ H _ v vl vu lo hi sl Q I rx hs pl pu ⟨a, xs, rfl, SqT.of hx, hw, fun p hp => q p _ (Same.new _ hp) upd_same⟩
theorem pe_slu {e : Expr} {te : TE} {lo hi : Option Expr} {tl th : TO} {pos p2 : Pos} (he : PE X e te) (hl : PO X lo tl) (hu : PO X hi th) : PE X (.Subscript e (.Slice lo hi none p2) pos) (tSl uSl te tl th) := pe_slice sl_u he hl hu

def uAd : R2 := fun x y H Q => match x, y with
  | .int i, .int j => Q (.int (i + j)) H
  | .str i, .str j => i.length + j.length ≤ sizeLine ∧ Q (.str (i ++ j)) H
  | .ref a, .ref b => (∃ xs zs, H a = some (.lst xs) ∧ H b = some (.lst zs) ∧ xs.length + zs.length ≤ sizeLine ∧ ∀ p, H p = none → Q (.ref p) (upd H p (.lst (xs ++ zs)))) ∨
      (∃ xs zs, H a = some (.tup xs) ∧ H b = some (.tup zs) ∧ xs.length + zs.length ≤ sizeLine ∧ ∀ p H', Same H H' → H' p = some (.tup (xs ++ zs)) → Q (.ref p) H')
  | _, _ => False
theorem uAd_ii {i j : Int} {H : Hp} {Q : VK} : uAd (.int i) (.int j) H Q = Q (.int (i + j)) H := rfl
theorem uAd_ss {i j : Str} {H : Hp} {Q : VK} : uAd (.str i) (.str j) H Q = (i.length + j.length ≤ sizeLine ∧ Q (.str (i ++ j)) H) := rfl
theorem uAd_rr {a b : Addr} {H : Hp} {Q : VK} : uAd (.ref a) (.ref b) H Q = ((∃ xs zs, H a = some (.lst xs) ∧ H b = some (.lst zs) ∧ xs.length + zs.length ≤ sizeLine ∧ ∀ p, H p = none → Q (.ref p) (upd H p (.lst (xs ++ zs)))) ∨
      (∃ xs zs, H a = some (.tup xs) ∧ H b = some (.tup zs) ∧ xs.length + zs.length ≤ sizeLine ∧ ∀ p H', Same H H' → H' p = some (.tup (xs ++ zs)) → Q (.ref p) H')) := rfl
theorem op_uAd : OpR X (binaryOp .Add) uAd := by
  intro pins s σ H x y v u Q I rx ry h
  cases x <;> cases y <;> first
    | exact (show False from h).elim
    | exact op_add pins s σ H _ _ v u Q I rx ry ⟨_, _, rfl, rfl, h⟩
    | exact op_add_str pins s σ H _ _ v u Q I rx ry ⟨_, _, rfl, rfl, h.1, h.2⟩
    | skip
  rename_i a b
  rcases h with ⟨xs, zs, h1, h2, h3, h4⟩ | ⟨xs, zs, h1, h2, h3, h4⟩
  · exact op_cat pins s σ H _ _ v u Q I rx ry ⟨_, _, xs, zs, rfl, rfl, h1, h2, h3, h4⟩
  · by_cases hx : xs = []
    · subst hx
      cases rx
      cases ry
      obtain ⟨its, r1, p1, _⟩ := I.tuple (SqT.of h1)
      obtain ⟨its2, r2, p2, _⟩ := I.tuple (SqT.of h2)
      cases r1
      obtain ⟨⟨cls, dd, data, sl⟩, ho, hc, n, hd⟩ := id p1
      obtain ⟨⟨cls2, dd2, data2, sl2⟩, ho2, hc2, n2, hd2⟩ := id p2
      simp only at hc hd hc2 hd2
      subst hc hd hc2 hd2
      exact concat_meets ⟨_, ho, rfl⟩ ⟨_, ho2, rfl⟩ noFill_tuple_add seq_tuple_add PySem.F.slot_tuple_add PySem.F.entry_tuple_add (PySem.F.args_tuple_add_2 _ _)
        (tuple_addW0 a b _ _ n n2 dd dd2 sl sl2 (by simp)) ⟨ho, ho2, ⟨.ref b, H, I, rfl, h4 b H (Same.refl H) (by simpa using h2)⟩⟩
    · refine op_catT pins s σ H _ _ v u Q I rx ry ⟨_, _, xs, zs, rfl, rfl, SqT.of h1, SqT.of h2, hx, h3, fun z => ?_, fun _ p hp => h4 p _ (Same.new _ hp) upd_same⟩
      subst z
      exact h4 a H (Same.refl H) (by simpa using h1)

def uAll (K : PySem.W.Frag) : List V → Hp → VK → Prop := fun xs H Q => match xs with
  | [.ref p] => ∃ bs : List Bool, SqL K H p (bs.map V.bl) ∧ Q (.bl (bs.all id)) H
  | _ => False
theorem uAll_1 {K : PySem.W.Frag} {p : Addr} {H : Hp} {Q : VK} : uAll K [.ref p] H Q = ∃ bs : List Bool, SqL K H p (bs.map V.bl) ∧ Q (.bl (bs.all id)) H := rfl
def uAny (K : PySem.W.Frag) : List V → Hp → VK → Prop := fun xs H Q => match xs with
  | [.ref p] => ∃ bs : List Bool, SqL K H p (bs.map V.bl) ∧ Q (.bl (bs.any id)) H
  | _ => False
theorem uAny_1 {K : PySem.W.Frag} {p : Addr} {H : Hp} {Q : VK} : uAny K [.ref p] H Q = ∃ bs : List Bool, SqL K H p (bs.map V.bl) ∧ Q (.bl (bs.any id)) H := rfl
theorem vals_bl : ∀ {bs : List Bool} {us : List Value}, Vals (bs.map V.bl) us → us = bs.map Value.bool
  | [], _, .nil => rfl
  | b :: bs, _, .cons r t => by
    cases r
    rw [vals_bl t]; rfl
theorem all_range : ∀ (bs : List Bool), ((List.range bs.length).all fun i => bs.getD i false) = bs.all id := by
  intro bs
  induction bs with
  | nil => rfl
  | cons b r ih =>
    rw [List.length_cons, List.range_succ_eq_map, List.all_cons, List.all_map, List.all_cons]
    have : ((fun i => (b :: r).getD i false) ∘ Nat.succ) = fun i => r.getD i false := by funext i; simp
    rw [this, ih]; rfl
theorem truth_bl {prog : Program} {w : World} {A : Around} {bs : List Bool} : TruthOf prog w A (fun i v => (bs.map Value.bool).toArray[i]? = some v) (fun i => bs.getD i false) := by
  intro i v s Q E hp hq
  have hp' : (bs.map Value.bool)[i]? = some v := by simpa using hp
  rw [List.getElem?_map] at hp'
  cases hb : bs[i]? with
  | none => rw [hb] at hp'; cases hp'
  | some b =>
    rw [hb] at hp'
    cases hp'
    have : bs.getD i false = b := by rw [List.getD_eq_getElem?_getD, hb]; rfl
    replace hq : Q (bs.getD i false) s := hq
    rw [this] at hq
    exact wpAny_truthy_bool hq
theorem call_uall (hc : X.calm = true) : CallR X (.builtin "all") (uAll X.K) := by
  intro pins s σ H xs us Q I r h
  match xs, r, h with
  | [.ref p], r, h =>
    obtain ⟨bs, hq, q⟩ := h
    obtain ⟨u, rfl, ru⟩ := Vals.one r
    cases ru
    obtain ⟨its, rv, pl, hz⟩ := I.list hq
    have e := vals_bl rv
    subst e
    refine call_all_walk (wpAny_pyIter_list pl.isList ⟨s.heap.objs.size, _, _, _, _, _, fun i => bs.getD i false, rfl, Walks.list (show X.A.in1.handled = none from I.ok.hd hc) _ p ?_ (bs.map Value.bool).toArray, ⟨⟨_, Heap.get?_push_size _ rfl, rfl, rfl⟩, pl.isList.push _⟩, truth_bl, fun h' tk kk => ?_⟩)
    · obtain ⟨o, e, _⟩ := pl.isList
      exact Nat.ne_of_lt (Heap.lt_size e)
    · have : (bs.map Value.bool).toArray.size = bs.length := by simp
      rw [this, all_range]
      exact ⟨.bl _, H, I.kept fun b o e => kk b o (by simp [Nat.ne_of_lt (Heap.lt_size e)]) (Heap.get?_push_of_some _ e), rfl, q⟩
def uSum1 : List V → Hp → VK → Prop := fun xs H Q => match xs with
  | [.ref p] => (H p = some (.tup []) ∧ Q (.int 0) H) ∨ (∃ i : Int, H p = some (.tup [.int i]) ∧ -(2 ^ 63) ≤ i ∧ i < 2 ^ 63 ∧ Q (.int i) H)
  | _ => False
theorem uSum1_1 {p : Addr} {H : Hp} {Q : VK} : uSum1 [.ref p] H Q = ((H p = some (.tup []) ∧ Q (.int 0) H) ∨ (∃ i : Int, H p = some (.tup [.int i]) ∧ -(2 ^ 63) ≤ i ∧ i < 2 ^ 63 ∧ Q (.int i) H)) := rfl
def tysOf : List V → Option (List Value)
  | [] => some []
  | .ty n :: r => (tysOf r).map (.type n :: ·)
  | _ => none
theorem tys_vals : ∀ {xs : List V} {us ts : List Value}, Vals xs us → tysOf xs = some ts → us = ts
  | [], _, _, .nil, h => by cases h; rfl
  | x :: xs, _, ts, .cons r t, h => by
    cases x <;> first
      | cases h
      | (rename_i n
         unfold tysOf at h
         obtain ⟨ts', h1, h2⟩ := Option.map_eq_some_iff.mp h
         cases r
         rw [← h2, tys_vals t h1])
def uIsI (K : PySem.W.Frag) : List V → Hp → VK → Prop := fun xs H Q => match xs with
  | [x, .ty n] => ∃ t b, TyOf K H x t ∧ PySem.W.kitOne K t (.type n) = some b ∧ Q (.bl b) H
  | [x, .ref p] => ∃ t b zs ts, TyOf K H x t ∧ H p = some (.tup zs) ∧ tysOf zs = some ts ∧ PySem.W.kitAny K t ts = some b ∧ Q (.bl b) H
  | _ => False
theorem uIsI_t {K : PySem.W.Frag} {x : V} {n : String} {H : Hp} {Q : VK} : uIsI K [x, .ty n] H Q = ∃ t b, TyOf K H x t ∧ PySem.W.kitOne K t (.type n) = some b ∧ Q (.bl b) H := rfl
theorem uIsI_r {K : PySem.W.Frag} {x : V} {p : Addr} {H : Hp} {Q : VK} : uIsI K [x, .ref p] H Q = ∃ t b zs ts, TyOf K H x t ∧ H p = some (.tup zs) ∧ tysOf zs = some ts ∧ PySem.W.kitAny K t ts = some b ∧ Q (.bl b) H := rfl
theorem isinst_tup {x : V} {u t : Value} {pins : List (Addr × Obj)} {σ : St} {H : Hp} {s : Shared} {A : Around} {E : Value → Shared → Prop} {Q : Value → Shared → Prop} {b : Bool} {tp : Addr} {ts : List Value} (I : Inv X pins σ H s) (rx : RelV x u) (ty : TyOf X.K H x t)
    (ht : IsTup s.heap tp ts.toArray) (e : PySem.W.kitAny X.K t ts = some b) (h : ∀ tk, Q (.bool b) { s with toks := tk }) : wpAny (model X.prog X.w) A (call (.builtin "isinstance") [u, .ref tp]) Q E s := by
  obtain ⟨⟨cls, dd, data, sl⟩, ho, hc, n, hd⟩ := id ht
  simp only at hc hd
  subst hc hd
  cases ty with
  | non => cases (show u = Value.none from rx); exact PySem.W.kia_tup PySem.W.kitx_none I.kIn True.intro ho e (fun z => nomatch z) h
  | bl y => cases (show u = Value.bool y from rx); exact PySem.W.kia_tup PySem.W.kitx_bool I.kIn True.intro ho e (fun z => nomatch z) h
  | int i => obtain ⟨t, q⟩ := (show ∃ t, u = Value.int i t from rx); cases q; exact PySem.W.kia_tup PySem.W.kitx_int I.kIn True.intro ho e (fun z => nomatch z) h
  | str y => obtain ⟨t, q⟩ := (show ∃ t, u = Value.str y t from rx); cases q; exact PySem.W.kia_tup PySem.W.kitx_str I.kIn True.intro ho e (fun z => nomatch z) h
  | flt y => obtain ⟨t, q⟩ := (show ∃ t, u = Value.float y t from rx); cases q; exact PySem.W.kia_tup PySem.W.kitx_float I.kIn True.intro ho e (fun z => nomatch z) h
  | @lst a xs ea =>
    cases (show u = Value.ref a from rx)
    obtain ⟨_, _, n, _, h1⟩ := (show ObjOk X.prog X.w H s.heap a (.lst xs) from I.hok a _ ea)
    exact PySem.W.kia_tup PySem.W.kitx_list I.kIn ⟨_, h1, rfl⟩ ho e (fun z => nomatch z) h
  | @frz a ob xs ea =>
    cases (show u = Value.ref a from rx)
    obtain ⟨_, _, _, n, _, h1⟩ := (show ObjOk X.prog X.w H s.heap a (.frz ob (.lst xs)) from I.hok a _ ea)
    exact PySem.W.kia_tup PySem.W.kitx_list I.kIn ⟨_, h1, rfl⟩ ho e (fun z => nomatch z) h
  | @tup a xs ea =>
    cases (show u = Value.ref a from rx)
    obtain ⟨_, _, _, p⟩ := (show ObjOk X.prog X.w H s.heap a (.tup xs) from I.hok a _ ea)
    obtain ⟨o, h1, h2, _⟩ := p
    exact PySem.W.kia_tup PySem.W.kitx_tuple I.kIn ⟨o, h1, h2⟩ ho e (fun z => nomatch z) h
  | @dK a kvs ea =>
    cases (show u = Value.ref a from rx)
    obtain ⟨_, _, vs, _, p⟩ := (show ObjOk X.prog X.w H s.heap a (.dK kvs) from I.hok a _ ea)
    obtain ⟨o, es, ep, h1, h2, _⟩ := p
    exact PySem.W.kia_tup PySem.W.kitx_dict I.kIn ⟨o, h1, h2.1⟩ ho e (fun z => nomatch z) h
  | @dT a kvs ea =>
    cases (show u = Value.ref a from rx)
    obtain ⟨_, _, xs, _, o, es, ep, h1, h2, _⟩ := (show ObjOk X.prog X.w H s.heap a (.dT kvs) from I.hok a _ ea)
    exact PySem.W.kia_tup PySem.W.kitx_dict I.kIn ⟨o, h1, h2.1⟩ ho e (fun z => nomatch z) h
  | @ins a C dx fs ea cl ha hn htk hm =>
    cases (show u = Value.ref a from rx)
    obtain ⟨mA, O, _⟩ := ins_get I.hok ea
    obtain ⟨od, J, _⟩ := O.look
    exact PySem.W.kia_tup (PySem.W.kitx_own (cl.get _) cl.hd ha hn htk hm) I.kIn J ho e (fun z => nomatch z) h
theorem call_isI : CallR X (.builtin "isinstance") (uIsI X.K) := by
  intro pins s σ H xs us Q I r h
  match xs, r, h with
  | [x, .ty n], r, h =>
    obtain ⟨t, b, ty, e, q⟩ := h
    obtain ⟨u, w', rfl, rx, rn⟩ := vals2 r
    cases rn
    exact isinst_ok I rx ty e fun tk => ⟨.bl b, H, I.tok _, rfl, q⟩
  | [x, .ref p], r, h =>
    obtain ⟨t, b, zs, ts, ty, hp, hts, e, q⟩ := h
    obtain ⟨u, w', rfl, rx, rn⟩ := vals2 r
    cases rn
    obtain ⟨its, rv, pl, hz⟩ := I.tuple (SqT.of hp)
    have e2 := tys_vals rv hts
    subst e2
    exact isinst_tup I rx ty pl e fun tk => ⟨.bl b, H, I.tok _, rfl, q⟩
end
end L2

set_option Elab.async false
set_option linter.all false
set_option maxRecDepth 100000
set_option maxHeartbeats 4000000
namespace L2
open PySem PySem.Spec PyProof.Rows
section
variable {X : Cx}

def uApp : V → List V → Hp → VK → Prop := fun x vs H Q => match x, vs with
  | .ref l, [y] => ∃ xs, H l = some (.lst xs) ∧ xs.length < sizeLine ∧ Q .non (upd H l (.lst (xs ++ [y])))
  | _, _ => False
theorem uApp_r {l : Addr} {y : V} {H : Hp} {Q : VK} : uApp (.ref l) [y] H Q = ∃ xs, H l = some (.lst xs) ∧ xs.length < sizeLine ∧ Q .non (upd H l (.lst (xs ++ [y]))) := rfl
theorem mt_uapp : MtR X "list.append" uApp := by
  intro pins s σ H x vs v us Q I rx rv h
  match x, vs, rv, h with
  | .ref l, [y], rv, ⟨xs, h1, h2, h3⟩ => exact mt_append pins s σ H _ _ v us Q I rx rv ⟨l, xs, y, rfl, rfl, h1, h2, h3⟩
def uExt : V → List V → Hp → VK → Prop := fun x vs H Q => match x, vs with
  | .ref l, [.ref b] => ∃ xs zs, H l = some (.lst xs) ∧ H b = some (.lst zs) ∧ xs.length + zs.length ≤ sizeLine ∧ Q .non (upd H l (.lst (xs ++ zs)))
  | _, _ => False
theorem uExt_r {l b : Addr} {H : Hp} {Q : VK} : uExt (.ref l) [.ref b] H Q = ∃ xs zs, H l = some (.lst xs) ∧ H b = some (.lst zs) ∧ xs.length + zs.length ≤ sizeLine ∧ Q .non (upd H l (.lst (xs ++ zs))) := rfl
def uClr : V → List V → Hp → VK → Prop := fun x vs H Q => match x, vs with
  | .ref l, [] => ∃ xs, H l = some (.lst xs) ∧ Q .non (upd H l (.lst []))
  | _, _ => False
theorem uClr_r {l : Addr} {H : Hp} {Q : VK} : uClr (.ref l) [] H Q = ∃ xs, H l = some (.lst xs) ∧ Q .non (upd H l (.lst [])) := rfl
def uIns : V → List V → Hp → VK → Prop := fun x vs H Q => match x, vs with
  | .ref l, [.int 0, y] => ∃ xs, H l = some (.lst xs) ∧ xs.length < sizeLine ∧ Q .non (upd H l (.lst (y :: xs)))
  | _, _ => False
theorem uIns_r {l : Addr} {y : V} {H : Hp} {Q : VK} : uIns (.ref l) [.int 0, y] H Q = ∃ xs, H l = some (.lst xs) ∧ xs.length < sizeLine ∧ Q .non (upd H l (.lst (y :: xs))) := rfl
def uPop0 : V → List V → Hp → VK → Prop := fun x vs H Q => match x, vs with
  | .ref l, [.int 0] => ∃ y xs, H l = some (.lst (y :: xs)) ∧ Q y (upd H l (.lst xs))
  | _, _ => False
theorem uPop0_r {l : Addr} {H : Hp} {Q : VK} : uPop0 (.ref l) [.int 0] H Q = ∃ y xs, H l = some (.lst (y :: xs)) ∧ Q y (upd H l (.lst xs)) := rfl
def sDelL (to ti : TE) : TS := fun D σ H => to σ H fun x H1 => ti σ H1 fun y H2 => ∃ l i xs k, x = .ref l ∧ y = .int i ∧ H2 l = some (.lst xs) ∧ -(2 ^ 63) ≤ i ∧ i < 2 ^ 63 ∧ seqIndex? i xs.length = some k ∧ D.nx σ (upd H2 l (.lst (xs.eraseIdx k)))
structure CD (K : PySem.W.Frag) (a : Addr) (D : List (Str × V)) : Prop where
  ex : ∃ o es ep, K.lookup a = some o ∧ o.ExactDict ∧ o.data = .dict es ep ∧ KTD.Rows RelV es.toList D
  ne : (a == sysModules) = false
theorem get_cd {prog : Program} {w : World} {A : Around} {E : Value → Shared → Prop} {s : Shared} {a : Addr} {o : Obj} {es : Array DictEntry} {ep : Nat} {D : List (Str × V)} {k : Str} {tk : Tok} {Q : Option Value → Shared → Prop} (ho : s.heap.get? a = some o) (hd : o.data = .dict es ep) (hr : KTD.Rows RelV es.toList D)
    (h1 : ∀ d v, KTD.datumAt k D = some d → RelV d v → Q (some v) { s with toks := s.toks + 1 }) (h2 : KTD.datumAt k D = none → Q none { s with toks := s.toks + 1 }) : wpAny (model prog w) A (dictGet a (.str k tk)) Q E s := by
  unfold dictGet
  try with_reducible refine wpAny_holding ?_
  refine wpAny_bind (wpAny_pyHash_str (wpAny_bind (KTD.kt_dictFind_strs (s := { s with toks := s.toks + 1 }) ho hd (by obtain ⟨l⟩ := es; simpa using hr.exact) ?_)))
  have hq : Q (findBy (fun k v => v.isStr k) es k) { s with toks := s.toks + 1 } := by
    have hf : findBy (fun k v => v.isStr k) es k = (es.toList.find? fun e => e.key.isStr k).map (·.val) := by
      obtain ⟨l⟩ := es
      simp [findBy]
    rw [hf]
    cases hat : KTD.datumAt k D with
    | some d =>
      obtain ⟨v, hv, hfl⟩ := hr.find_some hat
      rw [hv]
      exact h1 d v hat hfl
    | none => rw [hr.find_none hat]; exact h2 hat
  rw [findBy_of_findIdx?] at hq
  cases hi : es.findIdx? fun e => e.key.isStr k with
  | none => rw [hi] at hq; exact wpAny_pure hq
  | some i => rw [hi] at hq; exact wpAny_bind (wpAny_dictEntries (s := { s with toks := s.toks + 1 }) ho hd (wpAny_pure hq))
theorem meets_cget {prog : Program} {w : World} {a : Addr} {o : Obj} {es : Array DictEntry} {ep : Nat} {D : List (Str × V)} {k : Str} {tk : Tok} (hd : o.data = .dict es ep) (hr : KTD.Rows RelV es.toList D) (hne : (a == sysModules) = false) :
    MeetsIn prog w (Builtin.«dict.get» ⟨[.ref a, .str k tk], []⟩) (fun _ R s => s.heap.get? a = some o ∧ (∀ d v, KTD.datumAt k D = some d → RelV d v → R (.ok (.ret v)) { s with toks := s.toks + 1 }) ∧ (KTD.datumAt k D = none → R (.ok (.ret .none)) { s with toks := s.toks + 1 })) :=
  .of_wp fun A R s ⟨T, h1, h2⟩ => by
    show wpAny _ _ (dictGet a (.str k tk) >>= _) _ _ s
    refine wpAny_bind (get_cd T hd hr (fun d v ha hv => wpAny_pure ⟨v, rfl, h1 d v ha hv⟩) fun hn => ?_)
    show wpAny _ _ (Builtin.Dict.missed a (.str k tk) >>= _) _ _ _
    exact wpAny_bind (wpAny_missed_other hne (wpAny_pure ⟨.none, rfl, h2 hn⟩))
theorem tCGet_x {D : List (Str × V)} {k : Str} {H1 : Hp} {Q : VK} : (match ([V.str k] : List V) with | [.str k] => Q ((KTD.datumAt k D).getD .non) H1 | _ => False) = Q ((KTD.datumAt k D).getD .non) H1 := rfl
def tCGet (D : List (Str × V)) (t : TA) : TE := fun σ H Q => t σ H fun xs H1 => match xs with
  | [.str k] => Q ((KTD.datumAt k D).getD .non) H1
  | _ => False
theorem pe_cget {a : Addr} {D : List (Str × V)} {n : Str} {e : Expr} {t : TA} {p apos cpos : Pos} (C : CD X.K a D) (hg : Gl X n) (hm : X.mg n = some (.ref a)) (ha : PA X [e] t)
    (hdb : (n == ("__debug__" : Str)) = false := by decide) (hbase : attributeBase (.Name n p) "get" X.env (eval (.Name n p) X.env) = eval (.Name n p) X.env := by rfl)
    (hline : (apos.endLine == cpos.line) = true := by rfl) (hs : starEach [e] X.env = [(false, eval e X.env)] := by rfl) : PE X (.Call (.Attribute (.Name n p) "get" apos) [e] [] cpos) (tCGet D t) := by
  refine ⟨?_⟩
  intro pins s σ H Q I h
  obtain ⟨o, es, ep, ho, hc, hd, hr⟩ := C.ex
  refine wpAny_Call_method_late hbase (by rw [hs]; rfl) hline rfl (ld_glob I hg hm ?_ hdb)
  have hat : s.heap.get? a = some o := I.kIn a o ho
  refine ⟨"dict", "dict.get", PySem.F.plainAttrs_dict, PySem.F.slot_dict_get, PySem.F.type_dict_get, ⟨o, hat, hc.1⟩, fun b e => ?_, ?_⟩
  · cases e
    exact ⟨o, hat, hc.2.1⟩
  have hA := ha cpos pins s σ H _ I h
  rw [hs] at hA ⊢
  refine Calls.callWith_builtin rfl (Calls.evalArgs_plain (thn hA fun us s2 ⟨vs, H2, I2, r2, q2⟩ => ?_))
  match vs, r2, q2 with
  | [.str k], r2, q2 =>
    obtain ⟨u, rfl, ru⟩ := Vals.one r2
    obtain ⟨tk, rfl⟩ := ru
    have hat2 : s2.heap.get? a = some o := I2.kIn a o ho
    replace q2 : Q ((KTD.datumAt k D).getD .non) H2 := q2
    refine call_meetsIn PySem.F.slot_dict_get ⟨o, hat2, hc.1⟩ PySem.F.entry_dict_get (PySem.F.args_dict_get_2 _ _) (meets_cget hd hr C.ne) ⟨hat2, fun d v hdv hv => ?_, fun hn => ?_⟩
    · exact ⟨d, H2, I2.tok _, hv, by have := q2; rw [hdv] at this; exact this⟩
    · exact ⟨.non, H2, I2.tok _, rfl, by have := q2; rw [hn] at this; exact this⟩
end
end L2

set_option Elab.async false
set_option linter.all false
set_option maxRecDepth 100000
set_option maxHeartbeats 4000000
namespace L2
open PySem PySem.Spec PyProof.Rows
section
variable {X : Cx}

theorem pe_gint {x : Str} {n : Int} {pos : Pos} (hm : ∃ t, X.mg x = some (.int n t)) (hg : Gl X x) (hd : (x == ("__debug__" : Str)) = false := by decide) : PE X (.Name x pos) (tC (.int n)) := by
  obtain ⟨t, hm⟩ := hm
  exact pe_glob hg hm ⟨t, rfl⟩ hd
end

structure TopI (K : PySem.W.Frag) (mg : Str → Option Value) (x : Str) (C : Addr) (qual : Str) (st : Stmt) (ps : List Str) : Prop where
  ex : ∃ f fd, Mk K C f ∧ Fun K "__init__" qual st f fd ∧ Binds K fd ps []
  mg : mg x = some (.ref C)

theorem for_enum {K : PySem.W.Frag} {b : Bool} {a : Addr} {xs : List V} {g : TG} {tb : TS} {D : Ends} {σ : St} {H : Hp} (Pv : Nat → St → Hp → Prop) (h0 : Pv 0 σ H) (hq : ∀ i σ H, Pv i σ H → Sq b K H a xs)
    (hs : ∀ i x σ H T, xs[i]? = some x → Pv i σ H → H T = none → g (.ref T) σ (upd H T (.tup [.int i, x])) fun σ2 H2 => tb { D with nx := Pv (i + 1), ct := Pv (i + 1), bk := D.nx } σ2 H2) (hd : ∀ σ H, Pv xs.length σ H → D.nx σ H) :
    ∃ W : Nat → Nat → St → Hp → Prop, (∃ m, W 0 m σ H) ∧ ∀ i m σ H, W i m σ H →
      ((Ite b K a).stop i H ∧ D.nx σ H) ∨ ((Ite b K a).go i H ∧ ∃ N : St → Hp → Prop, (∀ σ' H', N σ' H' → ∃ m', m' < m ∧ W (i + 1) m' σ' H') ∧ ∀ x H', (Ite b K a).yld i H x H' → g x σ H' fun σ2 H2 => tb { D with nx := N, ct := N, bk := D.nx } σ2 H2) := by
  refine ⟨fun i m σ H => m = xs.length - i ∧ i ≤ xs.length ∧ Pv i σ H, ⟨xs.length, by simp, Nat.zero_le _, h0⟩, ?_⟩
  rintro i m σ H ⟨rfl, hi, p⟩
  by_cases hlt : i < xs.length
  · refine .inr ⟨⟨xs, xs[i], hq i σ H p, List.getElem?_eq_getElem hlt⟩, Pv (i + 1), fun σ' H' p' => ⟨xs.length - (i + 1), by omega, rfl, hlt, p'⟩, fun x H' y => ?_⟩
    obtain ⟨T, hT, rfl, y⟩ := y
    obtain ⟨x, hx, rfl⟩ := y xs (hq i σ H p)
    exact hs i x σ H T hx p hT
  · have e : i = xs.length := by omega
    subst e
    exact .inl ⟨⟨xs, hq _ σ H p, rfl⟩, hd σ H p⟩

theorem pg_two {X : Cx} {i j : Nat} {x y : Str} {px py pos : Pos} {k : Nat} (hc : X.calm = true) (hN : X.N.Nodup) (hi : X.N[i]? = some x) (hj : X.N[j]? = some y) (hx : Loc X.env.scope x) (hy : Loc X.env.scope y)
    (hfx : X.fn x = true ∨ X.env.scope.names.lookup x = some .local := by first | exact .inl rfl | exact .inr rfl | assumption) (hfy : X.fn y = true ∨ X.env.scope.names.lookup y = some .local := by first | exact .inl rfl | exact .inr rfl | assumption) :
    PG X (.Tuple [.Name x px, .Name y py] k pos) (gTup X.K 2 (gCons (gName i) (gCons (gName j) gNil))) := pg_tup hc (pgs_cons (pg_name hN hi hx hfx) (pgs_cons (pg_name hN hj hy hfy) pgs_nil))
end L2

set_option Elab.async false
set_option linter.all false
set_option maxRecDepth 100000
set_option maxHeartbeats 4000000
namespace L2
open PySem PySem.Spec PyProof.Rows
section
variable {X : Cx} {K : PySem.W.Frag}
theorem call_isIK (hK : X.K = K) : CallR X (.builtin "isinstance") (uIsI K) := hK ▸ call_isI
theorem pg_twoK {i j : Nat} {x y : Str} {px py pos : Pos} {k : Nat} (hK : X.K = K) (hc : X.calm = true) (hN : X.N.Nodup) (hi : X.N[i]? = some x) (hj : X.N[j]? = some y) (hx : Loc X.env.scope x) (hy : Loc X.env.scope y)
    (hfx : X.fn x = true ∨ X.env.scope.names.lookup x = some .local := by first | exact .inl rfl | exact .inr rfl | assumption) (hfy : X.fn y = true ∨ X.env.scope.names.lookup y = some .local := by first | exact .inl rfl | exact .inr rfl | assumption) :
    PG X (.Tuple [.Name x px, .Name y py] k pos) (gTup K 2 (gCons (gName i) (gCons (gName j) gNil))) := hK ▸ pg_two hc hN hi hj hx hy hfx hfy
end

inductive Box {α : Sort _} (x : α) : Type
  | mk
def tLcF (ix : List (Option Nat)) (wi : TI) (g : TG) (tt : TT) (te : TE) (_ : Box (ix, wi, g, tt, te)) : TE := tLc ix wi g tt te
theorem tLc_box {ix : List (Option Nat)} {wi : TI} {g : TG} {tt : TT} {te : TE} : tLc ix wi g tt te = tLcF ix wi g tt te .mk := rfl
def tForF (wi : TI) (g : TG) (tb : TS) (_ : Box (wi, g, tb)) : TS := tFor wi g tb
theorem tFor_box {wi : TI} {g : TG} {tb : TS} : tFor wi g tb = tForF wi g tb .mk := rfl
def tWhileF (tc : TT) (tb : TS) (_ : Box (tc, tb)) : TS := tWhile tc tb
theorem tWhile_box {tc : TT} {tb : TS} : tWhile tc tb = tWhileF tc tb .mk := rfl
theorem do_tLc {ix : List (Option Nat)} {wi : TI} {g : TG} {tt : TT} {te : TE} {σ : St} {H : Hp} {Q : VK} (h : wi σ H fun J H1 => ∀ D, H1 D = none → LcGoal ix J g tt te σ H1 Q D) : tLc ix wi g tt te σ H Q := h
def LcGoalF (ix : List (Option Nat)) (J : It) (g : TG) (tt : TT) (te : TE) (σ : St) (H : Hp) (Q : VK) (D : Addr) (_ : Box (ix, J, g, tt, te, σ, H, Q, D)) : Prop := LcGoal ix J g tt te σ H Q D
theorem LcGoal_box {ix : List (Option Nat)} {J : It} {g : TG} {tt : TT} {te : TE} {σ : St} {H : Hp} {Q : VK} {D : Addr} : LcGoal ix J g tt te σ H Q D = LcGoalF ix J g tt te σ H Q D .mk := rfl
theorem uIs_rn {g : Bool → Bool} {a : Addr} {H : Hp} {Q : VK} : uIs g (.ref a) .non H Q = Q (.bl (g false)) H := by
  show Q (.bl (g (decide (V.ref a = .non)))) H = _
  simp
theorem uIs_nn {g : Bool → Bool} {H : Hp} {Q : VK} : uIs g .non .non H Q = Q (.bl (g true)) H := by
  show Q (.bl (g (decide (V.non = .non)))) H = _
  simp
theorem Same.sqT {K : PySem.W.Frag} {H H' : Hp} (s : Same H H') {a : Addr} {xs : List V} (h : SqT K H a xs) : SqT K H' a xs := by
  rcases h with (h | ⟨o, h⟩) | h
  · exact .inl (.inl (s _ _ h))
  · exact .inl (.inr ⟨o, s _ _ h⟩)
  · exact .inr h
theorem ix_t {K : PySem.W.Frag} {H : Hp} {a : Addr} {xs : List V} {i : Int} {v : V} {P : V → Prop} (h : H a = some (.tup xs)) (e : atI xs i = some v) (k : P v) : ∃ xs v, (SqL K H a xs ∨ SqT K H a xs) ∧ atI xs i = some v ∧ P v := ⟨xs, v, .inr (SqT.of h), e, k⟩
theorem ix_l {K : PySem.W.Frag} {H : Hp} {a : Addr} {xs : List V} {i : Int} {v : V} {P : V → Prop} (h : H a = some (.lst xs)) (e : atI xs i = some v) (k : P v) : ∃ xs v, (SqL K H a xs ∨ SqT K H a xs) ∧ atI xs i = some v ∧ P v := ⟨xs, v, .inl (SqL.of h), e, k⟩
def tDispF (trs : List (TE × TE)) (_ : Box trs) : TE := tDisp trs
theorem tDisp_box {trs : List (TE × TE)} : tDisp trs = tDispF trs .mk := rfl
end L2

set_option Elab.async false
set_option linter.all false
set_option maxRecDepth 100000
set_option maxHeartbeats 4000000
namespace DD
open PySem L2

inductive Kd (H : Hp) : V → Value → Prop
  | non : Kd H .non (.type "NoneType")
  | bl (b : Bool) : Kd H (.bl b) (.type "bool")
  | int (i : Int) : Kd H (.int i) (.type "int")
  | str (x : Str) : Kd H (.str x) (.type "str")
  | lst {a xs} : H a = some (.lst xs) → Kd H (.ref a) (.type "list")
  | tup {a xs} : H a = some (.tup xs) → Kd H (.ref a) (.type "tuple")
  | dK {a kvs} : H a = some (.dK kvs) → Kd H (.ref a) (.type "dict")
theorem Kd.ty {K : PySem.W.Frag} {H : Hp} {x : V} {t : Value} (h : Kd H x t) : TyOf K H x t := by
  cases h with
  | non => exact .non
  | bl b => exact .bl b
  | int i => exact .int i
  | str x => exact .str x
  | lst e => exact .lst e
  | tup e => exact .tup e
  | dK e => exact .dK e
def isI : V → Bool
  | .int _ => true
  | _ => false
theorem kd_int {K : PySem.W.Frag} {H : Hp} {x : V} {t : Value} (h : Kd H x t) : ∃ b c, PySem.W.kitOne K t (.type "int") = some b ∧ PySem.W.kitOne K t (.type "bool") = some c ∧ isI x = (b && !c) := by
  cases h with
  | non => exact ⟨false, false, rfl, rfl, rfl⟩
  | bl b => exact ⟨true, true, rfl, rfl, rfl⟩
  | int i => exact ⟨true, false, rfl, rfl, rfl⟩
  | str x => exact ⟨false, false, rfl, rfl, rfl⟩
  | lst e => exact ⟨false, false, rfl, rfl, rfl⟩
  | tup e => exact ⟨false, false, rfl, rfl, rfl⟩
  | dK e => exact ⟨false, false, rfl, rfl, rfl⟩
def inR (lo hi : Int) : V → Bool
  | .int i => decide (lo ≤ i) && decide (i < hi)
  | _ => false
theorem hd_kd {H : Hp} {n : Nat} {x : V} {d : DV} (h : HD H n x d) : ∃ t, Kd H x t := by
  cases h with
  | non => exact ⟨_, .non⟩
  | bl b => exact ⟨_, .bl b⟩
  | int i => exact ⟨_, .int i⟩
  | str x => exact ⟨_, .str x⟩
  | tup e => exact ⟨_, .tup e⟩
  | lst e => exact ⟨_, .lst e⟩
  | dict e => exact ⟨_, .dK e⟩

def isID : DV → Bool
  | .int _ => true
  | _ => false
def inRD (lo hi : Int) : DV → Bool
  | .int i => decide (lo ≤ i) && decide (i < hi)
  | _ => false
theorem hd_isI {H : Hp} {n : Nat} {x : V} {d : DV} (h : HD H n x d) : isI x = isID d := by cases h <;> rfl
theorem hd_inR {H : Hp} {n : Nat} {x : V} {d : DV} (h : HD H n x d) (lo hi : Int) : inR lo hi x = inRD lo hi d := by cases h <;> rfl
def words3 : List V := [.str "letter", .str "way", .str "first"]
def valR (w : Str) (m : Int) : List DV → Bool
  | [z] => if w = "is" then isID z else (decide (w = "number") && inRD 0 m z)
  | _ => false
def valD (m : Int) : DV → Bool
  | .tup (.str w :: r) => if inV (.str w) words3 = true then decide (r.length = 0) else valR w m r
  | _ => false
inductive Val where
  | is (c : Int) | number (i : Int) | letter | way | first
def Val.dv : Val → DV
  | .is c => .tup [.str "is", .int c]
  | .number i => .tup [.str "number", .int i]
  | .letter => .tup [.str "letter"]
  | .way => .tup [.str "way"]
  | .first => .tup [.str "first"]
def Val.ok (m : Int) : Val → Prop
  | .number i => 0 ≤ i ∧ i < m
  | _ => True
theorem val_ok {m : Int} {v : Val} (h : v.ok m) : valD m v.dv = true := by
  cases v with
  | is c => exact rfl
  | number i =>
    obtain ⟨h1, h2⟩ := h
    show (if inV (.str "number") words3 = true then decide (([DV.int i] : List DV).length = 0) else if ("number" : Str) = "is" then isID (.int i) else (decide (("number" : Str) = "number") && (decide (0 ≤ i) && decide (i < m)))) = true
    rw [if_neg (by decide +kernel), if_neg (by decide +kernel)]
    simp [h1, h2]
  | letter => exact rfl
  | way => exact rfl
  | first => exact rfl
abbrev stD (ns row : List Int) : DV := .tup [.tup (ns.map .int), .tup (row.map .int)]
theorem ht_two {H : Hp} {n : Nat} {x : V} {d d' : DV} (h : HT H n x (.tup [d, d'])) : ∃ a u v k, x = .ref a ∧ H a = some (.tup [u, v]) ∧ HT H k u d ∧ HT H k v d' := by
  cases h with
  | @tup k a xs _ e l i =>
    match xs, l, e, i with
    | [u, v], _, e, i => exact ⟨a, u, v, k, rfl, e, i 0 u d rfl rfl, i 1 v d' rfl rfl⟩
theorem ht_ints {H : Hp} {n : Nat} {x : V} {ns : List Int} (h : HT H n x (.tup (ns.map .int))) : ∃ a, x = .ref a ∧ H a = some (.tup (ns.map V.int)) := by
  cases h with
  | @tup k a xs _ e l i =>
    refine ⟨a, rfl, ?_⟩
    have : xs = ns.map V.int := by
      apply List.ext_getElem?
      intro j
      rw [List.getElem?_map]
      cases hj : ns[j]? with
      | none =>
        have h1 : ns.length ≤ j := List.getElem?_eq_none_iff.mp hj
        rw [List.getElem?_eq_none_iff.mpr (by rw [l, List.length_map]; exact h1)]
        rfl
      | some z =>
        have h1 : j < ns.length := (List.getElem?_eq_some_iff.mp hj).1
        have h2 : j < xs.length := by rw [l, List.length_map]; exact h1
        have h3 := i j xs[j] (.int z) (List.getElem?_eq_getElem h2) (by rw [List.getElem?_map, hj]; rfl)
        rw [List.getElem?_eq_getElem h2]
        generalize xs[j] = y at h3
        cases h3
        rfl
    rw [← this]; exact e
theorem ht_mk1 {H : Hp} {n : Nat} {a : Addr} {u : V} {d : DV} (e : H a = some (.tup [u])) (h : HT H n u d) : HT H (n + 1) (.ref a) (.tup [d]) := by
  refine .tup e rfl fun i x y hx hy => ?_
  cases i with
  | zero => simp at hx hy; subst hx hy; exact h
  | succ i => simp at hx
theorem ht_mk2 {H : Hp} {n : Nat} {a : Addr} {u v : V} {d d' : DV} (e : H a = some (.tup [u, v])) (h : HT H n u d) (h' : HT H n v d') : HT H (n + 1) (.ref a) (.tup [d, d']) := by
  refine .tup e rfl fun i x y hx hy => ?_
  match i, hx, hy with
  | 0, hx, hy => simp at hx hy; subst hx hy; exact h
  | 1, hx, hy => simp at hx hy; subst hx hy; exact h'

theorem ht_same {K : PySem.W.Frag} {H : Hp} {n : Nat} {x : V} {d : DV} (h : HT H n x d) : ∀ {m : Nat} {y : V} {k : Nat}, HT H m y d → n < k → SameD K H k x y := by
  induction h with
  | non => intro m y k h hk; cases h; obtain ⟨j, rfl⟩ : ∃ j, k = j + 1 := ⟨k - 1, by omega⟩; exact .inl ⟨rfl, rfl⟩
  | bl b => intro m y k h hk; cases h; obtain ⟨j, rfl⟩ : ∃ j, k = j + 1 := ⟨k - 1, by omega⟩; exact .inl ⟨rfl, rfl⟩
  | int i => intro m y k h hk; cases h; obtain ⟨j, rfl⟩ : ∃ j, k = j + 1 := ⟨k - 1, by omega⟩; exact .inl ⟨rfl, rfl⟩
  | str i => intro m y k h hk; cases h; obtain ⟨j, rfl⟩ : ∃ j, k = j + 1 := ⟨k - 1, by omega⟩; exact .inl ⟨rfl, rfl⟩
  | @tup n a xs ds e l i ih =>
    intro m y k h hk
    obtain ⟨j, rfl⟩ : ∃ j, k = j + 1 := ⟨k - 1, by omega⟩
    cases h with
    | @tup m b ys _ e' l' i' =>
      refine .inr ⟨a, b, xs, ys, rfl, rfl, .inl ⟨SqT.of e, SqT.of e'⟩, l.trans l'.symm, fun p u v hu hv => ?_⟩
      have hp : p < ds.length := by rw [← l]; exact (List.getElem?_eq_some_iff.mp hu).1
      exact ih p u ds[p] hu (List.getElem?_eq_getElem hp) (i' p v ds[p] hv (List.getElem?_eq_getElem hp)) (by omega)

inductive Deed where
  | set (i : Int) (v : Val) | add (i : Int) (v : Val) | times (i : Int) (v : Val) | put (v : Val) | drop | send (j : Int) (v : Val) | say (v : Val) | skip (v w : Val) (k : Int)
def Deed.dv : Deed → DV
  | .set i v => .tup [.str "set", .int i, v.dv]
  | .add i v => .tup [.str "add", .int i, v.dv]
  | .times i v => .tup [.str "times", .int i, v.dv]
  | .put v => .tup [.str "put", v.dv]
  | .drop => .tup [.str "drop"]
  | .send j v => .tup [.str "send", .int j, v.dv]
  | .say v => .tup [.str "say", v.dv]
  | .skip v w k => .tup [.str "skip", v.dv, w.dv, .int k]
def Deed.ok (m : Int) : Deed → Prop
  | .set i v => 0 ≤ i ∧ i < m ∧ v.ok m
  | .add i v => 0 ≤ i ∧ i < m ∧ v.ok m
  | .times i v => 0 ≤ i ∧ i < m ∧ v.ok m
  | .put v => v.ok m
  | .drop => True
  | .send j v => 0 ≤ j ∧ v.ok m
  | .say v => v.ok m
  | .skip v w k => v.ok m ∧ w.ok m ∧ 1 ≤ k ∧ k < 25
def StAt (K : PySem.W.Frag) (H : Hp) (st : V) (ns row : List Int) : Prop := ∃ a b c, st = .ref a ∧ H a = some (.tup [.ref b, .ref c]) ∧ (SqL K H b (ns.map V.int) ∨ SqT K H b (ns.map V.int)) ∧ (SqL K H c (row.map V.int) ∨ SqT K H c (row.map V.int))
theorem StAt.of {K : PySem.W.Frag} {H : Hp} {n : Nat} {st : V} {ns row : List Int} (h : HT H n st (stD ns row)) : StAt K H st ns row := by
  obtain ⟨a, u, v, k, rfl, e, h1, h2⟩ := ht_two h
  obtain ⟨b, rfl, e1⟩ := ht_ints h1
  obtain ⟨c, rfl, e2⟩ := ht_ints h2
  exact ⟨a, b, c, rfl, e, .inr (SqT.of e1), .inr (SqT.of e2)⟩

def clsBody : Stmt → List Stmt
  | .ClassDef _ _ _ body _ _ _ _ _ _ _ => body
  | _ => []
theorem ht_mk3 {H : Hp} {n : Nat} {a : Addr} {u v w : V} {d d' d'' : DV} (e : H a = some (.tup [u, v, w])) (h : HT H n u d) (h' : HT H n v d') (h'' : HT H n w d'') : HT H (n + 1) (.ref a) (.tup [d, d', d'']) := by
  refine .tup e rfl fun i x y hx hy => ?_
  match i, hx, hy with
  | 0, hx, hy => simp at hx hy; subst hx hy; exact h
  | 1, hx, hy => simp at hx hy; subst hx hy; exact h'
  | 2, hx, hy => simp at hx hy; subst hx hy; exact h''
end DD

set_option Elab.async false
set_option linter.all false
set_option maxRecDepth 100000
set_option maxHeartbeats 4000000
namespace L2
open PySem PySem.Spec PyProof.Rows
def xbm : List Value := [.type "ValueError", .type "Exception", .type "BaseException", .type "object"]
section
variable {prog : Program} {w : World} {A : Around} {h : Heap} {g : Array GenState} {d : Drawn} {t : Nat} {os : OsState}
variable {nm q : Str} {C B N : Addr} {bs : List Value} {sn : List Str} {sub : List Value} {ab : Bool} {col : Option Bool} {dd : Option Addr} {k0 k1 k2 k3 k5 : Option Value}
theorem xnew_check {M : Model} {E : Value → Shared → Prop} {rest : List Value} {Q : Unit → Shared → Prop} (hC : h.get? C = some (excClassObj nm q C N bs (.ref B :: xbm) true sn sub ab col dd k0 k1 k2 k3 k5 "ValueError.__new__"))
    (hq : Q () ⟨h, g, d, t, os⟩) : wpAny M A (checkBuiltinCall "ValueError.__new__" ⟨.ref C :: rest, []⟩) Q E ⟨h, g, d, t, os⟩ := by
  have Fn := PySem.F.excBase_ValueError
  have hcont : (Value.ref C :: .ref B :: xbm).contains (.type "ValueError") = true := rfl
  have hstar := Fn.noStar
  simp only [checkBuiltinCall, Fn.newKind, Fn.newSplit, Fn.newRow]
  repeat (first | refine wpAny_loadPart_at hC ?_ | (refine wpAny_isSubtype_exc hC ?_; rw [hcont]) | refine wpAny_staticBase_exc hC ?_ | refine wpAny_madeBy_exc hC ?_ | simp only [bne_self_eq_false, Bool.false_eq_true, if_false] | wp_step)
  exact hq
theorem xnew_code {R : Result → Shared → Prop} {rest : List Value} (hC : h.get? C = some (excClassObj nm q C N bs (.ref B :: xbm) true sn sub ab col dd k0 k1 k2 k3 k5 "ValueError.__new__"))
    (hq : R (.ok (.ret (.ref (h.objs.size + 1)))) ⟨(h.push { cls := .type "tuple", data := .seq rest.toArray }).push
      { cls := .ref C, data := .fields #[.ref h.objs.size, .none, .none, .none, .bool false, .none] }, g, d, t, os⟩) (hrest : rest.length ≤ sizeLine) :
    codeAny (model prog w) A (.builtin "ValueError.__new__" ⟨.ref C :: rest, []⟩) R ⟨h, g, d, t, os⟩ := by
  have Fn := PySem.F.excBase_ValueError
  have hends := Fn.ends
  have hcB : (Value.ref C :: .ref B :: xbm).contains (.type "ValueError") = true := rfl
  have hcA : (Value.ref C :: .ref B :: xbm).contains (.type "AttributeError") = false := rfl
  have hcN : (Value.ref C :: .ref B :: xbm).contains (.type "NameError") = false := rfl
  refine codeAny_builtinAt Fn.entry ?_
  unfold Builtin.«BaseException.__new__»
  refine PySem.wpAt_bind ?_
  show PySem.wpAt _ _ _ (stack >>= _) _ _ _
  refine PySem.wpAt_bind (PySem.wpAt_stack fun p below => PySem.wpAt_of_wpAny ?_)
  wp_walk
  refine PySem.wpAt_of_wpAny ?_
  rw [Fn.owner]
  repeat (first | with_reducible refine wpAny_madeHere_exc Fn.canon hC ?_ | with_reducible refine wpAny_loadPart_at hC ?_ | (with_reducible refine wpAny_isSubtype_exc hC ?_; first | rw [hcB] | rw [hcA] | rw [hcN]) | wp_step)
  show R _ _
  rw [Heap.size_push]
  exact hq
theorem xtype_call {K : PySem.W.Frag} {E : Value → Shared → Prop} {rest : List Value} {fI : Addr} {Q : PySem.Fin → Shared → Prop} (X : K.In h)
    (hC : h.get? C = some (excClassObj nm q C N bs (.ref B :: xbm) true sn sub ab col dd k0 k1 k2 k3 k5 "ValueError.__new__"))
    (hi : PySem.W.findIn K (.ref C) "__init__" = some (some (.ref fI))) (hf : PySem.W.typeIn K (.ref fI) = some (.type "function"))
    (hq : wpAny (model prog w) A (call (.ref fI) (.ref (h.objs.size + 1) :: rest)) (fun r s' => r = .none ∧ Q (.done (.ret (.ref (h.objs.size + 1)))) s') E
      ⟨(h.push { cls := .type "tuple", data := .seq rest.toArray }).push { cls := .ref C, data := .fields #[.ref h.objs.size, .none, .none, .none, .bool false, .none] }, g, d, t, os⟩) (hrest : rest.length ≤ sizeLine) :
    wpAny (model prog w) A (Builtin.«type.__call__» ⟨.ref C :: rest, []⟩) Q E ⟨h, g, d, t, os⟩ := by
  have Fn := PySem.F.excBase_ValueError
  repeat (first | with_reducible refine wpAny_loadPart_at hC ?_ | with_reducible refine wpAny_madeBy_exc hC ?_ | wp_step)
  refine codeAny_call_builtin_code (Code.quiet_builtin _ Fn.quiet) (xnew_check hC ?_)
  refine xnew_code hC ?_ hrest
  show wpAny _ _ _ _ _ _
  have kp : ∀ b o, h.get? b = some o → ((h.push { cls := .type "tuple", data := .seq rest.toArray }).push { cls := .ref C, data := .fields #[.ref h.objs.size, .none, .none, .none, .bool false, .none] }).get? b = some o :=
    fun b o e => Heap.get?_push_of_some _ (Heap.get?_push_of_some _ e)
  have hC₁ := kp _ _ hC
  have X₁ := X.keeps kp
  have hget : ((h.push { cls := .type "tuple", data := .seq rest.toArray }).push
      { cls := .ref C, data := .fields #[.ref h.objs.size, .none, .none, .none, .bool false, .none] }).get? (h.objs.size + 1) = some
      { cls := .ref C, data := .fields #[.ref h.objs.size, .none, .none, .none, .bool false, .none] } := by heap_get
  have hcC : (Value.ref C :: .ref B :: xbm).contains (.ref C) = true := by simp
  unfold isInstance
  repeat (first | with_reducible refine wpAny_loadPart_at hget ?_ | (with_reducible refine wpAny_isSubtype_exc hC₁ ?_; rw [hcC]) | wp_step)
  show wpAny _ _ (typeLookup (.ref C) _) _ _ _
  refine (PySem.W.looks_findIn X₁ hi).here ?_
  refine wpAny_holding (wpAny_bind ?_)
  refine (PySem.W.bind_fn X₁ _ hf).here ?_
  refine wpAny_bind (wpAny_mono hq (fun r s' hr => ?_) fun _ _ x => x)
  obtain ⟨rfl, hQ⟩ := hr
  wp_walk
  exact hQ

theorem xcall_init {K : PySem.W.Frag} {E : Value → Shared → Prop} {rest : List Value} {fI : Addr} {Q : Value → Shared → Prop} (X : K.In h)
    (hC : h.get? C = some (excClassObj nm q C N bs (.ref B :: xbm) true sn sub ab col dd k0 k1 k2 k3 k5 "ValueError.__new__"))
    (hi : PySem.W.findIn K (.ref C) "__init__" = some (some (.ref fI))) (hf : PySem.W.typeIn K (.ref fI) = some (.type "function"))
    (hq : wpAny (model prog w) (A.under (.builtin "type.__call__" ⟨.ref C :: rest, []⟩)) (call (.ref fI) (.ref (h.objs.size + 1) :: rest)) (fun r s' => r = .none ∧ Q (.ref (h.objs.size + 1)) s') E
      ⟨(h.push { cls := .type "tuple", data := .seq rest.toArray }).push { cls := .ref C, data := .fields #[.ref h.objs.size, .none, .none, .none, .bool false, .none] }, g, d, t, os⟩) (hrest : rest.length ≤ sizeLine) :
    wpAny (model prog w) A (call (.ref C) rest) Q E ⟨h, g, d, t, os⟩ := by
  have f1 := tc_lookup
  have f2 := tc_bind (.ref C)
  have hT : (⟨h, g, d, t, os⟩ : Shared).TypeIs (.ref C) "type" := ⟨_, hC, rfl⟩
  refine wpAny_call (codeAny_of_tree ?_)
  show wpAny _ _ (callAny (.ref C) _) _ _ _
  repeat (any_goals (first | assumption | with_reducible refine wpAny_loadPart_at hC ?_ | wp_step))
  refine ⟨rfl, ?_⟩
  refine codeAny_call_builtin_at (Code.quiet_builtin _ (by decide +kernel)) entry_typeCall (wpAny_check_type_call_sub hC (xtype_call X hC hi hf ?_ hrest))
  exact hq
end
end L2

set_option Elab.async false
set_option linter.all false
set_option maxRecDepth 100000
set_option maxHeartbeats 400000
namespace L2
open PySem PySem.Spec PyProof.Rows

structure XCls (K : PySem.W.Frag) (C B : Addr) : Prop where
  ob : ∃ nm q N bs sn sub ab col dd k0 k1 k2 k3 k5, K.lookup C = some (excClassObj nm q C N bs (.ref B :: xbm) true sn sub ab col dd k0 k1 k2 k3 k5 "ValueError.__new__")
  ga : PySem.W.findIn K (.ref C) "__getattribute__" = some (some (.builtin "BaseException.__getattribute__"))
  gt : PySem.W.findIn K (.ref C) "__getattr__" = some none
  sa : PySem.W.findIn K (.ref C) "__setattr__" = some (some (.builtin "object.__setattr__"))
  cl : PySem.W.findIn K (.ref C) "__class__" = some (some (.builtin "object.__class__"))
  cg : PySem.W.specialIn K (.builtin "object.__class__") "__get__" = some (some (.builtin "getset_descriptor.__get__"))
  ct : PySem.W.takesIn K (.builtin "object.__class__") = some true
  kp : PySem.W.keepIn K (.ref C) = true
theorem XCls.cd {K : PySem.W.Frag} {C B : Addr} (c : XCls K C B) : ∃ cd : ClassData, PySem.W.clsIn K C = some cd ∧ cd.mro = .ref C :: .ref B :: xbm ∧ cd.hasDict = true := by
  obtain ⟨nm, q, N, bs, sn, sub, ab, col, dd, k0, k1, k2, k3, k5, e⟩ := c.ob
  exact ⟨_, by unfold PySem.W.clsIn; rw [e], rfl, rfl⟩
theorem XCls.mro {K : PySem.W.Frag} {C B : Addr} (c : XCls K C B) (v : Value) : PySem.W.mroIn K C v = some ((.ref C :: .ref B :: xbm).contains v) := by
  obtain ⟨cd, e, e2, _⟩ := c.cd
  unfold PySem.W.mroIn
  rw [e, Option.bind_some, e2]
  rfl
section
variable {prog : Program} {w : World} {A : Around} {E : Value → Shared → Prop} {s : Shared} {K : PySem.W.Frag} {x C B : Addr} {ox : Obj} {od : Option Obj} {name : Str}
open PySem.W in

theorem xget_code {v : Value} {tk : Tok} {R : Result → Shared → Prop} (X : K.In s.heap) (I : InstAt s.heap x ox C od) (c : XCls K C B) (hf : findObj K C od name = some (.value v)) (h : R (.ok (.ret v)) s) :
    codeAny (model prog w) A (.call (.builtin "BaseException.__getattribute__") ⟨[.ref x, .str name tk], []⟩) R s := by
  have FB := PySem.F.attrBase_ValueError
  have hk : builtinKind "BaseException.__getattribute__" = some .slot := by decide +kernel
  have hsplit : splitId "BaseException.__getattribute__" = some ("BaseException", "__getattribute__") := by decide +kernel
  have L0 := I.type (M := model prog w)
  have hm : mroIn K C (.type "BaseException") = some true := (c.mro _).trans rfl
  have L2 : Looks (model prog w) s.heap (isInstance (.ref x) (.type "BaseException")) true := L0.andThen (looks_mroIn X hm)
  refine codeAny_call_builtin FB.ga.plain PySem.F.entry_bexc_ga (@check_slot (model prog w) _ _ s "BaseException.__getattribute__" "BaseException" "__getattribute__" (.ref x) [.str name tk] [] _ hk hsplit L2 (PySem.F.args_bexc_ga _ _) ?_)
  obtain ⟨hh', g, d, t, os⟩ := s
  have L1 := looks_find (M := model prog w) X I hf
  refine wpAny_bind (wpAny_pure (wpAny_bind (wpAny_pure (wpAny_bind (L0.here (wpAny_bind (L1.here ?_)))))))
  exact wpAny_pure h
open PySem.W in
theorem xget_codeB {g a : Value} {tk : Tok} {R : Result → Shared → Prop} (X : K.In s.heap) (I : InstAt s.heap x ox C od) (c : XCls K C B) (hf : findObj K C od name = some (.bind g a))
    (h : ∀ A, wpAny (model prog w) A (call g [a, .ref x, .ref C]) (fun v s' => R (.ok (.ret v)) s') (fun e s' => R (.error e) s') s) :
    codeAny (model prog w) A (.call (.builtin "BaseException.__getattribute__") ⟨[.ref x, .str name tk], []⟩) R s := by
  have FB := PySem.F.attrBase_ValueError
  have hk : builtinKind "BaseException.__getattribute__" = some .slot := by decide +kernel
  have hsplit : splitId "BaseException.__getattribute__" = some ("BaseException", "__getattribute__") := by decide +kernel
  have L0 := I.type (M := model prog w)
  have hm : mroIn K C (.type "BaseException") = some true := (c.mro _).trans rfl
  have L2 : Looks (model prog w) s.heap (isInstance (.ref x) (.type "BaseException")) true := L0.andThen (looks_mroIn X hm)
  refine codeAny_call_builtin FB.ga.plain PySem.F.entry_bexc_ga (@check_slot (model prog w) _ _ s "BaseException.__getattribute__" "BaseException" "__getattribute__" (.ref x) [.str name tk] [] _ hk hsplit L2 (PySem.F.args_bexc_ga _ _) ?_)
  obtain ⟨hh', gg, d, t, os⟩ := s
  have L1 := looks_find (M := model prog w) X I hf
  refine wpAny_bind (wpAny_pure (wpAny_bind (wpAny_pure (wpAny_bind (L0.here (wpAny_bind (L1.here ?_)))))))
  show wpAny _ _ (Builtin.ObjectAttr.bindTo g a (.ref x) (.ref C)) _ _ _
  exact wpAny_bind (wpAny_holding (wpAny_mono (h _) (fun v s' z => wpAny_pure z) fun _ _ z => z))
end
end L2

set_option Elab.async false
set_option linter.all false
set_option maxRecDepth 100000
set_option maxHeartbeats 400000
namespace L2
open PySem PySem.Spec PyProof.Rows
section
variable {prog : Program} {w : World} {A : Around} {E : Value → Shared → Prop} {s : Shared} {K : PySem.W.Frag} {x C B : Addr} {ox : Obj} {od : Option Obj} {name : Str}
open PySem.W in
theorem xget {v : Value} {expr : Bool} {Q : Value → Shared → Prop} (X : K.In s.heap) (I : InstAt s.heap x ox C od) (c : XCls K C B) (hf : findObj K C od name = some (.value v)) (hv : handedIn v = true) (h : Q v { s with toks := s.toks + 1 }) :
    wpAny (model prog w) A (getAttr (.ref x) name expr) Q E s := by
  obtain ⟨hh, g, d, t, os⟩ := s
  have FB := PySem.F.attrBase_ValueError
  have L0 := I.type (M := model prog w)
  have L1 := looks_findIn (M := model prog w) X c.ga
  have L2 := looks_findIn (M := model prog w) X c.gt
  have hx0 : (expr && onTheHeap (Value.builtin "BaseException.__getattribute__")) = false := by cases expr <;> rfl
  unfold getAttr getAttrBy
  refine wpAny_bind (wpAny_mkText (wpAny_holding (wpAny_bind (L0.at (wpAny_bind (L1.at ?_))))))
  show wpAny _ _ (getAttrByItsOwn _ _ _ _ _ _) _ _ _
  unfold getAttrByItsOwn callGetattribute boundAndCalled
  refine wpAny_bind (L2.at (wpAny_bind (wpAny_attempt (wpAny_holding ?_))))
  rw [hx0]
  simp only [Bool.false_eq_true, if_false]
  rw [FB.ga.bind]
  refine wpAny_bind (wpAny_pure (wpAny_call ?_))
  refine xget_code (s := ⟨hh, g, d, t + 1, os⟩) X I c hf ?_
  show wpAny _ _ (handedOut v) _ _ _
  rw [handedOut_of hv]
  exact wpAny_pure h
open PySem.W in
theorem xclass {Q : Option Value → Shared → Prop} (X : K.In s.heap) (I : InstAt s.heap x ox C od) (c : XCls K C B) (h : Q (some (.ref C)) { s with toks := s.toks + 1 }) :
    wpAny (model prog w) A (getAttr? (.ref x) "__class__") Q E s := by
  obtain ⟨hh, g, d, t, os⟩ := s
  have FB := PySem.F.attrBase_ValueError
  have L0 := I.type (M := model prog w)
  have L1 := looks_findIn (M := model prog w) X c.ga
  have L2 := looks_findIn (M := model prog w) X c.gt
  have hm : mroIn K C (.type "object") = some true := (c.mro _).trans rfl
  have hf : findObj K C od "__class__" = some (.bind (.builtin "getset_descriptor.__get__") (.builtin "object.__class__")) := by
    obtain ⟨cd, e, _⟩ := c.cd
    unfold findObj
    rw [e, Option.bind_some, c.cl, Option.bind_some]
    simp [c.cg, c.ct]
  unfold getAttr? getAttrBy? getAttrBy
  refine wpAny_bind (wpAny_mkText (wpAny_bind (wpAny_attempt (wpAny_holding (wpAny_bind (L0.at (wpAny_bind (L1.at ?_))))))))
  show wpAny _ _ (getAttrByItsOwn _ _ _ _ _ _) _ _ _
  unfold getAttrByItsOwn callGetattribute boundAndCalled
  refine wpAny_bind (L2.at (wpAny_bind (wpAny_attempt (wpAny_holding ?_))))
  simp only [Bool.false_and, Bool.false_eq_true, if_false]
  rw [FB.ga.bind]
  refine wpAny_bind (wpAny_pure (wpAny_call ?_))
  refine xget_codeB (s := ⟨hh, g, d, t + 1, os⟩) X I c hf fun A' => ?_
  refine wpAny_call (class_get (s := ⟨hh, g, d, t + 1, os⟩) (ox := ox) (od := od) X I hm ?_)
  show wpAny _ _ (handedOut (.ref C)) _ _ _
  exact wpAny_pure (wpAny_pure h)
open PySem.W in
theorem kitx_exc (c : XCls K C B) : KitX K (.ref x) (.ref C) (fun h => ∃ ox od, InstAt h x ox C od) where
  ty := fun _ _ _ I => let ⟨_, _, I⟩ := I; I.type
  it := fun _ _ X _ => by
    obtain ⟨nm, q, N, bs, sn, sub, ab, col, dd, k0, k1, k2, k3, k5, ho⟩ := c.ob
    intro A' Q' E' s' k q
    unfold isType loadHead
    exact wpAny_bind (wpAny_loadPart (k _ _ (X _ _ ho)) (wpAny_pure q))
  ne := fun h tp dd its n sl X htp => by
    obtain ⟨nm, q, N, bs, sn, sub, ab, col, dd, k0, k1, k2, k3, k5, ho⟩ := c.ob
    refine Bool.eq_false_iff.mpr fun q => ?_
    have e : C = tp := Value.ref.inj (beq_iff_eq.mp q)
    subst e
    have z := (X _ _ ho).symm.trans htp
    have z2 := congrArg (Option.map Obj.cls) z
    simp at z2
  ca := fun X I k => let ⟨_, _, I⟩ := I; xclass X I c k
end
end L2

set_option Elab.async false
set_option linter.all false
set_option maxRecDepth 100000
set_option maxHeartbeats 400000
namespace L2
open PySem PySem.Spec PyProof.Rows

def XOb (C : Addr) (d : Option Addr) (fl : Bool) (a : Addr) (h : Heap) : Prop := ∃ fs sl, h.get? a = some (⟨.ref C, d, .fields fs, sl⟩ : Obj) ∧ (fl = true → fs[1]? = some .none)
abbrev XO (a C : Addr) (d : Option Addr) (fl : Bool) : HO := .ext (XOb C d fl a)

def XDb (fs : List (Str × V)) (a : Addr) (h : Heap) : Prop := ∃ mA, h.Ns1 a mA ∧ (∀ f, RelO (fs.lookup f) (mA f)) ∧ PySem.Within mA (fs.map (·.1))
abbrev XD (a : Addr) (fs : List (Str × V)) : HO := .ext (XDb fs a)
section
variable {P : Program} {w : World} {H : Hp} {h : Heap} {a C : Addr} {d : Option Addr} {fl : Bool}
theorem xo_mk {fs : Array Value} {sl : Array (Option Value)} (e : h.get? a = some (⟨.ref C, d, .fields fs, sl⟩ : Obj)) (hf : fl = true → fs[1]? = some .none) : ObjOk P w H h a (XO a C d fl) :=
  ⟨⟨fs, sl, e, hf⟩, ⟨_, e⟩, fun _ _ ⟨fs, sl, e, hf⟩ k => ⟨fs, sl, k _ e, hf⟩⟩
theorem xo_get (x : ObjOk P w H h a (XO a C d fl)) : XOb C d fl a h := x.1
theorem xd_mk {fs : List (Str × V)} (x : XDb fs a h) : ObjOk P w H h a (XD a fs) :=
  ⟨x, let ⟨_, ⟨o, _, _, e, _⟩, _⟩ := x; ⟨o, e⟩, fun _ _ ⟨m, n, r⟩ k => ⟨m, n.at k, r⟩⟩
theorem xd_get {fs : List (Str × V)} (x : ObjOk P w H h a (XD a fs)) : XDb fs a h := x.1
end
section
variable {prog : Program} {w : World} {A : Around} {E : Value → Shared → Prop} {s : Shared} {K : PySem.W.Frag} {x C B : Addr} {name : Str} {v : Value}
theorem refuse_x (self : Value) : refuseLoop self "__setattr__" (.ref C :: .ref B :: xbm) = pure () := by
  rw [refuseLoop_ref, refuseLoop_ref]; exact PySem.F.store_ValueError.passes self
open PySem.W in
theorem xosa {ox : Obj} {od : Option Obj} {tk : Tok} {R : Result → Shared → Prop} (X : K.In s.heap) (I : InstAt s.heap x ox C od) (c : XCls K C B) (n : NoAttr K C name)
    (h : ∀ b A', wpAny (model prog w) A' (Builtin.ObjectAttr.storeInOwnDict (.ref x) (.ref C) (.str name tk) name v b)
      (fun fin s' => match fin with | .done f => R (.ok f) s' | .again c' => c'.quiet = true ∧ codeAny (model prog w) A c' R s') (fun e s' => R (.error e) s') s) :
    codeAny (model prog w) A (.call (.builtin "object.__setattr__") ⟨[.ref x, .str name tk, v], []⟩) R s := by
  have SF := PySem.F.store_object
  obtain ⟨cd, hc, hmro, hdict⟩ := c.cd
  have hm0 : mroIn K C (.type "object") = some true := (c.mro _).trans rfl
  have sub : Looks (model prog w) s.heap (isInstance (.ref x) (.type "object")) true := I.type.andThen (looks_mroIn X hm0)
  refine codeAny_call_builtin SF.slot.plain SF.entry (@check_slot (model prog w) _ _ s "object.__setattr__" "object" "__setattr__" (.ref x) [.str name tk, v] [] _ SF.kind SF.split sub (SF.args (.ref x) (.str name tk) v) ?_)
  have hm : Looks (model prog w) s.heap (mroOf (.ref C)) cd.mro := (looks_clsIn X hc).andThen .now
  rw [osa_eq, refuse_eq]
  refine wpAny_bind (wpAny_bind (I.type.here (wpAny_bind (hm.here ?_))))
  rw [hmro, refuse_x]
  refine wpAny_pure (wpAny_bind (I.type.here (wpAny_bind ((looks_findIn X n).here (wpAny_bind (wpAny_pure ?_))))))
  exact h _ _
end
end L2

set_option Elab.async false
set_option linter.all false
set_option maxRecDepth 100000
set_option maxHeartbeats 400000
namespace L2
open PySem PySem.Spec PyProof.Rows
section
variable {X : Cx} {pins : List (Addr × Obj)} {σ : St} {H : Hp} {s : Shared} {a C B dx : Addr} {fs : List (Str × V)} {f : Str} {v : V} {A : Around} {E : Value → Shared → Prop}
theorem xinstF {fl : Bool} (I : Inv X pins σ H s) {d : Option Addr} (e : H a = some (XO a C d fl)) : ∃ vs sl, s.heap.get? a = some (⟨.ref C, d, .fields vs, sl⟩ : Obj) ∧ (fl = true → vs[1]? = some .none) := xo_get (I.hok a _ e)
theorem xinst {fl : Bool} (I : Inv X pins σ H s) {d : Option Addr} (e : H a = some (XO a C d fl)) : ∃ vs sl, s.heap.get? a = some (⟨.ref C, d, .fields vs, sl⟩ : Obj) := by
  obtain ⟨vs, sl, h, _⟩ := xinstF I e
  exact ⟨vs, sl, h⟩

theorem xisinst_ok {fl : Bool} {c : Value} {b : Bool} {d : Option Addr} {Q : Value → Shared → Prop} (I : Inv X pins σ H s) (e : H a = some (XO a C d fl)) (ed : ∀ dx, d = some dx → ∃ fs, H dx = some (XD dx fs)) (cl : XCls X.K C B)
    (k : PySem.W.kitOne X.K (.ref C) c = some b) (h : ∀ tk, Q (.bool b) { s with toks := tk }) : wpAny (model X.prog X.w) A (call (.builtin "isinstance") [.ref a, c]) Q E s := by
  refine PySem.W.kia_one (kitx_exc cl) I.kIn ?_ k (fun z => nomatch z) h
  obtain ⟨vs, sl, q⟩ := xinst I e
  cases d with
  | none => exact ⟨_, none, q, rfl, rfl, True.intro⟩
  | some dx =>
    obtain ⟨fs, z⟩ := ed dx rfl
    obtain ⟨_, ⟨o, _, _, e2, _⟩, _⟩ := xd_get (I.hok dx _ z)
    exact ⟨_, some o, q, rfl, rfl, e2⟩

theorem xgetattr_ok {fl : Bool} {b : Bool} {Q : Value → Shared → Prop} (I : Inv X pins σ H s) (e : H a = some (XO a C (some dx) fl)) (ed : H dx = some (XD dx fs)) (c : XCls X.K C B) (n : NoAttr X.K C f) (l : fs.lookup f = some v)
    (h : ∀ u s', Inv X pins σ H s' → RelV v u → Q u s') : wpAny (model X.prog X.w) A (getAttr (.ref a) f b) Q E s := by
  obtain ⟨vs, sl, q⟩ := xinst I e
  obtain ⟨mA, ns, r, _⟩ := xd_get (I.hok dx _ ed)
  obtain ⟨od, ho, hl⟩ := lookIn_ns ns
  obtain ⟨u, hu, ru⟩ := RelO.some_of (v := v) (o := mA f) (by rw [← l]; exact r f)
  refine xget (od := some od) I.kIn ⟨q, rfl, rfl, ho⟩ c ?_ (handed_of ru) (h u _ (I.tok _) ru)
  obtain ⟨cd, hc, _, hd⟩ := c.cd
  exact PySem.W.findObj_own (attr := none) (by unfold PySem.W.hasDictIn; rw [hc]; exact hd) n rfl (by rw [hl, hu])

theorem xsetattr0_ok {fl : Bool} {y : V} {u : Value} {Q : Unit → Shared → Prop} (I : Inv X pins σ H s) (e : H a = some (XO a C none fl)) (c : XCls X.K C B) (n : NoAttr X.K C f) (ry : RelV y u)
    (h : ∀ dx s', H dx = none → Inv X pins σ (upd (upd H a (XO a C (some dx) fl)) dx (XD dx [(f, y)])) s' → Q () s') : wpAny (model X.prog X.w) A (setAttr (.ref a) f u) Q E s := by
  obtain ⟨vs, sl, q, hf⟩ := xinstF I e
  have J : PySem.W.InstAt s.heap a ⟨.ref C, none, .fields vs, sl⟩ C none := ⟨q, rfl, rfl, True.intro⟩
  obtain ⟨cd, hc, _, hd⟩ := c.cd
  refine PySem.W.set_plain I.kIn J c.sa (xosa (s := { s with toks := s.toks + 1 }) I.kIn J c n fun b A' => ?_)
  obtain ⟨hh, g, d, t, os⟩ := s
  have q : hh.get? a = some (⟨.ref C, none, .fields vs, sl⟩ : Obj) := q
  have fr : H hh.objs.size = none := I.hok.fresh (Nat.le_refl _)
  have as : a ≠ hh.objs.size := Nat.ne_of_lt (Heap.lt_size q)
  have LC := PySem.W.looks_clsIn (M := model X.prog X.w) (h := hh) I.kIn hc
  unfold Builtin.ObjectAttr.storeInOwnDict Builtin.ObjectAttr.ownDictForStores
  refine wpAny_bind (wpAny_pure ?_)
  rw [if_neg (by intro z; cases z)]
  refine wpAny_bind ?_
  show wpAny _ _ (instanceDict a true) _ _ _
  unfold instanceDict
  refine wpAny_bind (wpAny_loadPart' q ?_)
  refine wpAny_bind (LC.here ?_)
  simp only [hd, Bool.not_true, Bool.false_eq_true, if_false]
  have q1 : (hh.push { cls := .type "dict", data := .dict #[] }).get? a = some (⟨.ref C, none, .fields vs, sl⟩ : Obj) := Heap.get?_push_of_some _ q
  rw [if_neg (by simp [typeHasDict])]
  refine wpAny_bind (wpAny_alloc' ?_)
  refine wpAny_bind (wpAny_update' q1 ?_)
  refine wpAny_pure ?_
  have hgd : ((hh.push { cls := .type "dict", data := .dict #[] }).update a fun o => { cls := o.cls, dict := some hh.objs.size, data := o.data, slots := o.slots }).get? hh.objs.size = some { cls := .type "dict", data := .dict #[] } :=
    (Heap.get?_update_ne _ _ _ _ as.symm).trans (Heap.get?_push_at rfl rfl)
  have hnd : ((hh.push { cls := .type "dict", data := .dict #[] }).update a fun o => { cls := o.cls, dict := some hh.objs.size, data := o.data, slots := o.slots }).Ns hh.objs.size (fun _ => none) :=
    ⟨_, #[], _, hgd, rfl, fun e he => absurd he (by simp), fun _ => rfl⟩
  have ha2 : ((hh.push { cls := .type "dict", data := .dict #[] }).update a fun o => { cls := o.cls, dict := some hh.objs.size, data := o.data, slots := o.slots }).get? a = some (⟨.ref C, some hh.objs.size, .fields vs, sl⟩ : Obj) :=
    Heap.get?_update_self _ q1 rfl
  show wpAny _ _ (Builtin.ObjectAttr.storeInDict hh.objs.size (.str f _) f u) _ _ _
  unfold Builtin.ObjectAttr.storeInDict Builtin.ObjectAttr.newKeyGuard
  refine wpAny_bind (wpAny_pure (wpAny_bind (wpAny_nsSet1 (Heap.Ns1.of_empty hnd) fun h' hn' hs => ?_)))
  obtain ⟨oD, esD, epD, hoD, hdD, hcD⟩ := hn'.count (Within.cons f u Within.nil)
  refine wpAny_bind (wpAny_lookBehind hoD (by rw [hdD]; exact pastItsLine_dict (Nat.le_trans hcD (by rw [List.length_cons, List.length_nil, sizeLine_eq]; omega))) ?_)
  refine wpAny_pure ?_
  show Q () _
  have hx' : h'.get? a = some (⟨.ref C, some hh.objs.size, .fields vs, sl⟩ : Obj) := (hs.2 a as).trans ha2
  have xd : XDb [(f, y)] hh.objs.size h' := by
    refine ⟨_, hn', fun g' => ?_, fun g' hg' => ?_⟩
    · show RelO (List.lookup g' [(f, y)]) (if g' = f then some u else none)
      by_cases z : g' = f
      · rw [if_pos z, z]; simp only [List.lookup, beq_self_eq_true]; exact ry
      · rw [if_neg z]; simp only [List.lookup, beq_eq_false_iff_ne.mpr z]; exact True.intro
    · by_cases z : g' = f
      · rw [z]; simp
      · exact absurd (if_neg z) hg'
  refine h hh.objs.size _ fr ?_
  have q2 : (hh.update a fun o => { cls := o.cls, dict := some hh.objs.size, data := o.data, slots := o.slots }).get? a = some (⟨.ref C, some hh.objs.size, .fields vs, sl⟩ : Obj) := Heap.get?_update_self _ q rfl
  have I1 : Inv X pins σ (upd H a (XO a C (some hh.objs.size) fl)) { heap := hh.update a fun o => { cls := o.cls, dict := some hh.objs.size, data := o.data, slots := o.slots }, gens := g, drawn := d, toks := t, os := os } :=
    I.write (x := a) (e := a) (by rw [e]; exact True.intro) (.inl rfl) (fun b ob hb z => (Heap.get?_update_ne _ _ _ _ hb).trans z) ⟨_, q2⟩ (xo_mk q2 hf)
  refine I1.laid (a := hh.objs.size) (fun b ob z => ?_) (by show (hh.update a _).objs.size ≤ _; rw [Heap.size_update]; exact Nat.le_refl _) (xd_mk xd)
  by_cases zb : b = a
  · subst zb; rw [q2] at z; cases z; exact hx'
  · have z1 : hh.get? b = some ob := (Heap.get?_update_ne _ _ _ _ zb).symm.trans z
    exact (hs.2 b (Nat.ne_of_lt (Heap.lt_size z1))).trans ((Heap.get?_update_ne _ _ _ _ zb).trans (Heap.get?_push_of_some _ z1))

end
end L2

set_option Elab.async false
set_option linter.all false
set_option maxRecDepth 100000
set_option maxHeartbeats 400000
namespace L2
open PySem PySem.Spec PyProof.Rows
section
variable {prog : Program} {w : World} {A : Around} {h : Heap} {g : Array GenState} {d : Drawn} {t : Nat} {os : OsState}
variable {nm q : Str} {C B N : Addr} {bs : List Value} {sn : List Str} {sub : List Value} {ab : Bool} {col : Option Bool} {dd : Option Addr} {k0 k1 k2 k3 k5 : Option Value}
theorem xinit_check {M : Model} {E : Value → Shared → Prop} {e : Addr} {oe : Obj} {rest : List Value} {Q : Unit → Shared → Prop}
    (hC : h.get? C = some (excClassObj nm q C N bs (.ref B :: xbm) true sn sub ab col dd k0 k1 k2 k3 k5 "ValueError.__new__")) (he : h.get? e = some oe) (hcls : oe.cls = .ref C) (hq : Q () ⟨h, g, d, t, os⟩) :
    wpAny M A (checkBuiltinCall "ValueError.__init__" ⟨.ref e :: rest, []⟩) Q E ⟨h, g, d, t, os⟩ := by
  have Fn := PySem.F.excBase_ValueError
  have hcB : (Value.ref C :: .ref B :: xbm).contains (.type "ValueError") = true := rfl
  have hshort := Fn.noStar
  simp only [checkBuiltinCall, Fn.initKind, Fn.initSplit, Fn.initRow]
  repeat (first | (with_reducible refine wpAny_loadPart_at he ?_; rw [hcls]) | with_reducible refine wpAny_loadPart_at hC ?_ | (with_reducible refine wpAny_isSubtype_exc hC ?_; rw [hcB]) | wp_step)
  refine wpAny_onRaise ?_
  rw [show ∀ (a b : String) (n : Nat), Bind.check ⟨.positional, "*", "ValueError", .self, [⟨"args", .varPos, false⟩]⟩ a b n (List.map (fun x => x.fst) ({ pos := Value.ref e :: rest } : Args).kw) = pure () from
    fun a b n => check_star_args _ _ _ _ _ _]
  exact wpAny_pure hq
theorem xtype_call0 {K : PySem.W.Frag} {E : Value → Shared → Prop} {rest : List Value} {Q : PySem.Fin → Shared → Prop} (X : K.In h)
    (hC : h.get? C = some (excClassObj nm q C N bs (.ref B :: xbm) true sn sub ab col dd k0 k1 k2 k3 k5 "ValueError.__new__"))
    (hi : PySem.W.findIn K (.ref C) "__init__" = some (some (.builtin "ValueError.__init__")))
    (hq : ∀ h' fs, fs[1]? = some .none → (∀ b o, h.get? b = some o → h'.get? b = some o) → h'.get? (h.objs.size + 1) = some (⟨.ref C, none, .fields fs, #[]⟩ : Obj) → Q (.done (.ret (.ref (h.objs.size + 1)))) ⟨h', g, d, t, os⟩) (hrest : rest.length ≤ sizeLine) :
    wpAny (model prog w) A (Builtin.«type.__call__» ⟨.ref C :: rest, []⟩) Q E ⟨h, g, d, t, os⟩ := by
  have Fn := PySem.F.excBase_ValueError
  repeat (first | with_reducible refine wpAny_loadPart_at hC ?_ | with_reducible refine wpAny_madeBy_exc hC ?_ | wp_step)
  refine codeAny_call_builtin_code (Code.quiet_builtin _ Fn.quiet) (xnew_check hC ?_)
  refine xnew_code hC ?_ hrest
  show wpAny _ _ _ _ _ _
  have kp : ∀ b o, h.get? b = some o → ((h.push { cls := .type "tuple", data := .seq rest.toArray }).push { cls := .ref C, data := .fields #[.ref h.objs.size, .none, .none, .none, .bool false, .none] }).get? b = some o :=
    fun b o e => Heap.get?_push_of_some _ (Heap.get?_push_of_some _ e)
  have hC₁ := kp _ _ hC
  have X₁ := X.keeps kp
  have hget : ((h.push { cls := .type "tuple", data := .seq rest.toArray }).push
      { cls := .ref C, data := .fields #[.ref h.objs.size, .none, .none, .none, .bool false, .none] }).get? (h.objs.size + 1) = some
      { cls := .ref C, data := .fields #[.ref h.objs.size, .none, .none, .none, .bool false, .none] } := by heap_get
  have hcC : (Value.ref C :: .ref B :: xbm).contains (.ref C) = true := by simp
  unfold isInstance
  repeat (first | with_reducible refine wpAny_loadPart_at hget ?_ | (with_reducible refine wpAny_isSubtype_exc hC₁ ?_; rw [hcC]) | wp_step)
  show wpAny _ _ (typeLookup (.ref C) _) _ _ _
  refine (PySem.W.looks_findIn X₁ hi).here ?_
  refine wpAny_holding (wpAny_bind (wpAny_of_eq (Fn.init.bind _) ?_))
  refine wpAny_bind (wpAny_call (codeAny_call_builtin Fn.init.plain Fn.initEntry (xinit_check hC₁ hget rfl ?_)))
  wp_walk
  refine hq _ #[.ref (h.objs.size + 2), .none, .none, .none, .bool false, .none] rfl (fun b o hb => ?_) ?_
  · rw [Heap.get?_update_other _ _ (Nat.ne_of_gt (Nat.lt_succ_of_lt (Heap.lt_size hb)))]
    exact Heap.get?_push_of_some _ (Heap.get?_push_of_some _ (Heap.get?_push_of_some _ hb))
  · rw [Heap.get?_update_self _ (Heap.get?_push_of_some _ hget) rfl]
    simp only [Heap.size_push]
    rfl
theorem xcall0 {K : PySem.W.Frag} {E : Value → Shared → Prop} {rest : List Value} {Q : Value → Shared → Prop} (X : K.In h)
    (hC : h.get? C = some (excClassObj nm q C N bs (.ref B :: xbm) true sn sub ab col dd k0 k1 k2 k3 k5 "ValueError.__new__"))
    (hi : PySem.W.findIn K (.ref C) "__init__" = some (some (.builtin "ValueError.__init__")))
    (hq : ∀ h' fs, fs[1]? = some .none → (∀ b o, h.get? b = some o → h'.get? b = some o) → h'.get? (h.objs.size + 1) = some (⟨.ref C, none, .fields fs, #[]⟩ : Obj) → Q (.ref (h.objs.size + 1)) ⟨h', g, d, t, os⟩) (hrest : rest.length ≤ sizeLine) :
    wpAny (model prog w) A (call (.ref C) rest) Q E ⟨h, g, d, t, os⟩ := by
  have f1 := tc_lookup
  have f2 := tc_bind (.ref C)
  have hT : (⟨h, g, d, t, os⟩ : Shared).TypeIs (.ref C) "type" := ⟨_, hC, rfl⟩
  refine wpAny_call (codeAny_of_tree ?_)
  show wpAny _ _ (callAny (.ref C) _) _ _ _
  repeat (any_goals (first | assumption | with_reducible refine wpAny_loadPart_at hC ?_ | wp_step))
  refine ⟨rfl, ?_⟩
  refine codeAny_call_builtin_at (Code.quiet_builtin _ (by decide +kernel)) entry_typeCall (wpAny_check_type_call_sub hC (xtype_call0 X hC hi ?_ hrest))
  exact hq
end

structure XMk0 (K : PySem.W.Frag) (mg : Str → Option Value) (x : Str) (C B : Addr) : Prop where
  cl : XCls K C B
  init : PySem.W.findIn K (.ref C) "__init__" = some (some (.builtin "ValueError.__init__"))
  mg : mg x = some (.ref C)

def tX0 (C : Addr) (t : TA) : TE := fun σ H Q => t σ H fun vs H1 => vs.length ≤ 1 ∧ ∀ a, H1 a = none → Q (.ref a) (upd H1 a (XO a C none true))
section
variable {X : Cx} {pins : List (Addr × Obj)} {σ : St} {H : Hp} {s : Shared} {C B : Addr} {x : Str} {p pos : Pos} {e : Expr} {es : List Expr} {t : TA}
theorem run_x0 {Q : VK} {us : List Value} (M : XMk0 X.K X.mg x C B) (I : Inv X pins σ H s) (hl : us.length ≤ 1) (h : ∀ a, H a = none → Q (.ref a) (upd H a (XO a C none true))) :
    wpAny (model X.prog X.w) X.A (call (.ref C) us) (EP X pins σ Q) X.xe s := by
  obtain ⟨nm, q, N, bs, sn, sub, ab, col, dd, k0, k1, k2, k3, k5, ho⟩ := M.cl.ob
  obtain ⟨hh, g, d, t, os⟩ := s
  have fr : H (hh.objs.size + 1) = none := I.hok.fresh (Nat.le_succ _)
  refine xcall0 (h := hh) I.kIn (I.kIn _ _ ho) M.init (fun h' fs hf kp hn => ⟨V.ref (hh.objs.size + 1), _, I.laid (a := hh.objs.size + 1) kp (Nat.le_succ _) (xo_mk hn fun _ => hf), rfl, h _ fr⟩) (by rw [sizeLine_eq]; omega)
theorem pe_x1 (M : XMk0 X.K X.mg x C B) (ha : PA X (e :: es) t) (hg : Gl X x := by rfl) (hdb : (x == ("__debug__" : Str)) = false := by decide)
    (h1 : plainE e = true := by rfl) (h2 : es.all plainE = true := by rfl) : PE X (.Call (.Name x p) (e :: es) [] pos) (tX0 C t) := by
  refine ⟨?_⟩
  intro pins s σ H Q I h
  refine wpAny_Call_Name_kw (ld_glob I hg M.mg ?_ hdb)
  refine PySem.W.callWith_K (h₀ := X.base) I.ok.mod.kin M.cl.kp (thn (ha pos pins s σ H _ I h) fun us s1 ⟨vs, H1, I1, r, hl, q⟩ => ⟨I1.kIn, ?_⟩) (star_cons h1) (star_any h2)
  exact run_x0 M I1 (by show us.length ≤ 1; rw [← r.length]; exact hl) q
end
end L2

set_option Elab.async false
set_option linter.all false
set_option maxRecDepth 100000
set_option maxHeartbeats 400000
namespace L2
open PySem PySem.Spec PyProof.Rows

structure XTop (K : PySem.W.Frag) (mg : Str → Option Value) (x : Str) (C B : Addr) (qual : Str) (st : Stmt) (ps : List Str) : Prop where
  cl : XCls K C B
  ex : ∃ f fd, PySem.W.findIn K (.ref C) "__init__" = some (some (.ref f)) ∧ PySem.W.isFn K (.ref f) = true ∧ Fun K "__init__" qual st f fd ∧ Binds K fd ps []
  mg : mg x = some (.ref C)
structure XDef (P : Program) (w : World) (K : PySem.W.Frag) (mg : Str → Option Value) (base : Heap) (x : Str) (C B : Addr) (k : Nat) (ps : List Str) (sp : Sp) : Prop where
  cl : XCls K C B
  ex : ∃ f fd, PySem.W.findIn K (.ref C) "__init__" = some (some (.ref f)) ∧ PySem.W.isFn K (.ref f) = true ∧ FnOk P w K mg base CX0 k f fd ps sp ∧ Binds K fd ps []
  mg : mg x = some (.ref C)
section
variable {P : Program} {w : World} {K : PySem.W.Frag} {mg : Str → Option Value} {base : Heap}
theorem XTop.ok {x : Str} {C B : Addr} {qual : Str} {st : Stmt} {N ps : List Str} {k : Nat} {sp : Sp} (T : XTop K mg x C B qual st ps) (S : FnScope N ps (defScope st)) (len : ∀ vs H Q E, sp vs H Q E → vs.length = ps.length)
    (hbody : ∀ (f : Addr) (cdv : Value) (A : Around) (outer : List Env) (s : Shared) (H : Hp) (vs : List V) (Q : VK) (E : XK), Room k (A.deeper (envOfC qual (defScope st) s.heap.objs.size f cdv)) → sp vs H Q E →
      ∃ t, PSs (cxOf CX0 P w K mg base N qual (defScope st) f cdv A outer s H E).nox (defBody st) t ∧ t { nx := fun _ H' => Q .non H', rt := Q } (start N vs) H) : XDef P w K mg base x C B (k + 1) ps sp := by
  obtain ⟨f, fd, M1, M2, F, hb⟩ := T.ex
  exact ⟨T.cl, ⟨f, fd, M1, M2, F.ok S len (hbody f), hb⟩, T.mg⟩
end

def tXI (C : Addr) (sp : Sp) (E : XK) (t : TA) : TE := fun σ H Q => t σ H fun vs H1 => vs.length ≤ 10 ∧ ∀ a, H1 a = none → sp (.ref a :: vs) (upd H1 a (XO a C none true)) (fun v H2 => v = .non ∧ Q (.ref a) H2) E
section
variable {X : Cx} {pins : List (Addr × Obj)} {σ : St} {H : Hp} {s : Shared} {C B : Addr} {x : Str} {p pos : Pos} {e : Expr} {es : List Expr} {t : TA} {k j : Nat} {ps : List Str} {sp : Sp} {E : XK}
theorem run_xi {Q : VK} {us : List Value} {vs : List V} {f : Addr} {fd : FuncData} (cl : XCls X.K C B) (hi : PySem.W.findIn X.K (.ref C) "__init__" = some (some (.ref f))) (hfn : PySem.W.isFn X.K (.ref f) = true)
    (F : FnOk X.prog X.w X.K X.mg X.base CX0 k f fd ps sp) (hr : Room (k + 1) X.A) (hb : Binds X.K fd ps []) (hx : Passes CX0 X E) (I : Inv X pins σ H s) (r : Vals vs us) (hl : vs.length ≤ 10)
    (h : ∀ a, H a = none → sp (.ref a :: vs) (upd H a (XO a C none true)) (fun v H2 => v = .non ∧ Q (.ref a) H2) E) :
    wpAny (model X.prog X.w) X.A (call (.ref C) us) (EP X pins σ Q) X.xe s := by
  obtain ⟨nm, q, N, bs, sn, sub, ab, col, dd, k0, k1, k2, k3, k5, ho⟩ := cl.ob
  obtain ⟨hh, g, d, t, os⟩ := s
  have fr : H (hh.objs.size + 1) = none := I.hok.fresh (Nat.le_succ _)
  have hq := h _ fr
  have hul : us.length ≤ sizeLine := by rw [← r.length, sizeLine_eq]; omega
  have hget : ((hh.push { cls := .type "tuple", data := .seq us.toArray }).push
      { cls := .ref C, data := .fields #[.ref hh.objs.size, .none, .none, .none, .bool false, .none] }).get? (hh.objs.size + 1) = some
      { cls := .ref C, data := .fields #[.ref hh.objs.size, .none, .none, .none, .bool false, .none] } := by heap_get
  have I2 : Inv X pins σ (upd H (hh.objs.size + 1) (XO (hh.objs.size + 1) C none true)) ⟨(hh.push { cls := .type "tuple", data := .seq us.toArray }).push { cls := .ref C, data := .fields #[.ref hh.objs.size, .none, .none, .none, .bool false, .none] }, g, d, t, os⟩ :=
    I.laid (a := hh.objs.size + 1) (fun b o e => Heap.get?_push_of_some _ (Heap.get?_push_of_some _ e)) (Nat.le_succ _) (xo_mk hget fun _ => rfl)
  have r2 : Vals (V.ref (hh.objs.size + 1) :: vs) (Value.ref (hh.objs.size + 1) :: us) := .cons rfl r
  have hl2 : ((Value.ref (hh.objs.size + 1) :: us) ++ []).length = ps.length := by
    rw [List.append_nil, ← r2.length]; exact F.len _ _ _ _ hq
  have r3 : Vals (V.ref (hh.objs.size + 1) :: vs) ((Value.ref (hh.objs.size + 1) :: us) ++ []) := by rw [List.append_nil]; exact r2
  refine xcall_init (h := hh) I.kIn (I.kIn _ _ ho) hi (beq_iff_eq.mp hfn) ?_ hul
  refine wpAny_call (codeAny_mono (F.run _ X.stack _ _ ⟨Value.ref (hh.objs.size + 1) :: us, []⟩ ((Value.ref (hh.objs.size + 1) :: us) ++ []) _ _ E (hr.make C us []) (I2.env0.make C us []) (hb _ (Value.ref (hh.objs.size + 1) :: us) I2.kIn hl2) r3 hq) fun r s' hq' => ?_)
  cases r with
  | error e => exact hx pins σ _ _ e s' I2 hq'
  | ok fl =>
    cases fl with
    | ret u =>
      obtain ⟨v, H', I3, rv, ev, q3⟩ := I2.after hq'
      subst ev
      exact ⟨rv, ⟨V.ref (hh.objs.size + 1), H', I3, rfl, q3⟩⟩
    | next => exact False.elim hq'
    | brk => exact False.elim hq'
    | cont => exact False.elim hq'
theorem pe_xi (D : XDef X.prog X.w X.K X.mg X.base x C B k ps sp) (hr : Room j X.A) (ha : PA X (e :: es) t) (hg : Gl X x := by rfl) (hj : k + 1 ≤ j := by decide) (hdb : (x == ("__debug__" : Str)) = false := by decide)
    (h1 : plainE e = true := by rfl) (h2 : es.all plainE = true := by rfl) : PE X (.Call (.Name x p) (e :: es) [] pos) (tXI C sp E0 t) := by
  obtain ⟨f, fd, M1, M2, F, hb⟩ := D.ex
  refine ⟨?_⟩
  intro pins s σ H Q I h
  refine wpAny_Call_Name_kw (ld_glob I hg D.mg ?_ hdb)
  refine PySem.W.callWith_K (h₀ := X.base) I.ok.mod.kin D.cl.kp (thn (ha pos pins s σ H _ I h) fun us s1 ⟨vs, H1, I1, r, hl, q⟩ => ⟨I1.kIn, ?_⟩) (star_cons h1) (star_any h2)
  exact run_xi D.cl M1 M2 F (hr.mono hj) hb pass0 I1 r hl q
end

def tXF (K : PySem.W.Frag) (ta : TE) (f : Str) : TE := fun σ H Q => ta σ H fun x H1 => ∃ a C B dx fs v fl, x = .ref a ∧ H1 a = some (XO a C (some dx) fl) ∧ H1 dx = some (XD dx fs) ∧ XCls K C B ∧ NoAttr K C f ∧ fs.lookup f = some v ∧ Q v H1

def sXF0 (K : PySem.W.Frag) (ta tv : TE) (f : Str) : TS := fun D σ H => tv σ H fun y H1 => ta σ H1 fun x H2 => ∃ a C B fl, x = .ref a ∧ H2 a = some (XO a C none fl) ∧ XCls K C B ∧ NoAttr K C f ∧
  ∀ dx, H2 dx = none → D.nx σ (upd (upd H2 a (XO a C (some dx) fl)) dx (XD dx [(f, y)]))

section
variable {X : Cx} {o e value : Expr} {f : Str} {pos pos' tpos : Pos} {ta tv : TE}
theorem pe_xf (he : PE X e ta) (hb : attributeBase e f X.env (eval e X.env) = eval e X.env := by rfl) : PE X (.Attribute e f pos) (tXF X.K ta f) := by
  refine ⟨?_⟩
  intro pins s σ H Q I h
  refine attr_of hb (thn (he pins s σ H _ I h) fun u s1 ⟨x, H1, I1, rx, a, C, B, dx, fs, v, fl, ex, ea, ed, c, n, l, q⟩ => ?_)
  subst ex
  obtain rfl : u = Value.ref a := rx
  exact xgetattr_ok I1 ea ed c n l fun u' s2 I2 ru => ⟨v, H1, I2, ru, q⟩
theorem ps_xf0 (ha : PE X o ta) (hv : PE X value tv) (hs : swapsWith value (some (.Attribute o f pos')) pos.line X.env = pure false := by rfl) : PS X (.Assign [.Attribute o f pos'] value pos) (sXF0 X.K ta tv f) := by
  refine ⟨?_⟩
  intro pins s σ H D I h
  refine plainObj_wpAny_Assign_Attribute (thn (hv pins s σ H _ I h) fun u s1 ⟨y, H1, I1, ry, q⟩ => thn (ha pins s1 σ H1 _ I1 q) fun ov s2 ⟨x, H2, I2, rx, a, C, B, fl, ex, ea, c, n, q2⟩ => ?_) hs
  subst ex
  obtain rfl : ov = Value.ref a := rx
  exact xsetattr0_ok I2 ea c n ry fun dx s3 hd I3 => ⟨σ, _, I3, q2 dx hd⟩
end

def vc : V → Value
  | .ref a => .ref a
  | .ty n => .type n
  | _ => .none
def uXis (K : PySem.W.Frag) : List V → Hp → VK → Prop := fun xs H Q => ∃ a C B d c b fl, xs = [.ref a, c] ∧ H a = some (XO a C d fl) ∧ (∀ dx, d = some dx → ∃ fs, H dx = some (XD dx fs)) ∧ XCls K C B ∧ (c = .ref (match c with | .ref z => z | _ => 0) ∨ ∃ n, c = .ty n) ∧ PySem.W.kitOne K (.ref C) (vc c) = some b ∧ Q (.bl b) H
theorem call_xis {X : Cx} : CallR X (.builtin "isinstance") (uXis X.K) := by
  intro pins s σ H vs us Q I r h
  obtain ⟨a, C, B, d, c, b, fl, rfl, ea, ed, cl, hc, k, q⟩ := h
  obtain ⟨u, us', rfl, ru, r'⟩ : ∃ u us', us = u :: us' ∧ RelV (.ref a) u ∧ Vals [c] us' := by cases r with | cons a b => exact ⟨_, _, rfl, a, b⟩
  obtain ⟨u2, rfl, ru2⟩ := r'.one
  cases (show u = Value.ref a from ru)
  have e2 : u2 = vc c := by
    rcases hc with hc | ⟨n, hc⟩
    · rw [hc] at ru2 ⊢; exact ru2
    · rw [hc] at ru2 ⊢; exact ru2
  subst e2
  exact xisinst_ok I ea ed cl k fun tk => ⟨.bl b, H, I.tok _, rfl, q⟩
end L2

set_option Elab.async false
set_option linter.all false
set_option maxRecDepth 100000
set_option maxHeartbeats 400000

set_option Elab.async false
set_option linter.all false
set_option maxRecDepth 100000
set_option maxHeartbeats 400000
namespace L2
open PySem PySem.Spec PyProof.Rows
section
variable {X : Cx} {K : PySem.W.Frag}

theorem pe_xfK {e : Expr} {ta : TE} {f : Str} {pos : Pos} (hK : X.K = K) (he : PE X e ta) (hb : attributeBase e f X.env (eval e X.env) = eval e X.env := by rfl) : PE X (.Attribute e f pos) (tXF K ta f) := hK ▸ pe_xf he hb
theorem call_xisK (hK : X.K = K) : CallR X (.builtin "isinstance") (uXis K) := hK ▸ call_xis
end
end L2

set_option Elab.async false
set_option linter.all false
set_option maxRecDepth 100000
set_option maxHeartbeats 400000
namespace L2
open PySem PySem.Spec PyProof.Rows

def TrAt (h : Heap) (e : Addr) (T : Option Addr) (fl : Value) : Prop :=
  ∃ oe vs, h.get? e = some oe ∧ oe.data = .fields vs ∧ ((T = none ∧ vs[1]? = some .none) ∨ ∃ t oT ts, T = some t ∧ t ≠ e ∧ vs[1]? = some (.ref t) ∧ h.get? t = some oT ∧ oT.data = .fields ts ∧ ts[3]? = some fl)

structure Chg (S : List Addr) (e : Addr) (T : Option Addr) (h h' : Heap) : Prop where
  keep : ∀ b o, b ≠ e → T ≠ some b → b ∉ S → h.get? b = some o → h'.get? b = some o
  slot : ∀ b o, b ≠ e → T ≠ some b → h.get? b = some o → ∃ sl, h'.get? b = some { o with slots := sl }
  rece : ∀ o vs, h.get? e = some o → o.data = .fields vs → ∃ vs', h'.get? e = some { o with data := .fields vs' }
  rect : ∀ t o, T = some t → h.get? t = some o → ∃ o', h'.get? t = some o'
  size : h.objs.size ≤ h'.objs.size
theorem mapFields_data {o : Obj} {vs : Array Value} {f : Array Value → Array Value} (hd : o.data = .fields vs) : o.mapFields f = { o with data := .fields (f vs) } := by
  obtain ⟨c, d, dt, sl⟩ := o
  cases hd
  rfl
section
variable {M : Model} {A : Around} {E : Value → Shared → Prop} {s : Shared}
theorem entry_at {base : Heap} {env : Env} {outer : List Env} {L e : Addr} {oe : Obj} {vs : Array Value} {head : Value} {hadNext : Bool} {Q : Unit → Shared → Prop}
    (hfr : A.frames = some (env :: outer)) (hl : s.heap.FunFrames base (env :: outer)) (hf : env.frame = some L)
    (he : s.heap.get? e = some oe) (hd : oe.data = .fields vs) (hsz : 1 < vs.size)
    (h : ∀ h' t, s.heap.objs.size ≤ t → Chg (frs (env :: outer)) e none s.heap h' → TrAt h' e (some t) (rawInt L) → Q () { s with heap := h' }) :
    wpAny M A (do let a ← frameOf env; let pl ← entryPlaceOf L hadNext; let b ← EntryCells.newEntry head a .none (rawInt L) .none pl; setField (.ref e) 1 b) Q E s := by
  have hene : e ∉ (env :: outer).filterMap (·.frame) := fun hm => by
    obtain ⟨_, o, ho, hnf⟩ := hl.mem hm
    rw [he] at ho; injection ho with ho; subst ho; exact hnf vs hd
  refine wpAny_bind (wpAny_frameOf_fun hfr hl hf fun h₁ hs₁ => ?_)
  refine wpAny_bind (wpAny_entryPlaceOf fun pl hpl => ?_)
  unfold EntryCells.newEntry newFields
  refine wpAny_bind (wpAny_newObj_type ?_ (hpl.sizeOk5 _ _ _ _ _))
  have he₁ : h₁.get? e = some oe := (hs₁.2.1 e hene).trans he
  have he₂ := Heap.get?_push_of_some (h := h₁) { cls := .type "traceback", dict := none, data := .fields ([head, .ref L, .none, rawInt L, .none] ++ (if pl.isEmpty then List.replicate 6 Value.none else pl)).toArray } he₁
  have hTe : h₁.objs.size ≠ e := Nat.ne_of_gt (Heap.lt_size he₁)
  have hd₃ := Obj.data_mapFields hd (·.setIfInBounds 1 (Value.ref h₁.objs.size))
  have he₃ := Heap.get?_update_self (Obj.mapFields (·.setIfInBounds 1 (Value.ref h₁.objs.size))) he₂ (Obj.isFreed_of_fields hd₃)
  have hT₃ := (Heap.get?_update_other (h₁.push { cls := .type "traceback", dict := none, data := .fields ([head, .ref L, .none, rawInt L, .none] ++ (if pl.isEmpty then List.replicate 6 Value.none else pl)).toArray })
    (Obj.mapFields (·.setIfInBounds 1 (Value.ref h₁.objs.size))) (Ne.symm hTe)).trans (Heap.get?_push_size h₁ rfl)
  have keep : ∀ b o, b ≠ e → h₁.get? b = some o →
      ((h₁.push { cls := .type "traceback", dict := none, data := .fields ([head, .ref L, .none, rawInt L, .none] ++ (if pl.isEmpty then List.replicate 6 Value.none else pl)).toArray }).update e (Obj.mapFields (·.setIfInBounds 1 (Value.ref h₁.objs.size)))).get? b = some o :=
    fun b o hbe hb => by
      rw [Heap.get?_update_other _ _ (Ne.symm hbe)]
      exact Heap.get?_push_of_some _ hb
  refine wpAny_setField he₂ hd hsz (h _ h₁.objs.size (by rw [hs₁.1]; exact Nat.le_refl _) ⟨fun b o hb _ hS hg => keep b o hb ((hs₁.2.1 b hS).trans hg), fun b o hb _ hg => ?_, fun o vs' hg hd' => ?_, fun t o z _ => (nomatch z), ?_⟩ ?_)
  · obtain ⟨sl, hq⟩ := hs₁.2.2 b o hg
    exact ⟨sl, keep b _ hb hq⟩
  · rw [he] at hg
    cases hg
    rw [hd] at hd'
    cases hd'
    exact ⟨_, by rw [he₃, mapFields_data hd]⟩
  · rw [Heap.size_update, Heap.size_push, hs₁.1]; exact Nat.le_succ _
  · exact ⟨_, _, he₃, hd₃, .inr ⟨h₁.objs.size, _, _, rfl, hTe, by simp [hsz], hT₃, rfl, by first | (simp; done) | (rcases hpl with rfl | ⟨_, _, _, _, _, _, _, rfl⟩ <;> simp)⟩⟩
theorem note_at {base : Heap} {env : Env} {outer : List Env} {L e : Addr} {T : Option Addr} {Q : Unit → Shared → Prop}
    (hfr : A.frames = some (env :: outer)) (hl : s.heap.FunFrames base (env :: outer)) (hf : env.frame = some L) (ht : TrAt s.heap e T .none)
    (h : ∀ h' t, s.heap.objs.size ≤ t → Chg (frs (env :: outer)) e T s.heap h' → TrAt h' e (some t) (rawInt L) → Q () { s with heap := h' }) : wpAny M A (noteFrame (.ref e) env) Q E s := by
  obtain ⟨oe, vs, he, hd, ht⟩ := ht
  unfold noteFrame
  simp only [hf]
  rcases ht with ⟨rfl, h1⟩ | ⟨t, oT, ts, rfl, hTe, h1, hT, hdT, h3⟩
  · refine wpAny_bind (wpAny_field he hd h1 ?_)
    rw [if_neg (by decide)]
    exact entry_at hfr hl hf he hd (Array.getElem?_eq_some_iff.mp h1).1 h
  · refine wpAny_bind (wpAny_field he hd h1 ?_)
    rw [if_pos (show (Value.ref t != Value.none) = true from by simp)]
    refine wpAny_bind (wpAny_field hT hdT h3 ?_)
    rw [if_neg (show ¬ ((Value.none == rawInt L) = true) from by simp [rawInt])]
    refine wpAny_bind (wpAny_setField hT hdT (Array.getElem?_eq_some_iff.mp h3).1 ?_)
    have other : ∀ b, b ≠ t → (s.heap.update t (Obj.mapFields (·.setIfInBounds 3 Value.none))).get? b = s.heap.get? b := fun b hb => Heap.get?_update_other _ _ (Ne.symm hb)
    have noRecord : ∀ b o, s.heap.get? b = some o → (∀ vs, o.data ≠ .fields vs) → b ≠ t := fun b o hb hnf q => by
      rw [q, hT] at hb; injection hb with hb; subst hb; exact hnf ts hdT
    have hself := Heap.get?_update_self (Obj.mapFields (·.setIfInBounds 3 Value.none)) hT (Obj.isFreed_of_fields (Obj.data_mapFields hdT _))
    refine entry_at hfr (hl.of_keeps fun b o hb hnf => ⟨o, (other b (noRecord b o hb hnf)).trans hb, rfl⟩) hf ((other e (Ne.symm hTe)).trans he) hd (Array.getElem?_eq_some_iff.mp h1).1 fun h' t' hs c tr => h h' t' ?_ ?_ tr
    · have := hs; rw [Heap.size_update] at this; exact this
    · refine ⟨fun b o hb hn hS hg => c.keep b o hb (fun z => nomatch z) hS ((other b (fun z => hn (by rw [z]))).trans hg), fun b o hb hn hg => c.slot b o hb (fun z => nomatch z) ((other b (fun z => hn (by rw [z]))).trans hg), fun o vs hg hd => c.rece o vs ((other e (Ne.symm hTe)).trans hg) hd, fun t2 o z hg => ?_, ?_⟩
      · cases z
        obtain ⟨sl, q⟩ := c.slot t _ hTe (fun z => nomatch z) hself
        exact ⟨_, q⟩
      · have := c.size; rw [Heap.size_update] at this; exact this
theorem flight_at {e t : Addr} {fl : Value} {Q : Unit → Shared → Prop} (ht : TrAt s.heap e (some t) fl)
    (h : ∀ h', (∀ b o, b ≠ t → s.heap.get? b = some o → h'.get? b = some o) → h'.objs.size = s.heap.objs.size → TrAt h' e (some t) .none → Q () { s with heap := h' }) : wpAny M A (setFlight (.ref e) none) Q E s := by
  obtain ⟨oe, vs, he, hd, ht⟩ := ht
  rcases ht with ⟨z, _⟩ | ⟨t', oT, ts, z, hTe, h1, hT, hdT, h3⟩
  · cases z
  cases z
  have hsz3 : 3 < ts.size := (Array.getElem?_eq_some_iff.mp h3).1
  unfold setFlight
  refine wpAny_bind (wpAny_field he hd h1 ?_)
  rw [if_pos (show (Value.ref t != Value.none) = true from by simp)]
  have other : ∀ b, b ≠ t → (s.heap.update t (Obj.mapFields (·.setIfInBounds 3 ((none : Option Addr).elim Value.none fun f => rawInt f)))).get? b = s.heap.get? b :=
    fun b hb => Heap.get?_update_other _ _ (Ne.symm hb)
  refine wpAny_setField hT hdT hsz3 (h _ (fun b o hb hg => (other b hb).trans hg) (Heap.size_update ..) ?_)
  exact ⟨oe, vs, (other e (Ne.symm hTe)).trans he, hd, .inr ⟨t, _, _, rfl, hTe, h1, Heap.get?_update_self _ hT (Obj.isFreed_of_fields (Obj.data_mapFields hdT _)), Obj.data_mapFields hdT _, by simp [hsz3]⟩⟩
end
section
variable {X : Cx} {pins : List (Addr × Obj)} {σ : St} {H : Hp} {s : Shared} {e C : Addr} {d : Option Addr} {fl : Bool} {T : Option Addr} {h' : Heap}

def Ours (X : Cx) (pins : List (Addr × Obj)) (H : Hp) (t : Addr) : Prop := H t = none ∧ X.s₀.heap.objs.size ≤ t ∧ t ≠ X.env.locals ∧ (∀ x c, X.env.cells.lookup x = some c → c ≠ t) ∧ ∀ p ∈ X.pn ++ pins, p.1 ≠ t
theorem Inv.ours (I : Inv X pins σ H s) {t : Addr} (h : s.heap.objs.size ≤ t) : Ours X pins H t := by
  refine ⟨I.hok.fresh h, Nat.le_trans I.sz h, Nat.ne_of_gt (Nat.lt_of_lt_of_le I.lt h), fun x c hc => ?_, fun p hp => ?_⟩
  · obtain ⟨v, o, hv⟩ := I.cell x c hc
    exact Nat.ne_of_lt (Nat.lt_of_lt_of_le (Heap.lt_size hv.1) h)
  · exact Nat.ne_of_lt (Nat.lt_of_lt_of_le (Heap.lt_size (I.pin p hp).1) h)
theorem Inv.chg (I : Inv X pins σ H s) (he : H e = some (XO e C d fl)) (c : Chg (frs X.stack) e T s.heap h') (hT : ∀ t, T = some t → Ours X pins H t) : Inv X pins σ (upd H e (XO e C d false)) { s with heap := h' } := by
  obtain ⟨vs, sl, ho, _⟩ := xinstF I he
  obtain ⟨vs', ho'⟩ := c.rece _ _ ho rfl
  have nT : ∀ b u, H b = some u → T ≠ some b := fun b u q z => by rw [(hT b z).1] at q; cases q
  have ex : ∀ b o, s.heap.get? b = some o → ∃ o', h'.get? b = some o' := fun b o g => by
    by_cases z : b = e
    · subst z; exact ⟨_, ho'⟩
    · by_cases z2 : T = some b
      · exact c.rect b o z2 g
      · obtain ⟨sl, q⟩ := c.slot b o z z2 g
        exact ⟨_, q⟩
  have ne : ∀ b, H b = none → b ≠ e := fun b q z => by rw [z, he] at q; cases q
  refine I.call (g' := s.gens) (t' := s.toks) (d' := s.drawn) (ch := T.toList) ⟨fun b o g n hS hc => c.keep b o (ne b n) (fun z => hc (by simp [z])) hS g, fun b o g n _ hc => c.slot b o (ne b n) (fun z => hc (by simp [z])) g, fun b o _ n _ => by rw [upd_ne (ne b n)]; exact n, fun b o g _ => ex b o g, fun b xs q => ?_, fun b o u q => ?_, fun b ps q => ?_⟩ (fun b u q => ?_) I.bare (fun b hb => ?_)
  · rw [upd_ne (fun z => by rw [z, he] at q; cases q)]; exact q
  · rw [upd_ne (fun z => by rw [z, he] at q; cases q)]; exact q
  · rw [upd_ne (fun z => by rw [z, he] at q; cases q)]; exact ⟨#[], by simp [q]⟩
  · by_cases z : b = e
    · subst z
      rw [upd_same] at q
      cases q
      exact xo_mk ho' (fun z => nomatch z)
    · rw [upd_ne z] at q
      refine (I.hok b u q).stay (fun b' u' hb' g => ?_) (fun b' q' => ?_) (fun b' xs q' => ?_)
      · have nb : b' ≠ e ∧ T ≠ some b' ∧ b' ∉ frs X.stack := by
          rcases hb' with rfl | hb'
          · exact ⟨z, nT _ _ q, fun hm => by rw [I.stkFree _ hm] at q; cases q⟩
          · exact ⟨(fun z => by rw [z, he] at hb'; cases hb'), nT _ _ hb', (fun hm => by rw [I.stkFree _ hm] at hb'; cases hb')⟩
        exact c.keep b' u' nb.1 nb.2.1 nb.2.2 g
      · rw [upd_ne (fun z => by rw [z, he] at q'; cases q')]; exact q'
      · rw [upd_ne (fun z => by rw [z, he] at q'; cases q')]; exact q'
  · have e : T = some b := by
      cases T with
      | none => simp at hb
      | some t => simp at hb; rw [hb]
    obtain ⟨a1, a2, a3, a4, a5⟩ := hT b e
    exact ⟨.inr a2, a3, a4, a5⟩
theorem Inv.recd (I : Inv X pins σ H s) {t : Addr} (o : Ours X pins H t) (k : ∀ b o, b ≠ t → s.heap.get? b = some o → h'.get? b = some o) : Inv X pins σ H { s with heap := h' } :=
  I.turned (t' := s.toks) k o.1 o.2.2.1 (.inr o.2.1) o.2.2.2.1 o.2.2.2.2
end

def CX1 (P : Program) (w : World) : CXT := fun outer H s E e s' => ∃ a C d H' t, e = .ref a ∧ s'.os = s.os ∧ AllBare s'.gens ∧ Un (frs outer) [] H H' s.heap s'.heap ∧ HOk P w H' s'.heap ∧ H' a = some (XO a C d false) ∧
  TrAt s'.heap a (some t) .none ∧ H' t = none ∧ s.heap.objs.size ≤ t ∧ E e none H'
section
variable {X : Cx} {pins : List (Addr × Obj)} {σ : St} {H : Hp} {s : Shared} {a C : Addr} {d : Option Addr} {fl : Bool} {T : Option Addr} {h' : Heap} {E : XK} {E1 : Value → Shared → Prop}

theorem noted_ok {L : Addr} {outer : List Env} {Q : Unit → Shared → Prop} (hst : X.stack = X.env :: outer) (hf : X.env.frame = some L) (I : Inv X pins σ H s) (he : H a = some (XO a C d fl)) (ht : TrAt s.heap a T .none) (hT : ∀ t, T = some t → Ours X pins H t)
    (h : ∀ h' t, Inv X pins σ (upd H a (XO a C d false)) { s with heap := h' } → TrAt h' a (some t) (rawInt L) → Ours X pins (upd H a (XO a C d false)) t → s.heap.objs.size ≤ t → Q () { s with heap := h' }) : wpAny (model X.prog X.w) X.A (noteFrame (.ref a) X.env) Q E1 s := by
  have hfs : X.A.frames = some (X.env :: outer) := by rw [← hst]; exact I.ok.frames
  have hl : s.heap.FunFrames X.base (X.env :: outer) := by rw [← hst]; exact I.stack
  refine note_at hfs hl hf ht fun h' t hs c tr => ?_
  rw [← hst] at c
  have I2 := I.chg he c hT
  have o := I.ours hs
  refine h h' t I2 tr ⟨?_, o.2⟩ hs
  rw [upd_ne (fun z => by have := o.1; rw [z, he] at this; cases this)]
  exact o.1
theorem flown_ok {t : Addr} {fv : Value} {Q : Unit → Shared → Prop} {A : Around} (I : Inv X pins σ H s) (ht : TrAt s.heap a (some t) fv) (o : Ours X pins H t)
    (h : ∀ h', Inv X pins σ H { s with heap := h' } → TrAt h' a (some t) .none → Q () { s with heap := h' }) : wpAny (model X.prog X.w) A (setFlight (.ref a) none) Q E1 s :=
  flight_at ht fun h' k _ tr => h h' (I.recd o k) tr
theorem leave_ok {outer : List Env} {L : Addr} (hst : X.stack = X.env :: outer) (ho : X.outer = outer) (hex : X.ex = []) (hf : X.env.frame = some L) (I : Inv X pins σ H s) (he : H a = some (XO a C d fl)) (ht : TrAt s.heap a T .none) (hT : ∀ t, T = some t → Ours X pins H t)
    (hE : E (.ref a) none (upd H a (XO a C d false))) : wpAny (model X.prog X.w) X.A (leaving X.env (.ref a)) (fun _ s'' => CX1 X.prog X.w outer X.H₀ X.s₀ E (.ref a) s'') E1 s := by
  unfold leaving
  refine wpAny_bind (noted_ok hst hf I he ht hT fun h1 t I1 tr o hs => ?_)
  refine flown_ok (s := { s with heap := h1 }) I1 tr o fun h2 I2 tr2 => ?_
  have b := I2.base
  rw [hex, Cx.fs, ho] at b
  exact ⟨a, C, d, _, t, rfl, I2.os, I2.bare, b, I2.hok, upd_same, tr2, o.1, Nat.le_trans I.sz hs, hE⟩
end

def Throws (X : Cx) (E : XK) : Prop := ∀ (pins : List (Addr × Obj)) (σ : St) (H : Hp) (s : Shared) (a C : Addr) (d : Option Addr), Inv X pins σ H s → H a = some (XO a C d true) → E (.ref a) none (upd H a (XO a C d false)) → X.xe (.ref a) s
theorem upd_id {H : Hp} {a : Addr} {o : HO} (h : H a = some o) : upd H a o = H := by
  funext b
  by_cases z : b = a
  · subst z; rw [upd_same]; exact h.symm
  · exact upd_ne z
section
variable {P : Program} {w : World} {K : PySem.W.Frag} {mg : Str → Option Value} {base : Heap} {N : List Str} {qual : Str} {scope : Scope} {f : Addr} {cd : Value} {A : Around} {outer : List Env} {s : Shared} {H : Hp} {E : XK}
theorem throws1 : Throws (cxOf (CX1 P w) P w K mg base N qual scope f cd A outer s H E) E := by
  intro pins σ H1 s1 a C d I he hE
  obtain ⟨vs, sl, ho, hv⟩ := xinstF I he
  exact leave_ok (X := cxOf (CX1 P w) P w K mg base N qual scope f cd A outer s H E) (T := none) rfl rfl rfl rfl I he ⟨_, vs, ho, rfl, .inl ⟨rfl, hv rfl⟩⟩ (fun t z => nomatch z) hE
theorem Inv.thrown {X : Cx} {pins : List (Addr × Obj)} {σ : St} {H : Hp} {s s' : Shared} {e : Value} (I : Inv X pins σ H s) (h : CX1 X.prog X.w X.stack H s E e s') :
    ∃ a C d H' t, e = .ref a ∧ Inv X pins σ H' s' ∧ H' a = some (XO a C d false) ∧ TrAt s'.heap a (some t) .none ∧ Ours X pins H' t ∧ E e none H' := by
  obtain ⟨a, C, d, H', t, rfl, os, bare, un, hok, ha, tr, ht, hs, q⟩ := h
  have I1 : Inv X pins σ H' s' := I.call' (ch := []) os un hok bare fun b z => absurd z (by simp)
  exact ⟨a, C, d, H', t, rfl, I1, ha, tr, ⟨ht, (I.ours hs).2⟩, q⟩
theorem passes1 : Passes (CX1 P w) (cxOf (CX1 P w) P w K mg base N qual scope f cd A outer s H E) E := by
  intro pins σ H1 s1 e s2 I h
  obtain ⟨a, C, d, H', t, rfl, I1, ha, tr, o, q⟩ := I.thrown h
  exact leave_ok (X := cxOf (CX1 P w) P w K mg base N qual scope f cd A outer s H E) (T := some t) rfl rfl rfl rfl I1 ha tr (fun t' z => by cases z; exact o) (by rw [upd_id ha]; exact q)
theorem own1 : PassesOwn (model P w) (cxOf (CX1 P w) P w K mg base N qual scope f cd A outer s H E).A (cxOf (CX1 P w) P w K mg base N qual scope f cd A outer s H E).env (cxOf (CX1 P w) P w K mg base N qual scope f cd A outer s H E).xe := PassesOwn.leaving
end
end L2

set_option Elab.async false
set_option linter.all false
set_option maxRecDepth 100000
set_option maxHeartbeats 400000
namespace L2
open PySem PySem.Spec PyProof.Rows

section
variable {M : Model} {A : Around} {E : Value → Shared → Prop} {env : Env} {K : PySem.W.Frag}
theorem raise_own {s : Shared} {x : Sem Value} {Q : Flow → Shared → Prop} (hh : A.handled = none)
    (h : wpAny M A x (fun v s₁ => ∃ e C B d vs sl, v = .ref e ∧ K.In s₁.heap ∧ XCls K C B ∧ s₁.heap.get? e = some (⟨.ref C, d, .fields vs, sl⟩ : Obj) ∧ vs[1]? = some .none ∧ E (.ref e) s₁) E s) :
    wpAny M A (raiseStmt env (some x) none) Q E s := by
  unfold raiseStmt
  refine wpAny_bind (wpAny_mono h (fun v s₁ h₁ => ?_) fun _ _ x => x)
  obtain ⟨e, C, B, d, vs, sl, rfl, kin, cl, he, hv, hE⟩ := h₁
  obtain ⟨nm, q, N, bs, sn, sub, ab, col, dd, k0, k1, k2, k3, k5, ho⟩ := cl.ob
  have hC := kin _ _ ho
  have hcB : (Value.ref C :: .ref B :: xbm).contains (.type "BaseException") = true := rfl
  obtain ⟨hp, g, d', tk, os⟩ := s₁
  repeat (first | with_reducible refine wpAny_loadPart_at he ?_ | with_reducible refine wpAny_loadPart_at hC ?_ | (with_reducible refine wpAny_isSubtype_exc hC ?_; rw [hcB]) | wp_step)
  rw [hv]
  refine wpAny_pure ?_
  rw [if_neg (by decide)]
  refine wpAny_pure ?_
  exact wpAny_raiseNew_none hh hE
end
def tRaise (K : PySem.W.Frag) (E : XK) (te : TE) : TS := fun _ σ H => te σ H fun x H1 => ∃ a C B d, x = .ref a ∧ H1 a = some (XO a C d true) ∧ XCls K C B ∧ E (.ref a) none (upd H1 a (XO a C d false))
section
variable {X : Cx} {E : XK} {e : Expr} {te : TE} {pos : Pos}
theorem ps_raise (hc : X.calm = true) (hT : Throws X E) (he : PE X e te) : PS X (.Raise (some e) none pos) (tRaise X.K E te) := by
  refine ⟨?_⟩
  intro pins s σ H D I h
  rw [arm_exec_Raise]
  refine wpAny_bind (wpAny_standAt ?_)
  show wpAny _ _ (raiseStmt X.env (some (do let v ← eval e X.env; standAt pos; pure v)) none) _ _ _
  refine raise_own (K := X.K) (I.ok.hd hc) (wpAny_bind (thn (he pins s σ H _ I h) fun v s1 ⟨x, H1, I1, rx, a, C, B, d, ex, ea, cl, q⟩ => wpAny_bind (wpAny_standAt (wpAny_pure ?_))))
  subst ex
  obtain rfl : v = Value.ref a := rx
  obtain ⟨vs, sl, ho, hv⟩ := xinstF I1 ea
  exact ⟨a, C, B, d, vs, sl, rfl, I1.kIn, cl, ho, hv rfl, hT pins σ H1 s1 a C d I1 ea q⟩
end

section
variable {P : Program} {w : World} {K : PySem.W.Frag} {mg : Str → Option Value} {base : Heap}
theorem Fun.okx {x qual : Str} {st : Stmt} {f : Addr} {fd : FuncData} {N ps : List Str} {k : Nat} {sp : Sp} (F : Fun K x qual st f fd) (S : FnScope N ps (defScope st)) (len : ∀ vs H Q E, sp vs H Q E → vs.length = ps.length)
    (hbody : ∀ (cdv : Value) (A : Around) (outer : List Env) (s : Shared) (H : Hp) (vs : List V) (Q : VK) (E : XK), Room k (A.deeper (envOfC qual (defScope st) s.heap.objs.size f cdv)) → sp vs H Q E →
      ∃ t, PSs (cxOf (CX1 P w) P w K mg base N qual (defScope st) f cdv A outer s H E) (defBody st) t ∧ t { nx := fun _ H' => Q .non H', rt := Q } (start N vs) H) : FnOk P w K mg base (CX1 P w) (k + 1) f fd ps sp := by
  obtain ⟨oc, od, kV, doc, pm, an, cdv, ct, osl, rfl, lk, hcd⟩ := F.ex
  exact fn_of lk hcd S len fun A outer s H vs Q E hr hsp => hbody cdv A outer s H vs Q E hr hsp
structure DefX (P : Program) (w : World) (K : PySem.W.Frag) (mg : Str → Option Value) (base : Heap) (x : Str) (k : Nat) (ps : List Str) (sp : Sp) : Prop where
  ex : ∃ f fd, FnOk P w K mg base (CX1 P w) k f fd ps sp ∧ mg x = some (.ref f) ∧ PySem.W.keepIn K (.ref f) = true ∧ Binds K fd ps []
structure DefIX (P : Program) (w : World) (K : PySem.W.Frag) (mg : Str → Option Value) (base : Heap) (x : Str) (C : Addr) (k : Nat) (ps : List Str) (sp : Sp) : Prop where
  ex : ∃ f fd, Mk K C f ∧ FnOk P w K mg base (CX1 P w) k f fd ps sp ∧ Binds K fd ps []
  mg : mg x = some (.ref C)
theorem Top1.okx {x qual : Str} {st : Stmt} {N ps : List Str} {k : Nat} {sp : Sp} (T : Top1 K mg x qual st ps) (S : FnScope N ps (defScope st)) (len : ∀ vs H Q E, sp vs H Q E → vs.length = ps.length)
    (hbody : ∀ (f : Addr) (cdv : Value) (A : Around) (outer : List Env) (s : Shared) (H : Hp) (vs : List V) (Q : VK) (E : XK), Room k (A.deeper (envOfC qual (defScope st) s.heap.objs.size f cdv)) → sp vs H Q E →
      ∃ t, PSs (cxOf (CX1 P w) P w K mg base N qual (defScope st) f cdv A outer s H E) (defBody st) t ∧ t { nx := fun _ H' => Q .non H', rt := Q } (start N vs) H) : DefX P w K mg base x (k + 1) ps sp := by
  obtain ⟨f, fd, F, hm, hb⟩ := T.ex
  exact ⟨f, fd, F.okx S len (hbody f), hm, F.kp, hb⟩
theorem TopI.okx {x : Str} {C : Addr} {qual : Str} {st : Stmt} {N ps : List Str} {k : Nat} {sp : Sp} (T : TopI K mg x C qual st ps) (S : FnScope N ps (defScope st)) (len : ∀ vs H Q E, sp vs H Q E → vs.length = ps.length)
    (hbody : ∀ (f : Addr) (cdv : Value) (A : Around) (outer : List Env) (s : Shared) (H : Hp) (vs : List V) (Q : VK) (E : XK), Room k (A.deeper (envOfC qual (defScope st) s.heap.objs.size f cdv)) → sp vs H Q E →
      ∃ t, PSs (cxOf (CX1 P w) P w K mg base N qual (defScope st) f cdv A outer s H E) (defBody st) t ∧ t { nx := fun _ H' => Q .non H', rt := Q } (start N vs) H) : DefIX P w K mg base x C (k + 1) ps sp := by
  obtain ⟨f, fd, M, F, hb⟩ := T.ex
  exact ⟨⟨f, fd, M, F.okx S len (hbody f), hb⟩, T.mg⟩
end
section
variable {X : Cx} {o e : Expr} {es : List Expr} {to : TE} {t : TA} {apos p pos : Pos} {C : Addr} {m x : Str} {k j : Nat} {ps : List Str} {sp : Sp} {E : XK}

theorem pe_cfx (D : DefX X.prog X.w X.K X.mg X.base x k ps sp) (hx : Passes (CX1 X.prog X.w) X E) (hr : Room j X.A) (ha : PA X (e :: es) t) (hg : Gl X x := by rfl) (hj : k ≤ j := by decide)
    (hdb : (x == ("__debug__" : Str)) = false := by decide) (h1 : plainE e = true := by rfl) (h2 : es.all plainE = true := by rfl) : PE X (.Call (.Name x p) (e :: es) [] pos) (tCall sp [] E t) := by
  obtain ⟨f, fd, F, hm, hk, hb⟩ := D.ex
  exact pe_call F (hr.mono hj) hg hm hk hb .nil hx ha hdb (star_cons h1) (star_any h2)
end

structure PEX (X : Cx) (e : Expr) (t : XK → TE) : Prop where
  out : ∀ (pins : List (Addr × Obj)) (s : Shared) (σ : St) (H : Hp) (Q : VK) (E : XK) (xe : Value → Shared → Prop), (∀ H1 s1 x s', Inv X pins σ H1 s1 → CX1 X.prog X.w X.stack H1 s1 E x s' → xe x s') → Inv X pins σ H s → t E σ H Q →
    wpAny (model X.prog X.w) X.A (eval e X.env) (EP X pins σ Q) xe s
section
variable {X : Cx} {k j : Nat} {f C : Addr} {fd : FuncData} {ps : List Str} {sp : Sp} {E : XK} {x m : Str} {p pos apos : Pos} {e o : Expr} {es : List Expr} {ta : TE} {t : TA}
theorem PA.any {xe : Value → Shared → Prop} (ha : PA X.nox es t) {pins : List (Addr × Obj)} {s : Shared} {σ : St} {H : Hp} {Q : List V → Hp → Prop} (I : Inv X pins σ H s) (h : t σ H Q) (pos : Pos) :
    wpAny (model X.prog X.w) X.A (spliced (backTo pos (starEach es X.env))) (AP X pins σ Q) xe s :=
  wpAny_mono (ha.out pos pins s σ H Q (I.wish _) h) (fun _ _ ⟨vs, H', I', r, q⟩ => ⟨vs, H', I'.unwish, r, q⟩) fun _ _ z => False.elim z
theorem run_makex {pins : List (Addr × Obj)} {σ : St} {H : Hp} {s : Shared} {Q : VK} {us : List Value} {vs : List V} {xe : Value → Shared → Prop} (M : Mk X.K C f) (F : FnOk X.prog X.w X.K X.mg X.base (CX1 X.prog X.w) k f fd ps sp) (hr : Room (k + 1) X.A) (hb : Binds X.K fd ps [])
    (hx : ∀ H1 s1 x s', Inv X pins σ H1 s1 → CX1 X.prog X.w X.stack H1 s1 E x s' → xe x s') (I : Inv X pins σ H s) (r : Vals vs us)
    (h : ∀ x dx, H x = none → H dx = none → dx ≠ x → sp (.ref x :: vs) (upd (upd H dx (.own x)) x (.ins C dx [])) (fun v H2 => v = .non ∧ Q (.ref x) H2) E) :
    wpAny (model X.prog X.w) X.A (call (.ref C) us) (EP X pins σ Q) xe s := by
  have hq := h (s.heap.objs.size + 1) s.heap.objs.size (I.hok.fresh (Nat.le_succ _)) (I.hok.fresh (Nat.le_refl _)) (Nat.ne_of_lt (Nat.lt_succ_self _))
  have I2 := Inv.made (C := C) I
  have r2 : Vals (V.ref (s.heap.objs.size + 1) :: vs) ((Value.ref (s.heap.objs.size + 1) :: us) ++ []) := by rw [List.append_nil]; exact .cons rfl r
  have hl : ((Value.ref (s.heap.objs.size + 1) :: us) ++ []).length = ps.length := by
    have e := r2.length
    rw [F.len _ _ _ _ hq] at e
    exact e.symm
  refine wpAny_call (make_map (f := f) I.kIn M.makes M.init (beq_iff_eq.mp M.fn) (codeAny_mono (F.run _ X.stack _ _ ⟨Value.ref (s.heap.objs.size + 1) :: us, []⟩ ((Value.ref (s.heap.objs.size + 1) :: us) ++ []) _ _ E (hr.make C us [])
    (I2.env0.make C us []) (hb _ (Value.ref (s.heap.objs.size + 1) :: us) I2.kIn hl) r2 hq) fun r s' hq' => ?_))
  cases r with
  | error e => exact hx _ _ e s' I2 hq'
  | ok fl =>
    cases fl with
    | ret u =>
      obtain ⟨v, H', I3, rv, ev, q3⟩ := I2.after hq'
      subst ev
      exact ⟨rv, ⟨V.ref (s.heap.objs.size + 1), H', I3, rfl, q3⟩⟩
    | next => exact False.elim hq'
    | brk => exact False.elim hq'
    | cont => exact False.elim hq'

theorem pex_ci (D : DefIX X.prog X.w X.K X.mg X.base x C k ps sp) (hr : Room j X.A) (ha : PA X.nox (e :: es) t) (hg : Gl X x := by rfl) (hj : k + 1 ≤ j := by decide) (hdb : (x == ("__debug__" : Str)) = false := by decide)
    (h1 : plainE e = true := by rfl) (h2 : es.all plainE = true := by rfl) : PEX X (.Call (.Name x p) (e :: es) [] pos) (fun E => tMake C sp [] E t) := by
  obtain ⟨f, fd, M, F, hb⟩ := D.ex
  refine ⟨fun pins s σ H Q E xe hx I h => ?_⟩
  refine wpAny_Call_Name_kw (ld_glob I hg D.mg ?_ hdb)
  refine PySem.W.callWith_K (h₀ := X.base) I.ok.mod.kin M.kp (thn (ha.any I h pos) fun us s1 ⟨vs, H1, I1, r, q⟩ => ⟨I1.kIn, ?_⟩) (star_cons h1) (star_any h2)
  exact run_makex M F (hr.mono hj) hb hx I1 r (fun x dx a b c => by have := q x dx a b c; rwa [List.append_nil] at this)

end

structure PSX (X : Cx) (st : Stmt) (t : XK → TS) : Prop where
  out : ∀ (pins : List (Addr × Obj)) (s : Shared) (σ : St) (H : Hp) (D : Ends) (E : XK) (xe : Value → Shared → Prop), (∀ H1 s1 x s', Inv X pins σ H1 s1 → CX1 X.prog X.w X.stack H1 s1 E x s' → xe x s') → Inv X pins σ H s → t E D σ H →
    wpAny (model X.prog X.w) X.A (exec st X.env) (SP X pins D) xe s
section
variable {X : Cx} {e : Expr} {t : XK → TE} {pos pos' : Pos} {x : Str} {i : Nat}
theorem psx_expr (he : PEX X e t) (hs : swapsWith e none pos.line X.env = pure false := by rfl) : PSX X (.Expr e pos) (fun E => tDrop (t E)) :=
  ⟨fun pins s σ H D E xe hx I h => wpAny_Expr_any (thn (he.out pins s σ H _ E xe hx I h) fun v s1 ⟨x, H1, I1, r1, q1⟩ => ⟨σ, H1, I1, q1⟩) I.quiet hs⟩
end
end L2

set_option Elab.async false
set_option linter.all false
set_option maxRecDepth 100000
set_option maxHeartbeats 400000
namespace L2
open PySem PySem.Spec PyProof.Rows

structure XBase (K : PySem.W.Frag) (B : Addr) : Prop where
  ob : ∃ nm q N bs sn sub ab col dd k0 k1 k2 k3 k5, K.lookup B = some (excClassObj nm q B N bs xbm true sn sub ab col dd k0 k1 k2 k3 k5 "ValueError.__new__")
section
variable {M : Model} {A : Around} {E : Value → Shared → Prop} {K : PySem.W.Frag}
theorem excm {s : Shared} {e C B : Addr} {d : Option Addr} {vs : Array Value} {sl : Array (Option Value)} {Q : Bool → Shared → Prop} (kin : K.In s.heap) (cl : XCls K C B) (xb : XBase K B) (he : s.heap.get? e = some (⟨.ref C, d, .fields vs, sl⟩ : Obj))
    (hq : Q true s) : wpAny M A (excMatches (.ref e) (.ref B)) Q E s := by
  obtain ⟨nm, q, N, bs, sn, sub, ab, col, dd, k0, k1, k2, k3, k5, ho⟩ := cl.ob
  have hC := kin _ _ ho
  obtain ⟨nm', q', N', bs', sn', sub', ab', col', dd', k0', k1', k2', k3', k5', ho'⟩ := xb.ob
  have hB := kin _ _ ho'
  obtain ⟨h, g, d', t, os⟩ := s
  have hcB : (Value.ref B :: xbm).contains (.type "BaseException") = true := rfl
  have hcC : (Value.ref C :: .ref B :: xbm).contains (.ref B) = true := by simp
  have f := tc_notTuple
  unfold excMatches
  repeat (first | with_reducible refine wpAny_loadPart_at he ?_ | with_reducible refine wpAny_loadPart_at hC ?_ | with_reducible refine wpAny_loadPart_at hB ?_ | (with_reducible refine wpAny_isSubtype_exc hC ?_; rw [hcC]) | (with_reducible refine wpAny_isSubtype_exc hB ?_; rw [hcB]) | wp_step)
  exact hq
end

abbrev Cx.amid (X : Cx) (a : Addr) : Cx := { X with A := X.A.mark (some (.ref a)), calm := false, xe := fun _ _ => False }
section
variable {X : Cx} {pins : List (Addr × Obj)} {σ : St} {H : Hp} {s : Shared} {a : Addr}
theorem Cx.Ok.amid (ok : X.Ok) (a : Addr) : (X.amid a).Ok :=
  ⟨ok.mod, ok.kind, ok.glob, ok.blt, ok.above, ok.inj, ok.has, ok.cab, (fun z => nomatch z), ok.frames, ok.stk, ok.exf, ok.bs, ok.bsz, ok.noex, ok.exfs, ok.funs, ok.frf⟩
theorem Inv.amid (I : Inv X pins σ H s) (a : Addr) : Inv (X.amid a) pins σ H s := ⟨I.ok.amid a, I.os, I.bare, I.base, I.loc, I.cell, I.free, I.freeC, I.pin, I.hok, I.len⟩
theorem Inv.unamid (ok : X.Ok) (I : Inv (X.amid a) pins σ H s) : Inv X pins σ H s := ⟨ok, I.os, I.bare, I.base, I.loc, I.cell, I.free, I.freeC, I.pin, I.hok, I.len⟩

theorem goes_ok {M : Model} {A : Around} {E : Value → Shared → Prop} {i : Nat} {n : Str} {pos : Pos} {Q : Unit → Shared → Prop} (I : Inv X pins σ H s) (hN : X.N.Nodup) (hi : X.N[i]? = some n) (hk : X.env.scope.names.lookup n = some .local)
    (h : ∀ s', Inv X pins (σ.set i none) H s' → Q () s') : wpAny M A (do bindName X.env n .none; unbindBehindTheSuite X.env n pos) Q E s := by
  refine wpAny_bind (wpAny_bindName (store_ok I hN hi (.inl hk) (v := .non) (u := .none) rfl (fun s1 I1 => ?_) (.inr hk)))
  have hiσ : i < σ.length := by rw [I.len]; exact (List.getElem?_eq_some_iff.mp hi).1
  obtain ⟨m, hn, hl⟩ := id I1.loc
  have hkl : X.env.kindOf n = some .local := hk
  have hp : (X.env.scope.kind == .class || (X.env.scope.kind == .module && X.env.locals != X.env.globals)) = false := by rw [I.ok.kind]; rfl
  have hmn : ∃ u, m n = some u := by
    obtain ⟨u, _, q⟩ := hl i n .non hi (List.getElem?_set_self hiσ) (.inl hk)
    rcases q with ⟨_, e⟩ | ⟨k, _⟩
    · exact ⟨u, e⟩
    · rcases k with k | k <;> (rw [hkl] at k; cases k)
  obtain ⟨um, hmn⟩ := hmn
  have cne := I1.cne
  obtain ⟨oL, _, _, hoL, _⟩ := id hn
  unfold unbindBehindTheSuite
  refine wpAny_onRaise ?_
  unfold unbindName
  refine wpAny_bind (wpAny_point (wpAny_bind ?_))
  unfold deleteName
  simp only [hkl, hp]
  rw [if_neg (by decide)]
  refine wpAny_bind (wpAny_nsDel_keeps hn fun h' v hn' hs => ?_)
  rw [hmn]
  simp only [if_true, Option.isSome_some, Bool.not_true, Bool.false_eq_true, if_false]
  refine wpAny_pure (wpAny_point (h _ ⟨I1.ok, I1.os, I1.bare, ⟨fun b o e n hb hx => ?_, fun b o e n hb hx => ?_, I1.base.free, fun b o e hx => ?_, I1.base.tups, I1.base.frzs, I1.base.tbls⟩, ⟨_, hn', fun j y v' e1 e2 e3 => ?_⟩, fun y c e => ?_, I1.free, I1.freeC, fun p hp => ?_, fun b ob e => ?_, by simpa using I.len⟩))
  · exact (hs.2 b (Nat.ne_of_lt (Nat.lt_of_lt_of_le (Heap.lt_size e) I.ok.above))).trans (I1.base.keep b o e n hb hx)
  · obtain ⟨sl, e1⟩ := I1.base.slot b o e n hb hx
    exact ⟨sl, (hs.2 b (Nat.ne_of_lt (Nat.lt_of_lt_of_le (Heap.lt_size e) I.ok.above))).trans e1⟩
  · obtain ⟨o', e1⟩ := I1.base.there b o e hx
    exact ⟨o', (hs.2 b (Nat.ne_of_lt (Nat.lt_of_lt_of_le (Heap.lt_size e) I.ok.above))).trans e1⟩
  · by_cases hj : j = i
    · subst hj
      rw [List.getElem?_set_self hiσ] at e2
      cases e2
    · rw [List.getElem?_set_ne (Ne.symm hj)] at e2
      obtain ⟨u', r', q⟩ := hl j y v' e1 (by rw [List.getElem?_set_ne (Ne.symm hj)]; exact e2) e3
      refine ⟨u', r', ?_⟩
      rcases q with ⟨k, e⟩ | ⟨k, c, e, z⟩
      · refine .inl ⟨k, ?_⟩
        have : y ≠ n := fun e => hj (nodup_ix hN e1 (e ▸ hi))
        simp [this, e]
      · exact .inr ⟨k, c, e, z.sameBut hs (cne y c e)⟩
  · obtain ⟨w', z⟩ := I1.cell y c e
    exact ⟨w', z.sameBut hs (cne y c e)⟩
  · obtain ⟨e, n, ne, nf, d⟩ := I1.pin p hp
    exact ⟨(hs.2 p.1 ne).trans e, n, ne, nf, d⟩
  · refine (I1.hok b ob e).stay (fun c w' hc q => (hs.2 c ?_).trans q) (fun _ q => q) fun _ _ q => q
    rintro rfl
    rcases hc with rfl | hc
    · rw [I1.free] at e; cases e
    · rw [I1.free] at hc; cases hc
end
def tTry (K : PySem.W.Frag) (i : Nat) (B : Addr) (tb : XK → TS) (th : TS) : TS := fun D σ H => tb (fun e _ H' => ∃ a C d, e = .ref a ∧ H' a = some (XO a C d false) ∧ XCls K C B ∧
  th { nx := fun σ' H2 => D.nx (σ'.set i none) H2, rt := D.rt, bk := fun σ' H2 => D.bk (σ'.set i none) H2, ct := fun σ' H2 => D.ct (σ'.set i none) H2 } (σ.set i (some (.ref a))) H') D σ H
section
variable {X : Cx} {i : Nat} {B : Addr} {tb : XK → TS} {th : TS} {n x : Str} {st b₀ : Stmt} {suite : List Stmt} {np hpos pos : Pos}
theorem ps_try (hst : X.stack = X.env :: X.outer) (hf : X.env.frame = some X.env.locals) (hN : X.N.Nodup) (hi : X.N[i]? = some n) (hk : X.env.scope.names.lookup n = some .local) (hg : Gl X x) (hm : X.mg x = some (.ref B)) (xb : XBase X.K B)
    (hb : PSX X st tb) (hs : ∀ a, PSs (X.amid a) (b₀ :: suite) th) (hdb : (x == ("__debug__" : Str)) = false := by decide) :
    PS X (.Try [st] [.ExceptHandler (some (.Name x np)) (some n) (b₀ :: suite) hpos] [] [] pos) (tTry X.K i B tb th) := by
  refine ⟨?_⟩
  intro pins s σ H D I h
  refine wpAny_Try_except ?_
  refine wpAny_execs_cons (thn (hb.out pins s σ H D _ _ (fun H1 s1 x s' I1 hx => ?_) I h) fun f s1 q => ?_)
  · obtain ⟨a, C0, d0, H', t, rfl, I2, ha, tr, o, a', C, d, ea, ha', cl, q⟩ := I1.thrown hx
    cases ea
    have hok := I2.ok
    refine noted_ok (T := some t) hst hf I2 ha' tr (fun t' z => by cases z; exact o) fun h3 t3 I3 tr3 o3 _ => ?_
    rw [upd_id ha'] at I3 o3
    refine flown_ok (s := { s' with heap := h3 }) I3 tr3 o3 fun h4 I4 tr4 => ?_
    obtain ⟨vs, sl, ho⟩ := xinst I4 ha'
    refine wpAny_handleBy_cons (codeAny_handlers_test (ld_glob (X := X.amid a) (I4.amid a) hg hm (excm (I4.amid a).kIn cl xb ho ?_) hdb)) (by intro z; cases z)
    refine codeAny_handlers_suite_as (flown_ok (X := X.amid a) (s := { s' with heap := h4 }) (I4.amid a) tr4 o3 fun h5 I5 _ => ?_)
    refine store_ok (X := X.amid a) I5 hN hi (.inl hk) (v := .ref a) (u := .ref a) rfl (fun s6 I6 => ?_) (.inr hk)
    refine wpAny_mono ((hs a) pins s6 _ H' _ I6 q) (fun f s7 h7 => ?_) fun _ _ z => False.elim z
    show wpAny _ X.A (do bindName X.env n .none; unbindBehindTheSuite X.env n hpos) _ _ s7
    cases f with
    | next =>
      obtain ⟨σ', H2, I7, q7⟩ := h7
      exact goes_ok (I7.unamid hok) hN hi hk fun s8 I8 => ⟨_, H2, I8, q7⟩
    | brk =>
      obtain ⟨σ', H2, I7, q7⟩ := h7
      exact goes_ok (I7.unamid hok) hN hi hk fun s8 I8 => ⟨_, H2, I8, q7⟩
    | cont =>
      obtain ⟨σ', H2, I7, q7⟩ := h7
      exact goes_ok (I7.unamid hok) hN hi hk fun s8 I8 => ⟨_, H2, I8, q7⟩
    | ret u =>
      obtain ⟨v, σ', H2, I7, r7, q7⟩ := h7
      exact goes_ok (I7.unamid hok) hN hi hk fun s8 I8 => ⟨v, _, H2, I8, r7, q7⟩
  · cases f with
    | next => exact wpAny_execs_nil (wpAny_execs_nil q)
    | ret v => exact q
    | brk => exact q
    | cont => exact q
end
end L2

set_option Elab.async false
set_option linter.all false
set_option maxRecDepth 100000
set_option maxHeartbeats 400000
namespace L2
open PySem PySem.Spec PyProof.Rows

structure RoomN (k : Nat) (A : Around) : Prop where
  dp : A.depth + 3 * k + 5 < recursionLimit
  un : A.units + 16 * k + 200 < cLine
theorem RoomN.mono {j k : Nat} {A : Around} (r : RoomN k A) (h : j ≤ k) : RoomN j A := ⟨by have := r.dp; omega, by have := r.un; omega⟩
theorem RoomN.deeper {k : Nat} {A : Around} (r : RoomN (k + 1) A) (env : Env) : RoomN k (A.deeper env) :=
  ⟨by have := r.dp; show A.depth + 1 + 3 * k + 5 < _; omega, by have := r.un; show A.units + 3 + 16 * k + 200 < _; omega⟩
theorem RoomN.units {k : Nat} {A : Around} (r : RoomN k A) : A.units + 64 < cLine := by have := r.un; omega
theorem Room.amid {k : Nat} {A : Around} (r : Room k A) (a : Addr) : RoomN k (A.mark (some (.ref a))) := ⟨r.dp, r.un⟩
structure FnOkN (P : Program) (w : World) (K : PySem.W.Frag) (mg : Str → Option Value) (base : Heap) (k : Nat) (f : Addr) (fd : FuncData) (ps : List Str) (sp : Sp) : Prop where
  len : ∀ vs H Q E, sp vs H Q E → vs.length = ps.length
  run : ∀ (A : Around) (outer : List Env) (s : Shared) (H : Hp) (args : Args) (us : List Value) (vs : List V) (Q : VK) (E : XK), RoomN k A → Env0 P w K mg base A outer s H → BindsTo s fd args (ps.zip us) → Vals vs us → sp vs H Q E →
    codeAny (model P w) A (.call (.ref f) args) (CR CX0 outer P w H s Q E) s
abbrev cxOfN (P : Program) (w : World) (K : PySem.W.Frag) (mg : Str → Option Value) (base : Heap) (N : List Str) (qual : Str) (scope : Scope) (f : Addr) (cd : Value) (A : Around) (outer : List Env) (s : Shared) (H : Hp) : Cx :=
  { cxOf CX0 P w K mg base N qual scope f cd A outer s H E0 with calm := false, xe := fun _ _ => False }
theorem inv_startN {P : Program} {w : World} {K : PySem.W.Frag} {mg : Str → Option Value} {base : Heap} {N ps : List Str} {qual : Str} {scope : Scope} {f : Addr} {cd : Value} {A : Around} {outer : List Env} {s s1 : Shared} {H : Hp} {us : List Value} {vs : List V}
    (S : FnScope N ps scope) (e0 : Env0 P w K mg base A outer s H) (hl : vs.length = ps.length) (r : Vals vs us)
    (x : InCallC s s.heap.objs.size (bindL (envOfC qual scope s.heap.objs.size f cd).kindOf (ps.zip us) fun _ => none) (cellsFrom (s.heap.objs.size + 1) scope.names []) (bindC (envOfC qual scope s.heap.objs.size f cd).kindOf (ps.zip us) fun _ => none) s1) :
    Inv (cxOfN P w K mg base N qual scope f cd A outer s H) [] (start N vs) H s1 := by
  have I : Inv (cxOf CX0 P w K mg base N qual scope f cd { A with handled := none } outer s H E0) [] (start N vs) H s1 := inv_start S rfl ⟨e0.frames, e0.mod, e0.bs, e0.bsz, e0.funs, e0.frf, e0.hok, e0.bare⟩ hl r x
  have ok := I.ok
  exact ⟨⟨ok.mod, ok.kind, ok.glob, ok.blt, ok.above, ok.inj, ok.has, ok.cab, (fun z => nomatch z), Around.frames_deeper e0.frames, ok.stk, ok.exf, ok.bs, ok.bsz, ok.noex, ok.exfs, ok.funs, ok.frf⟩, I.os, I.bare, I.base, I.loc, I.cell, I.free, I.freeC, I.pin, I.hok, I.len⟩
theorem fn_ofN {P : Program} {w : World} {K : PySem.W.Frag} {mg : Str → Option Value} {base : Heap} {k : Nat} {f : Addr} {name qual : Str} {params : Arguments} {body : List Stmt} {scope : Scope} {dV kV doc pm cdv ct oc : Value} {an od : Option Addr}
    {osl : Array (Option Value)} {N ps : List Str} {sp : Sp} (lk : K.lookup f = some ⟨oc, od, .func (PySem.W.fnOf name qual params body scope dV kV doc pm an cdv ct), osl⟩) (hcd : PySem.W.codeIn K cdv qual = true) (S : FnScope N ps scope)
    (len : ∀ vs H Q E, sp vs H Q E → vs.length = ps.length)
    (hbody : ∀ (A : Around) (outer : List Env) (s : Shared) (H : Hp) (vs : List V) (Q : VK) (E : XK), RoomN k (A.deeper (envOfC qual scope s.heap.objs.size f cdv)) → sp vs H Q E →
      ∃ t, PSs (cxOfN P w K mg base N qual scope f cdv A outer s H) body t ∧ t { nx := fun _ H' => Q .non H', rt := Q } (start N vs) H) :
    FnOkN P w K mg base (k + 1) f (PySem.W.fnOf name qual params body scope dV kV doc pm an cdv ct) ps sp := by
  refine ⟨len, fun A outer s H args us vs Q E hr e0 hb r hsp => ?_⟩
  have hl := len _ _ _ _ hsp
  have KX : K.In s.heap := e0.mod.kin.keeps fun b o e => (e0.bs b o e).1
  have lim : s.heap.NoLimit := e0.mod.nolimit.keeps fun b o e => (e0.bs b o e).1
  have hkind : ∀ y ∈ ps.zip us, scope.names.lookup y.1 = some .local ∨ (scope.names.lookup y.1 = some .cell ∧ ((cellsFrom (s.heap.objs.size + 1) scope.names []).lookup y.1).isSome = true) := fun ⟨n, v⟩ hy => by
    rcases S.par n (List.of_mem_zip hy).1 with q | q
    · exact .inl q
    · exact .inr ⟨q, PySem.W.cellsFrom_some _ _ _ (.inl q)⟩
  refine codeAny_call_function (by have := hr.dp; omega) (KX _ _ lk) rfl S.co S.gen rfl (PySem.W.codeRec_of KX hcd) (hb _ _ _ _ ?_)
  refine wpAny_newFunctionEnv_cells S.kind hkind fun env he s1 x => ?_
  subst he
  refine ⟨lim.keeps x.toInCall.keep, codeAny_func ?_⟩
  obtain ⟨t, ht, hq⟩ := hbody A outer s H vs Q E (hr.deeper _) hsp
  have I : Inv (cxOfN P w K mg base N qual scope f cdv A outer s H) [] (start N vs) H s1 := inv_startN S e0 hl r x
  refine wpAny_mono (ht [] s1 (start N vs) H _ I hq) (fun fl s' hs => ?_) fun e s' hs => False.elim hs
  have fin : ∀ {σ' : St} {H' : Hp} {v : V} {u : Value}, Inv (cxOfN P w K mg base N qual scope f cdv A outer s H) [] σ' H' s' → RelV v u → Q v H' → CE outer P w H s Q u s' :=
    fun {σ' H' v u} J rv q => ⟨v, H', J.os, J.bare, J.base, J.hok, rv, q⟩
  cases fl with
  | ret u =>
    obtain ⟨v, σ', H', J, rv, q⟩ := hs
    exact fin J rv q
  | next =>
    obtain ⟨σ', H', J, q⟩ := hs
    exact fin (v := V.non) (u := Value.none) J rfl q
  | brk =>
    obtain ⟨_, _, _, q⟩ := hs
    exact False.elim q
  | cont =>
    obtain ⟨_, _, _, q⟩ := hs
    exact False.elim q
section
variable {P : Program} {w : World} {K : PySem.W.Frag} {mg : Str → Option Value} {base : Heap}
structure DefN (P : Program) (w : World) (K : PySem.W.Frag) (mg : Str → Option Value) (base : Heap) (x : Str) (k : Nat) (ps : List Str) (sp : Sp) : Prop where
  ex : ∃ f fd, FnOkN P w K mg base k f fd ps sp ∧ mg x = some (.ref f) ∧ PySem.W.keepIn K (.ref f) = true ∧ Binds K fd ps []
theorem Top1.okN {x qual : Str} {st : Stmt} {N ps : List Str} {k : Nat} {sp : Sp} (T : Top1 K mg x qual st ps) (S : FnScope N ps (defScope st)) (len : ∀ vs H Q E, sp vs H Q E → vs.length = ps.length)
    (hbody : ∀ (f : Addr) (cdv : Value) (A : Around) (outer : List Env) (s : Shared) (H : Hp) (vs : List V) (Q : VK) (E : XK), RoomN k (A.deeper (envOfC qual (defScope st) s.heap.objs.size f cdv)) → sp vs H Q E →
      ∃ t, PSs (cxOfN P w K mg base N qual (defScope st) f cdv A outer s H) (defBody st) t ∧ t { nx := fun _ H' => Q .non H', rt := Q } (start N vs) H) : DefN P w K mg base x (k + 1) ps sp := by
  obtain ⟨f, fd, F, hm, hb⟩ := T.ex
  have kp := F.kp
  obtain ⟨oc, od, kV, doc, pm, an, cdv, ct, osl, rfl, lk, hcd⟩ := F.ex
  exact ⟨f, _, fn_ofN lk hcd S len fun A outer s H vs Q E hr hsp => hbody f cdv A outer s H vs Q E hr hsp, hm, kp, hb⟩
end
section
variable {X : Cx} {e : Expr} {es : List Expr} {t : TA} {p pos : Pos} {x : Str} {k j : Nat} {ps : List Str} {sp : Sp}
theorem pe_cfN (D : DefN X.prog X.w X.K X.mg X.base x k ps sp) (hr : RoomN j X.A) (ha : PA X (e :: es) t) (hg : Gl X x := by rfl) (hj : k ≤ j := by decide)
    (hdb : (x == ("__debug__" : Str)) = false := by decide) (h1 : plainE e = true := by rfl) (h2 : es.all plainE = true := by rfl) : PE X (.Call (.Name x p) (e :: es) [] pos) (tCall sp [] E0 t) := by
  obtain ⟨f, fd, F, hm, hk, hb⟩ := D.ex
  refine ⟨?_⟩
  intro pins s σ H Q I h
  refine wpAny_Call_Name_kw (ld_glob I hg hm ?_ hdb)
  refine PySem.W.callWith_K (h₀ := X.base) I.ok.mod.kin hk (thn (ha pos pins s σ H _ I h) fun us s1 ⟨vs, H1, I1, r, q⟩ => ⟨I1.kIn, ?_⟩) (star_cons h1) (star_any h2)
  simp only [List.append_nil] at q
  have hl : (us ++ []).length = ps.length := by rw [List.append_nil, ← r.length]; exact F.len _ _ _ _ q
  have r2 : Vals vs (us ++ []) := by rw [List.append_nil]; exact r
  refine wpAny_call (codeAny_mono (F.run X.A X.stack s1 H1 ⟨us, []⟩ (us ++ []) vs Q E0 (hr.mono hj) I1.env0 (hb s1 us I1.kIn hl) r2 q) fun r s' hq => ?_)
  cases r with
  | error e => exact False.elim hq
  | ok fl =>
    cases fl with
    | ret u => exact I1.after hq
    | next => exact False.elim hq
    | brk => exact False.elim hq
    | cont => exact False.elim hq
end
end L2

set_option Elab.async false
set_option linter.all false
set_option maxRecDepth 100000
set_option maxHeartbeats 400000
namespace L2
open PySem PySem.Spec PyProof.Rows

def uMulL : R2 := fun x y H Q => match x, y with
  | .ref a, .int n => ∃ v, H a = some (.lst [v]) ∧ -1000 ≤ n ∧ n ≤ 1000 ∧ ∀ p, H p = none → Q (.ref p) (upd H p (.lst (List.replicate n.toNat v)))
  | _, _ => False
theorem rep_flat {α : Type} (n : Nat) (v : α) : (List.replicate n [v]).flatten = List.replicate n v := by
  induction n with
  | zero => rfl
  | succ n ih => rw [List.replicate_succ, List.flatten_cons, ih]; rfl
theorem vals_rep {v : V} {u : Value} (r : RelV v u) : ∀ n : Nat, Vals (List.replicate n v) (List.replicate n u)
  | 0 => .nil
  | n + 1 => .cons r (vals_rep r n)
section
variable {X : Cx}
theorem op_uMulL : OpR X (binaryOp .Mult) uMulL := by
  intro pins s σ H x y v u Q I rx ry h
  cases x <;> cases y <;> first
    | exact (show False from h).elim
    | skip
  rename_i a n
  obtain ⟨w, hw, h1, h2, q⟩ := h
  obtain rfl : v = Value.ref a := rx
  obtain ⟨tk, rfl⟩ : ∃ tk, u = Value.int n tk := ry
  obtain ⟨_, its, k, rv, ho⟩ := I.hok a _ hw
  obtain ⟨iw, rfl, rw'⟩ := rv.one
  have hsz' : ([iw] : List Value).toArray.size * n.toNat ≤ 1000 := by simp; omega
  refine wpAny_binaryOp_repeat_ref (T := "list") (U := "int") (by decide) ⟨_, ho, rfl⟩ (fun s' => typeIs_int s' n tk) noFill_list_mul F.fills_int_mul F.slot_int_rmul repeat_list F.slot_int_index.lookup
    (call_meets F.slot_int_rmul (typeIs_int s n tk) F.entry_int_rmul (F.args_int_rmul_2 _ _) (lm_int_rmul_list_any n tk a ([iw] : List Value).toArray k none #[])
      ⟨ho, rfl, ⟨_, ho, rfl⟩, call_meets F.slot_list_mul ⟨_, ho, rfl⟩ F.entry_list_mul (F.args_list_mul_2 _ _)
        (lm_list_mul_any a ([iw] : List Value).toArray k none #[] n tk (by simp [Builtin.List.listFitsIndex]; omega) (by omega) (by simp [Builtin.List.listTooLong, sizeLine]; omega))
        ⟨ho, ?_⟩⟩)
  rw [listMul_foldl_if, rep_flat]
  have fr : H s.heap.objs.size = none := I.hok.fresh (Nat.le_refl _)
  refine ⟨V.ref s.heap.objs.size, _, I.laid (o := .lst (List.replicate n.toNat w)) (a := s.heap.objs.size) (fun b o e => Heap.get?_push_of_some _ e) (Nat.le_refl _) (show _ ∧ _ from ⟨?_, _, 0, vals_rep rw' _, Heap.get?_push_size _ rfl⟩), rfl, q _ fr⟩
  rw [List.length_replicate, sizeLine_eq]
  omega
end

def uXisT (K : PySem.W.Frag) : List V → Hp → VK → Prop := fun xs H Q => ∃ (a C B : Addr) (d : Option Addr) (p : Addr) (cs : List Addr) (b fl : Bool), xs = [.ref a, .ref p] ∧ H a = some (XO a C d fl) ∧ (∀ dx, d = some dx → ∃ fs, H dx = some (XD dx fs)) ∧ XCls K C B ∧ H p = some (.tup (cs.map V.ref)) ∧ PySem.W.kitAny K (.ref C) (cs.map Value.ref) = some b ∧ Q (.bl b) H
theorem vals_refs : ∀ {cs : List Addr} {us : List Value}, Vals (cs.map V.ref) us → us = cs.map Value.ref
  | [], _, h => by cases h; rfl
  | c :: cs, _, h => by
    cases h with
    | cons a b =>
      rw [vals_refs b]
      cases (show _ = Value.ref c from a)
      rfl
theorem call_xisT {X : Cx} : CallR X (.builtin "isinstance") (uXisT X.K) := by
  intro pins s σ H vs us Q I r h
  obtain ⟨a, C, B, d, p, cs, b, fl, rfl, ea, ed, cl, ep, k, q⟩ := h
  obtain ⟨u, us', rfl, ru, r'⟩ : ∃ u us', us = u :: us' ∧ RelV (.ref a) u ∧ Vals [.ref p] us' := by cases r with | cons a b => exact ⟨_, _, rfl, a, b⟩
  obtain ⟨u2, rfl, ru2⟩ := r'.one
  cases (show u = Value.ref a from ru)
  cases (show u2 = Value.ref p from ru2)
  obtain ⟨_, its, rv, ht⟩ := I.hok p _ ep
  rw [vals_refs rv] at ht
  obtain ⟨⟨cls, dd, data, sl⟩, ho, hc, n, hd⟩ := id ht
  simp only at hc hd
  subst hc hd
  refine PySem.W.kia_tup (kitx_exc cl) I.kIn ?_ ho k (fun z => nomatch z) fun tk => ⟨.bl b, H, I.tok _, rfl, q⟩
  obtain ⟨vs, sl, qq⟩ := xinst I ea
  cases d with
  | none => exact ⟨_, none, qq, rfl, rfl, True.intro⟩
  | some dx =>
    obtain ⟨fs, z⟩ := ed dx rfl
    obtain ⟨_, ⟨o, _, _, e2, _⟩, _⟩ := xd_get (I.hok dx _ z)
    exact ⟨_, some o, qq, rfl, rfl, e2⟩

def DE1 (H0 : Hp) (te : TE) (σ : St) (n : Nat) (d : DV) : Prop := ∀ H (Q : VK), Same H0 H → (∀ x H', Same H H' → HD H' n x d → Q x H') → te σ H Q
def DEs1 (H0 : Hp) (t : TA) (σ : St) (n : Nat) (ds : List DV) : Prop := ∀ H (Q : List V → Hp → Prop), Same H0 H → (∀ xs H', Same H H' → xs.length = ds.length → (∀ (i : Nat) u e, xs[i]? = some u → ds[i]? = some e → HD H' n u e) → Q xs H') → t σ H Q
section
variable {H0 : Hp} {σ : St} {n : Nat}
theorem DE.to1 {te : TE} {d : DV} (h : DE te σ n d) : DE1 H0 te σ n d := fun H Q _ q => h H Q q
theorem d1_int {i : Int} : DE1 H0 (tC (.int i)) σ n (.int i) := de_int.to1
theorem d1_bl {i : Bool} : DE1 H0 (tC (.bl i)) σ n (.bl i) := de_bl.to1
theorem d1_str {i : Str} : DE1 H0 (tC (.str i)) σ n (.str i) := de_str.to1
theorem d1_non : DE1 H0 (tC .non) σ n .non := de_non.to1
theorem d1_dict : DE1 H0 tDNewK σ n .dict := de_dict.to1
theorem d1_var {i : Nat} {z : Int} (h : σ[i]? = some (some (.int z))) : DE1 H0 (tVar i) σ n (.int z) := (de_var h).to1
theorem d1_ref {i : Nat} {x : V} {d : DV} (h : σ[i]? = some (some x)) (hx : HD H0 n x d) : DE1 H0 (tVar i) σ n d := fun H Q s q => ⟨_, h, q _ _ (Same.refl H) (hx.same s)⟩
theorem d1_ad {ta tb : TE} {i j : Int} (h1 : DE1 H0 ta σ n (.int i)) (h2 : DE1 H0 tb σ n (.int j)) : DE1 H0 (tOp uAd ta tb) σ n (.int (i + j)) := fun H Q s q => by
  refine h1 H _ s fun x H1 s1 d1 => h2 H1 _ (s.trans s1) fun y H2 s2 d2 => ?_
  cases d1
  cases d2
  exact q _ _ (s1.trans s2) (.int _)
theorem d1_sub {ta tb : TE} {i j : Int} (h1 : DE1 H0 ta σ n (.int i)) (h2 : DE1 H0 tb σ n (.int j)) : DE1 H0 (tOp (uI0 fun i j => .int (i - j)) ta tb) σ n (.int (i - j)) := fun H Q s q => by
  refine h1 H _ s fun x H1 s1 d1 => h2 H1 _ (s.trans s1) fun y H2 s2 d2 => ?_
  cases d1
  cases d2
  exact q _ _ (s1.trans s2) (.int _)
theorem d1_pow {i j : Int} (hc : CPow i j) : DE1 H0 (tOp (uI CPow fun i j => .int (i ^ j.toNat)) (tC (.int i)) (tC (.int j))) σ n (.int (i ^ j.toNat)) := fun H Q s q => ⟨hc, q _ _ (Same.refl H) (.int _)⟩
theorem d1_neg {ta : TE} {i : Int} (h1 : DE1 H0 ta σ n (.int i)) : DE1 H0 (tUn (rU fun i => .int (-i)) ta) σ n (.int (-i)) := fun H Q s q => by
  refine h1 H _ s fun x H1 s1 d1 => ?_
  cases d1
  exact ⟨_, rfl, q _ _ s1 (.int _)⟩
theorem d1s_nil : DEs1 H0 tNil σ n [] := fun H Q _ q => q _ _ (Same.refl H) rfl fun i u e h => by simp at h
theorem d1s_cons {te : TE} {t : TA} {d : DV} {ds : List DV} (h1 : DE1 H0 te σ n d) (h2 : DEs1 H0 t σ n ds) : DEs1 H0 (tCons te t) σ n (d :: ds) := fun H Q s q => by
  refine h1 H _ s fun x H1 s1 d1 => h2 H1 _ (s.trans s1) fun xs H2 s2 l2 d2 => q (x :: xs) H2 (s1.trans s2) (by simp [l2]) fun i u e hu he => ?_
  cases i with
  | zero => cases hu; cases he; exact d1.same s2
  | succ i => exact d2 i u e hu he
theorem d1_tup {t : TA} {ds : List DV} (h : DEs1 H0 t σ n ds) (hl : ds.length ≤ 1000 := by (simp only [List.length_cons, List.length_nil]; decide)) : DE1 H0 (tTup t) σ (n + 1) (.tup ds) := fun H Q s q => by
  refine h H _ s fun xs H1 s1 l1 d1 => ⟨Nat.le_of_lt (small1000 (by omega)), fun p hp => q _ _ (s1.trans (Same.new _ hp)) (.tup upd_same l1 fun i u e hu he => (d1 i u e hu he).same (Same.new _ hp))⟩
theorem d1_lst {t : TA} {ds : List DV} (h : DEs1 H0 t σ n ds) (hl : ds.length ≤ 1000 := by (simp only [List.length_cons, List.length_nil]; decide)) : DE1 H0 (tLst t) σ (n + 1) (.lst ds) := fun H Q s q => by
  refine h H _ s fun xs H1 s1 l1 d1 => ⟨Nat.le_of_lt (small1000 (by omega)), fun p hp => q _ _ (s1.trans (Same.new _ hp)) (.lst upd_same l1 fun i u e hu he => (d1 i u e hu he).same (Same.new _ hp))⟩
theorem d1_doL {t : TA} {Q : VK} (n : Nat) {ds : List DV} (h : DEs1 H0 t σ n ds) (hl : ds.length ≤ 1000) (q : ∀ x H', Same H0 H' → HD H' (n + 1) x (.lst ds) → Q x H') : tLst t σ H0 Q := d1_lst h hl H0 Q (Same.refl _) q

theorem d1_moreL {t : TA} {H : Hp} {Q : VK} (n : Nat) {i : Nat} {x : V} {ds es : List DV} (s0 : Same H0 H) (h : DEs1 H0 t σ n es) (hl : es.length ≤ 1000) (hi : σ[i]? = some (some x)) (hx : HD H (n + 1) x (.lst ds)) (hd : ds.length ≤ 1000)
    (q : ∀ x H', Same H H' → HD H' (n + 1) x (.lst (ds ++ es)) → Q x H') : tOp uAd (tVar i) (tLst t) σ H Q := by
  refine ⟨_, hi, d1_lst h hl H _ s0 fun y H1 s1 hy => ?_⟩
  have hx1 := hx.same s1
  cases hx1 with
  | @lst _ a xs _ ea la da =>
    cases hy with
    | @lst _ b zs _ eb lb db =>
      refine .inl ⟨xs, zs, ea, eb, Nat.le_of_lt (Nat.lt_of_le_of_lt (m := 2000) (by omega) (by decide)), fun p hp => q _ _ (s1.trans (Same.new _ hp)) (.lst upd_same (by simp [la, lb]) fun j u e hu he => ?_)⟩
      by_cases hj : j < xs.length
      · rw [List.getElem?_append_left hj] at hu
        rw [List.getElem?_append_left (by omega)] at he
        exact (da j u e hu he).same (Same.new _ hp)
      · rw [List.getElem?_append_right (by omega)] at hu
        rw [List.getElem?_append_right (by omega), ← la] at he
        exact (db _ u e hu he).same (Same.new _ hp)
end
end L2

set_option Elab.async false
set_option linter.all false
set_option maxRecDepth 100000
set_option maxHeartbeats 400000
namespace L2
open PySem
theorem boot_VE : bootBuiltins "ValueError" = some (.type "ValueError") := by kernel_rfl

structure XTx (K : PySem.W.Frag) (mg : Str → Option Value) (B : Addr) (c : Nat → Addr) : Prop where
  m_BadMachine : mg "BadMachine" = some (.ref (c 0))
  m_BadDeed : mg "BadDeed" = some (.ref (c 1))
  m_NoText : mg "NoText" = some (.ref (c 2))
  m_BadNet : mg "BadNet" = some (.ref (c 3))
  m_NoLetter : mg "NoLetter" = some (.ref (c 4))
  m_NotFirst : mg "NotFirst" = some (.ref (c 5))
  m_NoCount : mg "NoCount" = some (.ref (c 6))
  m_NoEvent : mg "NoEvent" = some (.ref (c 7))
  m_Orphaned : mg "Orphaned" = some (.ref (c 8))
  m_TooMany : mg "TooMany" = some (.ref (c 9))
  m_NoLine : mg "NoLine" = some (.ref (c 10))
  m_NoMachine : mg "NoMachine" = some (.ref (c 11))
  m_NotRow : mg "NotRow" = some (.ref (c 12))
  m_Busy : mg "Busy" = some (.ref (c 13))
  m_NotReached : mg "NotReached" = some (.ref (c 14))
  m_NoMark : mg "NoMark" = some (.ref (c 15))
  m_NoRow : mg "NoRow" = some (.ref (c 16))
  m_NoName : mg "NoName" = some (.ref (c 17))
  m_NoDeed : mg "NoDeed" = some (.ref (c 18))
  m_NetError : mg "NetError" = some (.ref B)
  x_BadMachine : XMk0 K mg "BadMachine" (c 0) B
  x_NoText : XMk0 K mg "NoText" (c 2) B
  x_BadNet : XMk0 K mg "BadNet" (c 3) B
  x_NoCount : XMk0 K mg "NoCount" (c 6) B
  x_NoEvent : XMk0 K mg "NoEvent" (c 7) B
  x_TooMany : XMk0 K mg "TooMany" (c 9) B
  x_NoMachine : XMk0 K mg "NoMachine" (c 11) B
  x_Busy : XMk0 K mg "Busy" (c 13) B
  x_NoMark : XMk0 K mg "NoMark" (c 15) B
  x_NoRow : XMk0 K mg "NoRow" (c 16) B
  x_NoName : XMk0 K mg "NoName" (c 17) B
  x_NoDeed : XMk0 K mg "NoDeed" (c 18) B
  cl : ∀ i, i < 19 → XCls K (c i) B
  inj : ∀ i j, i < 19 → j < 19 → c i = c j → i = j
  nB : ∀ i, i < 19 → c i ≠ B
  isB : (PySem.W.clsIn K B).isSome = true
  tyB : PySem.W.typeIn K (.ref B) = some (.type "type")
  xb : XBase K B
  n_BadDeed_at : NoAttr K (c 1) "at"
  n_NoLetter_at : NoAttr K (c 4) "at"
  n_NotFirst_at : NoAttr K (c 5) "at"
  n_Orphaned_letter : NoAttr K (c 8) "letter"
  n_NoLine_falls : NoAttr K (c 10) "falls"
  n_NoLine_letter : NoAttr K (c 10) "letter"
  n_NotRow_way : NoAttr K (c 12) "way"
  n_NotReached_machine : NoAttr K (c 14) "machine"
section
variable {K : PySem.W.Frag} {mg : Str → Option Value} {B : Addr} {c : Nat → Addr}
theorem kit_xx (T : XTx K mg B c) {i j : Nat} (hi : i < 19) (hj : j < 19) : PySem.W.kitOne K (.ref (c i)) (.ref (c j)) = some (decide (i = j)) := by
  unfold PySem.W.kitOne
  by_cases e : i = j
  · subst e
    rw [if_pos (by simp)]
    simp
  · have ne : c i ≠ c j := fun z => e (T.inj i j hi hj z)
    have ne2 : c j ≠ B := T.nB j hj
    rw [if_neg (by simpa using ne)]
    obtain ⟨cd, e1, e2, _⟩ := (T.cl i hi).cd
    obtain ⟨nm, q, N, bs, sn, sub, ab, col, dd, k0, k1, k2, k3, k5, ho⟩ := (T.cl j hj).ob
    have h1 : PySem.W.typeIn K (.ref (c j)) = some (.type "type") := by show Option.map (·.cls) (K.lookup (c j)) = _; rw [ho]; rfl
    have h2 : (PySem.W.clsIn K (c j)).isSome = true := by unfold PySem.W.clsIn; rw [ho]; rfl
    have hm := (T.cl i hi).mro (.ref (c j))
    show (if ((PySem.W.clsIn K (c j)).isSome && PySem.W.typeIn K (.ref (c j)) == some (.type "type")) = true then PySem.W.subIn K (.ref (c i)) (.ref (c j)) else none) = _
    rw [h1, h2]
    simp only [beq_self_eq_true, Bool.and_self, if_true]
    show PySem.W.mroIn K (c i) (.ref (c j)) = _
    rw [hm]
    have z : ((Value.ref (c i) :: .ref B :: xbm).contains (.ref (c j))) = false := by
      simp [xbm, List.contains_cons, ne, ne2, Ne.symm ne]
    rw [z]
    simp [e]
theorem kit_xV (T : XTx K mg B c) {i : Nat} (hi : i < 19) : PySem.W.kitOne K (.ref (c i)) (.type "ValueError") = some true := by
  unfold PySem.W.kitOne
  rw [if_neg (by intro z; cases z)]
  show (if PySem.W.kitMeta "ValueError" = true then PySem.W.subIn K (.ref (c i)) (.type "ValueError") else none) = _
  rw [if_pos (by decide +kernel)]
  show PySem.W.mroIn K (c i) (.type "ValueError") = _
  exact ((T.cl i hi).mro _).trans rfl
theorem kit_any (T : XTx K mg B c) {i : Nat} (hi : i < 19) : ∀ js : List Nat, (∀ j ∈ js, j < 19) → PySem.W.kitAny K (.ref (c i)) ((js.map c).map Value.ref) = some (decide (i ∈ js))
  | [], _ => by simp [PySem.W.kitAny]
  | j :: js, h => by
    have ih := kit_any T hi js fun k hk => h k (List.mem_cons_of_mem _ hk)
    have e := kit_xx T hi (h j (by simp))
    show (match PySem.W.kitOne K (.ref (c i)) (.ref (c j)) with | some true => some true | some false => PySem.W.kitAny K (.ref (c i)) ((js.map c).map Value.ref) | none => none) = _
    rw [e]
    by_cases z : i = j
    · subst z; simp
    · rw [decide_eq_false z]
      show PySem.W.kitAny K (.ref (c i)) ((js.map c).map Value.ref) = _
      rw [ih]
      simp [z]
end
end L2

set_option Elab.async false
set_option linter.all false
set_option maxRecDepth 100000
set_option maxHeartbeats 4000000
namespace K14
open PySem L2 DD
def top (i : Nat) : Stmt := PySem.Challenge.pw_cutrestore_k14_machines_refused.main.body.getD i (.Pass ⟨0, 0, 0, 0⟩)

def formsT : List (Str × List Str) := [("set", ["number", "value"]), ("add", ["number", "value"]), ("times", ["number", "value"]), ("put", ["value"]), ("drop", []), ("send", ["way", "value"]), ("say", ["value"]), ("skip", ["value", "value", "many"])]
structure Tx (K : PySem.W.Frag) (mg : Str → Option Value) (C F : Addr) (FD : List (Str × V)) : Prop where
  b_isinstance : mg "isinstance" = none
  b_int : mg "int" = none
  b_bool : mg "bool" = none
  b_str : mg "str" = none
  b_tuple : mg "tuple" = none
  b_list : mg "list" = none
  b_len : mg "len" = none
  b_range : mg "range" = none
  b_min : mg "min" = none
  b_max : mg "max" = none
  b_all : mg "all" = none
  b_zip : mg "zip" = none
  b_enumerate : mg "enumerate" = none
  b_ValueError : mg "ValueError" = none
  g_MOST_DEEDS : ∃ t, mg "MOST_DEEDS" = some (.int 24 t)
  g_MOST_MODULUS : ∃ t, mg "MOST_MODULUS" = some (.int 1000000000000 t)
  g_MOST_NUMBERS : ∃ t, mg "MOST_NUMBERS" = some (.int 4 t)
  g_MOST_ROW : ∃ t, mg "MOST_ROW" = some (.int 12 t)
  cl_Machine : Cls K C
  n_m : NoAttr K C "own_modulus"
  n_s : NoAttr K C "own_state"
  n_d : NoAttr K C "own_deeds"
  m_FORMS : mg "FORMS" = some (.ref F)
  c_FORMS : CD K F FD
  forms : ∀ w : Str, (formsT.lookup w = none ∧ PyProof.Rows.KTD.datumAt w FD = none) ∨ ∃ ss p, formsT.lookup w = some ss ∧ PyProof.Rows.KTD.datumAt w FD = some (.ref p) ∧ ∀ H, SqT K H p (ss.map V.str)
end K14
namespace K14
open PySem L2 DD
section
variable {P : Program} {w : World} {K : PySem.W.Frag} {mg : Str → Option Value} {base : Heap} {C F B : Addr} {c : Nat → Addr} {FD : List (Str × V)}
local macro_rules | `(tactic| walk_at "rd") => `(tactic| simp only [tVar, tC, tOp, tUn, rU, tTest, tB, tNot, tNotV, tAnd, tOr, tAndV, tOrV, tIf, tIfS, tSeq, tNext, tRet, tRetN, tAsg, gName, gSub, tCall, tCB, tCons, tNil, tTup, tLst, tDrop, tChain, uAdd_ii, uAdd_ss, uAdd_rr, uAd_ii, uAd_ss, uAd_rr, uSl_r, uAll_1, uAny_1, uSum1_1, uIsI_t, uIsI_r, uApp_r, uExt_r, uClr_r, uIns_r, uPop0_r, tSl, tNoPart, tPart, tFld, sFld, tMeth, tMake, tBM, tBM0, tCGet, sDelL, tAug, ipI, tNever, uIs_rn, uIs_nn, id_eq, iZip, iEnum, iSeq, iRng1, iRng2, iRng3, tPairs, ↓tLc_box, ↓tFor_box, ↓tWhile_box, ↓tDisp_box, ↓LcGoal_box, uI_ii, uI0_ii, uEq_ii, uEq_ss, uEq_rr, uNe_ii, uNe_ss, uNe_rr, uIs_bb, uIn_r, uIx_ri, uIx_rs, uIx_si, uIsi_t, uLen_1, uII_2, uTuple_1, uList_1, uSetL_ri, tNoTest, blk, some_join, cx_K, cxOf_K, nox_K, bCx_K, L2.start, List.map_cons, List.map_nil, List.length_cons, List.length_nil, List.cons_append, List.nil_append, List.replicate, List.getElem?_cons_zero, List.getElem?_cons_succ, List.append_nil, Option.some.injEq, exists_eq_left', exists_eq_left, V.int.injEq, V.bl.injEq, V.str.injEq, V.ref.injEq, List.cons.injEq, and_true, true_and, List.set_cons_zero, List.set_cons_succ, Nat.reduceSub, Nat.reduceAdd])
local macro_rules | `(tactic| walk_at "rt") => `(tactic| simp only [tVar, tC, tOp, tUn, rU, tTest, tB, tNot, tNotV, tAnd, tOr, tAndV, tOrV, tIf, tIfS, tSeq, tNext, tRet, tRetN, tAsg, gName, gSub, tCall, tCB, tCons, tNil, tTup, tLst, tDrop, tChain, uAdd_ii, uAdd_ss, uAdd_rr, uAd_ii, uAd_ss, uAd_rr, uSl_r, uAll_1, uAny_1, uSum1_1, uIsI_t, uIsI_r, uApp_r, uExt_r, uClr_r, uIns_r, uPop0_r, tSl, tNoPart, tPart, tFld, sFld, tMeth, tMake, tBM, tBM0, tCGet, sDelL, tAug, ipI, tNever, uIs_rn, uIs_nn, id_eq, iZip, iEnum, iSeq, iRng1, iRng2, iRng3, tPairs, ↓tLc_box, ↓tFor_box, ↓tWhile_box, ↓tDisp_box, ↓LcGoal_box, uI_ii, uI0_ii, uEq_ii, uEq_ss, uEq_rr, uNe_ii, uNe_ss, uNe_rr, uIs_bb, uIn_r, uIx_ri, uIx_rs, uIx_si, uIsi_t, uLen_1, uII_2, uList_1, uSetL_ri, tNoTest, blk, some_join, cx_K, cxOf_K, nox_K, bCx_K, L2.start, List.map_cons, List.map_nil, List.length_cons, List.length_nil, List.cons_append, List.nil_append, List.replicate, List.getElem?_cons_zero, List.getElem?_cons_succ, List.append_nil, Option.some.injEq, exists_eq_left', exists_eq_left, V.int.injEq, V.bl.injEq, V.str.injEq, V.ref.injEq, List.cons.injEq, and_true, true_and, List.set_cons_zero, List.set_cons_succ, Nat.reduceSub, Nat.reduceAdd])
local macro_rules | `(tactic| walk_at "go") => `(tactic| repeat (first
  | walk_at "rd"
  | refine ix_t (by assumption) (by first | rfl | exact atI_nat (j := 0) rfl | exact atI_nat (j := 1) rfl | exact atI_nat (j := 2) rfl | exact atI_nat (j := 3) rfl) ?_
  | refine ix_l (by assumption) (by first | rfl | exact atI_nat (j := 0) rfl | exact atI_nat (j := 1) rfl | assumption) ?_
  | rw [if_pos (by decide +kernel)]
  | rw [if_neg (by decide +kernel)]))

abbrev s_is_whole : Stmt := top 23
def sp_is_whole : Sp := fun vs H Q _ => ∃ x t, vs = [x] ∧ Kd H x t ∧ Q (.bl (isI x)) H
theorem sc_is_whole : FnScope ["thing"] ["thing"] (defScope s_is_whole) := ⟨rfl, rfl, rfl, by decide +kernel, rfl, by decide +kernel, by decide +kernel⟩
theorem d_is_whole (D : Top1 K mg "is_whole" "is_whole" s_is_whole ["thing"]) (T : Tx K mg C F FD) (TX : XTx K mg B c) : Def P w K mg base "is_whole" 1 ["thing"] sp_is_whole := by
  have sc := sc_is_whole
  refine D.ok sc (fun vs H Q E h => ?_) (fun f cdv A outer s H vs Q E hr h => ?_)
  · obtain ⟨x, t, rfl, hx, q⟩ := h
    rfl
  · obtain ⟨x, t, rfl, hx, q⟩ := h
    have hu := hr.units
    refine ⟨_, (pss_one (ps_ret (pe_and (pe_cB call_isI rfl T.b_isinstance PyProof.Rows.boot_isinstance (pa_c (pv 0) (pa_c (pe_bltn (v := .ty "int") rfl T.b_int PyProof.Rows.boot_int rfl) pa_nil))) (pe_one (pe_not (pe_cB call_isI rfl T.b_isinstance PyProof.Rows.boot_isinstance (pa_c (pv 0) (pa_c (pe_bltn (v := .ty "bool") rfl T.b_bool PyProof.Rows.boot_bool rfl) pa_nil)))))))), ?_⟩
    walk_at "rd"
    obtain ⟨b, c, e1, e2, e3⟩ := kd_int (K := K) hx
    refine ⟨t, b, hx.ty, e1, ?_⟩
    rw [e3] at q
    cases b
    · rw [if_neg Bool.false_ne_true]
      exact q
    · rw [if_pos rfl]
      exact ⟨t, c, hx.ty, e2, q⟩

abbrev s_is_within : Stmt := top 24
def sp_is_within : Sp := fun vs H Q _ => ∃ x t lo hi, vs = [x, .int lo, .int hi] ∧ Kd H x t ∧ Q (.bl (inR lo hi x)) H
theorem sc_is_within : FnScope ["thing", "low", "beyond"] ["thing", "low", "beyond"] (defScope s_is_within) := ⟨rfl, rfl, rfl, by decide +kernel, rfl, by decide +kernel, by decide +kernel⟩
theorem d_is_within (D : Top1 K mg "is_within" "is_within" s_is_within ["thing", "low", "beyond"]) (T : Tx K mg C F FD) (TX : XTx K mg B c) (D_is_whole : Def P w K mg base "is_whole" 1 ["thing"] sp_is_whole) : Def P w K mg base "is_within" 2 ["thing", "low", "beyond"] sp_is_within := by
  have sc := sc_is_within
  refine D.ok sc (fun vs H Q E h => ?_) (fun f cdv A outer s H vs Q E hr h => ?_)
  · obtain ⟨x, t, lo, hi, rfl, hx, q⟩ := h
    rfl
  · obtain ⟨x, t, lo, hi, rfl, hx, q⟩ := h
    have hu := hr.units
    refine ⟨_, (pss_one (ps_ret (pe_and (pe_cf D_is_whole hr (pa_c (pv 0) pa_nil)) (pe_one (pe_chain op_uLe op_uLt (pv 1) (pv 0) (pv 2)))))), ?_⟩
    walk_at "rd"
    refine ⟨x, t, rfl, hx, ?_⟩
    cases hx <;> first
      | (rename_i i
         show ∃ c, V.bl true = .bl c ∧ _
         refine ⟨true, rfl, ?_⟩
         rw [if_pos rfl]
         walk_at "rd"
         by_cases h1 : lo ≤ i
         · rw [if_pos (by simpa using h1)]
           have e : inR lo hi (.int i) = decide (i < hi) := by simp [inR, h1]
           rw [e] at q
           exact q
         · rw [if_neg (by simpa using h1)]
           have e : inR lo hi (.int i) = false := by simp [inR, h1]
           rw [e] at q
           exact q)
      | (show ∃ c, V.bl false = .bl c ∧ _
         refine ⟨false, rfl, ?_⟩
         rw [if_neg Bool.false_ne_true]
         exact q)

abbrev s_law_at : Stmt := top 43
def sp_at (K : PySem.W.Frag) : Sp := fun vs H Q _ => ∃ (a : Addr) (ns : List Int) (k : Int), vs = [.ref a, .int k] ∧ SqL K H a (ns.map V.int) ∧ 0 ≤ k ∧ ∀ c, Q (.int c) H
theorem sc_law_at : FnScope ["_law_script", "_law_k"] ["_law_script", "_law_k"] (defScope s_law_at) := ⟨rfl, rfl, rfl, by decide +kernel, rfl, by decide +kernel, by decide +kernel⟩
theorem d_law_at (D : Top1 K mg "_law_at" "_law_at" s_law_at ["_law_script", "_law_k"]) (T : Tx K mg C F FD) (TX : XTx K mg B c) : Def P w K mg base "_law_at" 1 ["_law_script", "_law_k"] (sp_at K) := by
  have sc := sc_law_at
  refine D.ok sc (fun vs H Q E h => ?_) (fun f cdv A outer s H vs Q E hr h => ?_)
  · obtain ⟨a, ns, k, rfl, hS, h0, q⟩ := h
    rfl
  · obtain ⟨a, ns, k, rfl, hS, h0, q⟩ := h
    have hu := hr.units
    refine ⟨_, (pss_cons (ps_if (pt_cmpR op_uLt (pv 1) (pe_cB call_ulen rfl T.b_len PySem.boot_len (pa_c (pv 0) pa_nil)) (nomark _)) (pss_one (ps_ret (pe_ixu hu (pv 0) (pv 1)))) pss_nil)
      (pss_one (ps_ret pe_int))), ?_⟩
    walk_at "rd"
    refine ⟨_, .inl ⟨_, hS, rfl⟩, ?_⟩
    rw [List.length_map]
    by_cases h1 : k < (ns.length : Int)
    · rw [if_pos (by simpa using h1)]
      obtain ⟨n, rfl⟩ := Int.eq_ofNat_of_zero_le h0
      have hn : n < ns.length := by omega
      exact ⟨_, .int ns[n], .inl hS, atI_nat (by rw [List.getElem?_map, List.getElem?_eq_getElem hn]; rfl), q _⟩
    · rw [if_neg (by simpa using h1)]
      exact q _

abbrev s_law_mixed : Stmt := top 44
def sp_mixed : Sp := fun vs H Q _ => ∃ n : Int, vs = [.int n] ∧ ∀ c, Q (.int c) H
theorem sc_law_mixed : FnScope ["_law_seed", "_law_number", "_law_found", "_law_k"] ["_law_seed"] (defScope s_law_mixed) := ⟨rfl, rfl, rfl, by decide +kernel, rfl, by decide +kernel, by decide +kernel⟩
theorem d_law_mixed (D : Top1 K mg "_law_mixed" "_law_mixed" s_law_mixed ["_law_seed"]) (T : Tx K mg C F FD) (TX : XTx K mg B c) : Def P w K mg base "_law_mixed" 1 ["_law_seed"] sp_mixed := by
  have sc := sc_law_mixed
  refine D.ok sc (fun vs H Q E h => ?_) (fun f cdv A outer s H vs Q E hr h => ?_)
  · obtain ⟨n, rfl, q⟩ := h
    rfl
  · obtain ⟨n, rfl, q⟩ := h
    have hu := hr.units
    refine ⟨_, (pss_cons (ps_st (i := 1) sc.nd rfl (by first | exact Or.inl rfl | exact Or.inr rfl) (pe_op op_uAd (pe_op op_uMod (pv 0) pe_int) pe_int))
      (pss_cons (ps_st (i := 2) sc.nd rfl (by first | exact Or.inl rfl | exact Or.inr rfl) pe_int)
      (pss_cons (ps_for PassesOwn.never rfl (pi_range1 rfl T.b_range (pa_c pe_int pa_nil)) (pg_name (i := 3) sc.nd rfl (by first | exact Or.inl rfl | exact Or.inr rfl))
      (pss_cons (ps_st (i := 1) sc.nd rfl (by first | exact Or.inl rfl | exact Or.inr rfl) (pe_op op_uMod (pe_op op_uAd (pe_op op_uAd (pe_op op_uMul (pv 1) (pv 1)) (pe_op op_uMul pe_int (pv 1))) (pv 3)) pe_int))
      (pss_one (ps_st (i := 2) sc.nd rfl (by first | exact Or.inl rfl | exact Or.inr rfl) (pe_op op_uAd (pe_op op_uMul (pv 2) pe_int) (pv 1))))))
      (pss_one (ps_ret (pv 2)))))), ?_⟩
    walk_at "rd"
    refine ⟨by decide, 40, rfl, by decide, by decide, for_range (n := 40) (fun i σ H' => H' = H ∧ ∃ (x y : Int) (z : Option V), σ = [some (.int n), some (.int x), some (.int y), z] ∧ 0 ≤ x ∧ x < 2147483648) ?_ ?_ ?_⟩
    · exact ⟨rfl, _, _, _, rfl, by omega, by omega⟩
    · rintro i σ H' hi ⟨rfl, x, y, z, rfl, h1, h2⟩
      walk_at "rd"
      refine ⟨.inl ⟨by omega, by omega⟩, .inl ⟨by omega, by omega⟩, by decide, .inr ⟨by omega, by omega⟩, ?_⟩
      exact ⟨_, _, _, ⟨rfl, rfl, rfl⟩, by omega, by omega⟩
    · rintro σ H' ⟨rfl, x, y, z, rfl, _⟩
      walk_at "rd"
      exact q _

abbrev s_law_pot : Stmt := top 45
def sp_pot : Sp := fun vs H Q _ => ∃ n : Int, vs = [.int n] ∧ ∀ p a b, H p = none → Q (.ref p) (upd H p (.lst [.int a, .int b]))
theorem sc_law_pot : FnScope ["_law_cell"] ["_law_cell"] (defScope s_law_pot) := ⟨rfl, rfl, rfl, by decide +kernel, rfl, by decide +kernel, by decide +kernel⟩
theorem d_law_pot (D : Top1 K mg "_law_pot" "_law_pot" s_law_pot ["_law_cell"]) (T : Tx K mg C F FD) (TX : XTx K mg B c) (D_law_mixed : Def P w K mg base "_law_mixed" 1 ["_law_seed"] sp_mixed) : Def P w K mg base "_law_pot" 2 ["_law_cell"] sp_pot := by
  have sc := sc_law_pot
  refine D.ok sc (fun vs H Q E h => ?_) (fun f cdv A outer s H vs Q E hr h => ?_)
  · obtain ⟨n, rfl, q⟩ := h
    rfl
  · obtain ⟨n, rfl, q⟩ := h
    have hu := hr.units
    refine ⟨_, (pss_cons (ps_if (pt_cmpR (op_uEq hu) (pe_op op_uMod (pv 0) pe_int) pe_int (nomark _)) (pss_one (ps_ret (pe_lst (pa_c (pe_op op_uFdiv (pv 0) pe_int) (pa_c (pv 0) pa_nil))))) pss_nil)
      (pss_one (ps_ret (pe_lst (pa_c (pe_cf D_law_mixed hr (pa_c (pe_op op_uFdiv (pv 0) pe_int) pa_nil)) (pa_c (pv 0) pa_nil)))))), ?_⟩
    walk_at "rd"
    refine ⟨by decide, ?_⟩
    have h2 : CDiv2 n 2 := ⟨by decide, by decide⟩
    split
    · exact ⟨h2, by decide, fun p hp => q p _ _ hp⟩
    · exact ⟨h2, _, rfl, fun c => ⟨by decide, fun p hp => q p _ _ hp⟩⟩

abbrev s_law_digit : Stmt := top 46
def sp_digit : Sp := fun vs H Q _ => ∃ (p : Addr) (m : Int), vs = [.ref p, .int m] ∧ PotAt H p ∧ 0 < m ∧ m.natAbs.log2 < 9000 ∧ ∀ d H', 0 ≤ d → d < m → L2.Step p H H' → Q (.int d) H'
theorem sc_law_digit : FnScope ["_law_pot_here", "_law_many", "_law_digit_here"] ["_law_pot_here", "_law_many"] (defScope s_law_digit) := ⟨rfl, rfl, rfl, by decide +kernel, rfl, by decide +kernel, by decide +kernel⟩
theorem d_law_digit (D : Top1 K mg "_law_digit" "_law_digit" s_law_digit ["_law_pot_here", "_law_many"]) (T : Tx K mg C F FD) (TX : XTx K mg B c) (D_law_mixed : Def P w K mg base "_law_mixed" 1 ["_law_seed"] sp_mixed) : Def P w K mg base "_law_digit" 2 ["_law_pot_here", "_law_many"] sp_digit := by
  have sc := sc_law_digit
  refine D.ok sc (fun vs H Q E h => ?_) (fun f cdv A outer s H vs Q E hr h => ?_)
  · obtain ⟨p, m, rfl, hp, h0, hl, q⟩ := h
    rfl
  · obtain ⟨p, m, rfl, hp, h0, hl, q⟩ := h
    have hu := hr.units
    refine ⟨_, (pss_cons (ps_if (pt_cmpR (op_uEq hu) (pe_ixu hu (pv 0) pe_int) pe_int (nomark _)) (pss_cons (ps_asg (pe_cf D_law_mixed hr (pa_c (pe_ixu hu (pv 0) pe_int) pa_nil)) (pg_sub (pv 0) pe_int set_ulist))
      (pss_one (ps_asg (pe_op op_uAd (pe_ixu hu (pv 0) pe_int) pe_int) (pg_sub (pv 0) pe_int set_ulist)))) pss_nil)
      (pss_cons (ps_st (i := 2) sc.nd rfl (by first | exact Or.inl rfl | exact Or.inr rfl) (pe_op op_uMod (pe_ixu hu (pv 0) pe_int) (pv 1)))
      (pss_cons (ps_asg (pe_op op_uFdiv (pe_ixu hu (pv 0) pe_int) (pv 1)) (pg_sub (pv 0) pe_int set_ulist))
      (pss_one (ps_ret (pv 2)))))), ?_⟩
    walk_at "rd"
    obtain ⟨a, b, hab⟩ := hp
    refine ⟨_, _, .inl (SqL.of hab), rfl, ?_⟩
    walk_at "rd"
    have st0 : L2.Step p H H := Step.refl ⟨a, b, hab⟩
    split
    · refine ⟨_, _, .inl (SqL.of hab), rfl, b, rfl, fun c => ?_⟩
      refine ⟨_, 0, hab, rfl, ?_⟩
      refine ⟨_, _, .inl (SqL.of upd_same), rfl, ?_⟩
      refine ⟨_, 1, upd_same, rfl, ?_⟩
      refine ⟨_, _, .inl (SqL.of upd_same), rfl, h0, ?_⟩
      refine ⟨_, _, .inl (SqL.of upd_same), rfl, ⟨h0, hl⟩, ?_⟩
      refine ⟨_, 0, upd_same, rfl, ?_⟩
      exact q _ _ (Int.emod_nonneg _ (by omega)) (Int.emod_lt_of_pos _ h0) (((st0.set _ _).set _ _).set _ _)
    · refine ⟨_, _, .inl (SqL.of hab), rfl, h0, ?_⟩
      refine ⟨_, _, .inl (SqL.of hab), rfl, ⟨h0, hl⟩, ?_⟩
      refine ⟨_, 0, hab, rfl, ?_⟩
      exact q _ _ (Int.emod_nonneg _ (by omega)) (Int.emod_lt_of_pos _ h0) (st0.set _ _)
theorem cpow60 : CPow 10 60 := ⟨by decide, by decide, by decide +kernel⟩
theorem cpow12 : CPow 10 12 := ⟨by decide, by decide, by decide +kernel⟩
theorem cmul60 : CMul 2 (10 ^ Int.toNat 60) := .inl ⟨by decide +kernel, by decide +kernel⟩
theorem pos60 : (0 : Int) < 2 * 10 ^ Int.toNat 60 - 1 := by decide +kernel
theorem log60 : (2 * 10 ^ Int.toNat 60 - 1 : Int).natAbs.log2 < 9000 := by decide +kernel
theorem pos12 : (0 : Int) < 10 ^ Int.toNat 12 - 1 := by decide +kernel
theorem log12' : (10 ^ Int.toNat 12 - 1 : Int).natAbs.log2 < 9000 := by decide +kernel
theorem dig {p : Addr} {m : Int} {H : Hp} {Q : VK} {E : XK} (hp : PotAt H p) (h0 : 0 < m) (hl : m.natAbs.log2 < 9000) (q : ∀ d H', 0 ≤ d → d < m → L2.Step p H H' → Q (.int d) H') : sp_digit [.ref p, .int m] H Q E := ⟨p, m, rfl, hp, h0, hl, q⟩
end
end K14

set_option Elab.async false
set_option linter.all false
set_option maxRecDepth 100000
set_option maxHeartbeats 4000000
namespace K14
open PySem L2 DD
section
variable {P : Program} {w : World} {K : PySem.W.Frag} {mg : Str → Option Value} {base : Heap} {C F B : Addr} {c : Nat → Addr} {FD : List (Str × V)}
local macro_rules | `(tactic| walk_at "rd") => `(tactic| simp only [tVar, tC, tOp, tUn, rU, tTest, tB, tNot, tNotV, tAnd, tOr, tAndV, tOrV, tIf, tIfS, tSeq, tNext, tRet, tRetN, tAsg, gName, gSub, tCall, tCB, tCons, tNil, tTup, tLst, tDrop, tChain, uAdd_ii, uAdd_ss, uAdd_rr, uAd_ii, uAd_ss, uAd_rr, uSl_r, uAll_1, uAny_1, uSum1_1, uIsI_t, uIsI_r, uApp_r, uExt_r, uClr_r, uIns_r, uPop0_r, tSl, tNoPart, tPart, tFld, sFld, tMeth, tMake, tBM, tBM0, tCGet, sDelL, tAug, ipI, tNever, uIs_rn, uIs_nn, id_eq, iZip, iEnum, iSeq, iRng1, iRng2, iRng3, tPairs, ↓tLc_box, ↓tFor_box, ↓tWhile_box, ↓tDisp_box, ↓LcGoal_box, uI_ii, uI0_ii, uEq_ii, uEq_ss, uEq_rr, uNe_ii, uNe_ss, uNe_rr, uIs_bb, uIn_r, uIx_ri, uIx_rs, uIx_si, uIsi_t, uLen_1, uII_2, uTuple_1, uList_1, uSetL_ri, tNoTest, blk, some_join, cx_K, cxOf_K, nox_K, bCx_K, L2.start, List.map_cons, List.map_nil, List.length_cons, List.length_nil, List.cons_append, List.nil_append, List.replicate, List.getElem?_cons_zero, List.getElem?_cons_succ, List.append_nil, Option.some.injEq, exists_eq_left', exists_eq_left, V.int.injEq, V.bl.injEq, V.str.injEq, V.ref.injEq, List.cons.injEq, and_true, true_and, List.set_cons_zero, List.set_cons_succ, Nat.reduceSub, Nat.reduceAdd])
local macro_rules | `(tactic| walk_at "rt") => `(tactic| simp only [tVar, tC, tOp, tUn, rU, tTest, tB, tNot, tNotV, tAnd, tOr, tAndV, tOrV, tIf, tIfS, tSeq, tNext, tRet, tRetN, tAsg, gName, gSub, tCall, tCB, tCons, tNil, tTup, tLst, tDrop, tChain, uAdd_ii, uAdd_ss, uAdd_rr, uAd_ii, uAd_ss, uAd_rr, uSl_r, uAll_1, uAny_1, uSum1_1, uIsI_t, uIsI_r, uApp_r, uExt_r, uClr_r, uIns_r, uPop0_r, tSl, tNoPart, tPart, tFld, sFld, tMeth, tMake, tBM, tBM0, tCGet, sDelL, tAug, ipI, tNever, uIs_rn, uIs_nn, id_eq, iZip, iEnum, iSeq, iRng1, iRng2, iRng3, tPairs, ↓tLc_box, ↓tFor_box, ↓tWhile_box, ↓tDisp_box, ↓LcGoal_box, uI_ii, uI0_ii, uEq_ii, uEq_ss, uEq_rr, uNe_ii, uNe_ss, uNe_rr, uIs_bb, uIn_r, uIx_ri, uIx_rs, uIx_si, uIsi_t, uLen_1, uII_2, uList_1, uSetL_ri, tNoTest, blk, some_join, cx_K, cxOf_K, nox_K, bCx_K, L2.start, List.map_cons, List.map_nil, List.length_cons, List.length_nil, List.cons_append, List.nil_append, List.replicate, List.getElem?_cons_zero, List.getElem?_cons_succ, List.append_nil, Option.some.injEq, exists_eq_left', exists_eq_left, V.int.injEq, V.bl.injEq, V.str.injEq, V.ref.injEq, List.cons.injEq, and_true, true_and, List.set_cons_zero, List.set_cons_succ, Nat.reduceSub, Nat.reduceAdd])
local macro_rules | `(tactic| walk_at "go") => `(tactic| repeat (first
  | walk_at "rd"
  | refine ix_t (by assumption) (by first | rfl | exact atI_nat (j := 0) rfl | exact atI_nat (j := 1) rfl | exact atI_nat (j := 2) rfl | exact atI_nat (j := 3) rfl) ?_
  | refine ix_l (by assumption) (by first | rfl | exact atI_nat (j := 0) rfl | exact atI_nat (j := 1) rfl | assumption) ?_
  | rw [if_pos (by decide +kernel)]
  | rw [if_neg (by decide +kernel)]))

abbrev s_law_modulus : Stmt := top 49
def sp_modulus : Sp := fun vs H Q _ => ∃ p, vs = [.ref p] ∧ PotAt H p ∧ ∀ d H', 2 ≤ d → d ≤ 1000000000000 → L2.Step p H H' → Q (.int d) H'
theorem sc_law_modulus : FnScope ["_law_pot_here", "_law_kind"] ["_law_pot_here"] (defScope s_law_modulus) := ⟨rfl, rfl, rfl, by decide +kernel, rfl, by decide +kernel, by decide +kernel⟩
theorem d_law_modulus (D : Top1 K mg "_law_modulus" "_law_modulus" s_law_modulus ["_law_pot_here"]) (T : Tx K mg C F FD) (TX : XTx K mg B c) (D_law_digit : Def P w K mg base "_law_digit" 2 ["_law_pot_here", "_law_many"] sp_digit) : Def P w K mg base "_law_modulus" 3 ["_law_pot_here"] sp_modulus := by
  have sc := sc_law_modulus
  refine D.ok sc (fun vs H Q E h => ?_) (fun f cdv A outer s H vs Q E hr h => ?_)
  · obtain ⟨p, rfl, hp, q⟩ := h
    rfl
  · obtain ⟨p, rfl, hp, q⟩ := h
    have hu := hr.units
    refine ⟨_, (pss_cons (ps_st (i := 1) sc.nd rfl (by first | exact Or.inl rfl | exact Or.inr rfl) (pe_cf D_law_digit hr (pa_c (pv 0) (pa_c pe_int pa_nil))))
      (pss_cons (ps_if (pt_cmpR (op_uEq hu) (pv 1) pe_int (nomark _)) (pss_one (ps_ret (pe_op op_uAd pe_int (pe_cf D_law_digit hr (pa_c (pv 0) (pa_c (pe_op op_uSub (pe_op op_uPow pe_int pe_int) pe_int) pa_nil)))))) pss_nil)
      (pss_one (ps_ret (pe_ixu hu (pe_lst (pa_c pe_int (pa_c pe_int (pa_c pe_int (pa_c pe_int (pa_c pe_int pa_nil)))))) (pv 1)))))), ?_⟩
    walk_at "rd"
    refine ⟨p, 6, rfl, hp, by decide +kernel, by decide +kernel, fun d H1 h1 h2 st => ?_⟩
    walk_at "rd"
    split
    · refine ⟨cpow12, dig st.pot pos12 log12' fun d' H2 h3 h4 st2 => ?_⟩
      walk_at "rd"
      refine q _ _ (by omega) ?_ (st.trans st2)
      have : (10 : Int) ^ (12 : Int).toNat - 1 = 999999999999 := by decide +kernel
      omega
    · rename_i hne
      refine ⟨by decide, fun l hl => ?_⟩
      have hd : d = 0 ∨ d = 1 ∨ d = 2 ∨ d = 3 ∨ d = 4 := by
        have : d ≠ 5 := fun e => hne (by rw [e]; rfl)
        omega
      rcases hd with rfl | rfl | rfl | rfl | rfl
      · exact ⟨_, _, .inl (SqL.of upd_same), rfl, q _ _ (by decide) (by decide) (st.new hl)⟩
      · exact ⟨_, _, .inl (SqL.of upd_same), rfl, q _ _ (by decide) (by decide) (st.new hl)⟩
      · exact ⟨_, _, .inl (SqL.of upd_same), rfl, q _ _ (by decide) (by decide) (st.new hl)⟩
      · exact ⟨_, _, .inl (SqL.of upd_same), rfl, q _ _ (by decide) (by decide) (st.new hl)⟩
      · exact ⟨_, _, .inl (SqL.of upd_same), rfl, q _ _ (by decide) (by decide) (st.new hl)⟩

abbrev s_law_value : Stmt := top 47
def sp_value : Sp := fun vs H Q _ => ∃ p m, vs = [.ref p, .int m] ∧ PotAt H p ∧ 0 < m ∧ m ≤ 4 ∧ ∀ x v H', L2.Step p H H' → HT H' 1 x (Val.dv v) → v.ok m → Q x H'
theorem sc_law_value : FnScope ["_law_pot_here", "_law_many", "_law_kind"] ["_law_pot_here", "_law_many"] (defScope s_law_value) := ⟨rfl, rfl, rfl, by decide +kernel, rfl, by decide +kernel, by decide +kernel⟩
theorem d_law_value (D : Top1 K mg "_law_value" "_law_value" s_law_value ["_law_pot_here", "_law_many"]) (T : Tx K mg C F FD) (TX : XTx K mg B c) (D_law_digit : Def P w K mg base "_law_digit" 2 ["_law_pot_here", "_law_many"] sp_digit) : Def P w K mg base "_law_value" 3 ["_law_pot_here", "_law_many"] sp_value := by
  have sc := sc_law_value
  refine D.ok sc (fun vs H Q E h => ?_) (fun f cdv A outer s H vs Q E hr h => ?_)
  · obtain ⟨p, m, rfl, hp, h0, h4, q⟩ := h
    rfl
  · obtain ⟨p, m, rfl, hp, h0, h4, q⟩ := h
    have hu := hr.units
    refine ⟨_, (pss_cons (ps_st (i := 2) sc.nd rfl (by first | exact Or.inl rfl | exact Or.inr rfl) (pe_cf D_law_digit hr (pa_c (pv 0) (pa_c pe_int pa_nil))))
      (pss_cons (ps_if (pt_cmpR op_uLt (pv 2) pe_int (nomark _)) (pss_one (ps_ret (pe_tup (pa_c pe_str (pa_c (pe_ixu hu (pe_lst (pa_c (pe_op op_uSub (pe_cf D_law_digit hr (pa_c (pv 0) (pa_c pe_int pa_nil))) pe_int) (pa_c (pe_op op_uSub (pe_cf D_law_digit hr (pa_c (pv 0) (pa_c (pe_op op_uSub (pe_op op_uMul pe_int (pe_op op_uPow pe_int pe_int)) pe_int) pa_nil))) (pe_op op_uSub (pe_op op_uPow pe_int pe_int) pe_int)) pa_nil))) (pv 2)) pa_nil))))) pss_nil)
      (pss_cons (ps_if (pt_cmpR op_uLt (pv 2) pe_int (nomark _)) (pss_one (ps_ret (pe_tup (pa_c pe_str (pa_c (pe_cf D_law_digit hr (pa_c (pv 0) (pa_c (pv 1) pa_nil))) pa_nil))))) pss_nil)
      (pss_one (ps_ret (pe_ixu hu (pe_lst (pa_c (pe_tup (pa_c pe_str pa_nil)) (pa_c (pe_tup (pa_c pe_str pa_nil)) (pa_c (pe_tup (pa_c pe_str pa_nil)) (pa_c (pe_tup (pa_c pe_str pa_nil)) pa_nil))))) (pe_op op_uSub (pv 2) pe_int))))))), ?_⟩
    walk_at "rd"
    refine ⟨p, 8, rfl, hp, by decide +kernel, by decide +kernel, fun d H1 h1 h2 st => ?_⟩
    walk_at "rd"
    split
    · rename_i hd
      have hd : d < 2 := by simpa using hd
      refine ⟨p, 9, rfl, st.pot, by decide +kernel, by decide +kernel, fun d1 H2 h3 h4 st2 => ?_⟩
      walk_at "rd"
      refine ⟨cpow60, cmul60, dig st2.pot pos60 log60 fun d2 H3 h5 h6 st3 => ?_⟩
      walk_at "rd"
      refine ⟨cpow60, by decide, fun l hl => ?_⟩
      have hd' : d = 0 ∨ d = 1 := by omega
      rcases hd' with rfl | rfl
      · exact ⟨_, _, .inl (SqL.of upd_same), rfl, by decide, fun t ht => q _ (.is _) _ ((((st.trans st2).trans st3).new hl).new ht) (ht_mk2 upd_same (.str _) (.int _)) trivial⟩
      · exact ⟨_, _, .inl (SqL.of upd_same), rfl, by decide, fun t ht => q _ (.is _) _ ((((st.trans st2).trans st3).new hl).new ht) (ht_mk2 upd_same (.str _) (.int _)) trivial⟩
    · rename_i hd
      have hd : ¬ d < 2 := by simpa using hd
      split
      · refine ⟨p, m, rfl, st.pot, h0, ?_, fun d1 H2 h3 h4 st2 => ?_⟩
        · have : m = 1 ∨ m = 2 ∨ m = 3 ∨ m = 4 := by omega
          rcases this with rfl | rfl | rfl | rfl <;> decide +kernel
        walk_at "rd"
        exact ⟨by decide, fun t ht => q _ (.number _) _ ((st.trans st2).new ht) (ht_mk2 upd_same (.str _) (.int _)) ⟨h3, h4⟩⟩
      · rename_i hd2
        have hd2 : ¬ d < 4 := by simpa using hd2
        refine ⟨by decide, fun t1 ht1 => ⟨by decide, fun t2 ht2 => ⟨by decide, fun t3 ht3 => ⟨by decide, fun t4 ht4 => ⟨by decide, fun l hl => ?_⟩⟩⟩⟩⟩
        have st5 := ((((st.new ht1 (o := .tup [.str "letter"])).new ht2 (o := .tup [.str "letter"])).new ht3 (o := .tup [.str "way"])).new ht4 (o := .tup [.str "first"])).new hl (o := .lst [.ref t1, .ref t2, .ref t3, .ref t4])
        have hd' : d = 4 ∨ d = 5 ∨ d = 6 ∨ d = 7 := by omega
        have g1 := (Same.new (H := upd H1 t1 (.tup [.str "letter"])) (.tup [.str "letter"]) ht2) t1 _ upd_same
        have g2 := (Same.new (.tup [.str "way"]) ht3) _ _ g1
        have g3 := (Same.new (.tup [.str "first"]) ht4) _ _ g2
        have g4 := (Same.new (.lst [.ref t1, .ref t2, .ref t3, .ref t4]) hl) _ _ g3
        have k2 := (Same.new (H := upd (upd H1 t1 (.tup [.str "letter"])) t2 (.tup [.str "letter"])) (.tup [.str "way"]) ht3) t2 _ upd_same
        have k3 := (Same.new (.tup [.str "first"]) ht4) _ _ k2
        have k4 := (Same.new (.lst [.ref t1, .ref t2, .ref t3, .ref t4]) hl) _ _ k3
        have l3 := (Same.new (H := upd (upd (upd H1 t1 (.tup [.str "letter"])) t2 (.tup [.str "letter"])) t3 (.tup [.str "way"])) (.tup [.str "first"]) ht4) t3 _ upd_same
        have l4 := (Same.new (.lst [.ref t1, .ref t2, .ref t3, .ref t4]) hl) _ _ l3
        have m4 := (Same.new (H := upd (upd (upd (upd H1 t1 (.tup [.str "letter"])) t2 (.tup [.str "letter"])) t3 (.tup [.str "way"])) t4 (.tup [.str "first"])) (.lst [.ref t1, .ref t2, .ref t3, .ref t4]) hl) t4 _ upd_same
        rcases hd' with rfl | rfl | rfl | rfl
        · exact ⟨_, _, .inl (SqL.of upd_same), rfl, q _ .letter _ st5 (ht_mk1 g4 (.str _)) trivial⟩
        · exact ⟨_, _, .inl (SqL.of upd_same), rfl, q _ .letter _ st5 (ht_mk1 k4 (.str _)) trivial⟩
        · exact ⟨_, _, .inl (SqL.of upd_same), rfl, q _ .way _ st5 (ht_mk1 l4 (.str _)) trivial⟩
        · exact ⟨_, _, .inl (SqL.of upd_same), rfl, q _ .first _ st5 (ht_mk1 m4 (.str _)) trivial⟩
end
end K14

set_option Elab.async false
set_option linter.all false
set_option maxRecDepth 100000
set_option maxHeartbeats 4000000
namespace K14
open PySem L2 DD
section
variable {P : Program} {w : World} {K : PySem.W.Frag} {mg : Str → Option Value} {base : Heap} {C F B : Addr} {c : Nat → Addr} {FD : List (Str × V)}
local macro_rules | `(tactic| walk_at "rd") => `(tactic| simp only [tVar, tC, tOp, tUn, rU, tTest, tB, tNot, tNotV, tAnd, tOr, tAndV, tOrV, tIf, tIfS, tSeq, tNext, tRet, tRetN, tAsg, gName, gSub, tCall, tCB, tCons, tNil, tTup, tLst, tDrop, tChain, uAdd_ii, uAdd_ss, uAdd_rr, uAd_ii, uAd_ss, uAd_rr, uSl_r, uAll_1, uAny_1, uSum1_1, uIsI_t, uIsI_r, uApp_r, uExt_r, uClr_r, uIns_r, uPop0_r, tSl, tNoPart, tPart, tFld, sFld, tMeth, tMake, tBM, tBM0, tCGet, sDelL, tAug, ipI, tNever, uIs_rn, uIs_nn, id_eq, iZip, iEnum, iSeq, iRng1, iRng2, iRng3, tPairs, ↓tLc_box, ↓tFor_box, ↓tWhile_box, ↓tDisp_box, ↓LcGoal_box, uI_ii, uI0_ii, uEq_ii, uEq_ss, uEq_rr, uNe_ii, uNe_ss, uNe_rr, uIs_bb, uIn_r, uIx_ri, uIx_rs, uIx_si, uIsi_t, uLen_1, uII_2, uTuple_1, uList_1, uSetL_ri, tNoTest, blk, some_join, cx_K, cxOf_K, nox_K, bCx_K, L2.start, List.map_cons, List.map_nil, List.length_cons, List.length_nil, List.cons_append, List.nil_append, List.replicate, List.getElem?_cons_zero, List.getElem?_cons_succ, List.append_nil, Option.some.injEq, exists_eq_left', exists_eq_left, V.int.injEq, V.bl.injEq, V.str.injEq, V.ref.injEq, List.cons.injEq, and_true, true_and, List.set_cons_zero, List.set_cons_succ, Nat.reduceSub, Nat.reduceAdd])
local macro_rules | `(tactic| walk_at "rt") => `(tactic| simp only [tVar, tC, tOp, tUn, rU, tTest, tB, tNot, tNotV, tAnd, tOr, tAndV, tOrV, tIf, tIfS, tSeq, tNext, tRet, tRetN, tAsg, gName, gSub, tCall, tCB, tCons, tNil, tTup, tLst, tDrop, tChain, uAdd_ii, uAdd_ss, uAdd_rr, uAd_ii, uAd_ss, uAd_rr, uSl_r, uAll_1, uAny_1, uSum1_1, uIsI_t, uIsI_r, uApp_r, uExt_r, uClr_r, uIns_r, uPop0_r, tSl, tNoPart, tPart, tFld, sFld, tMeth, tMake, tBM, tBM0, tCGet, sDelL, tAug, ipI, tNever, uIs_rn, uIs_nn, id_eq, iZip, iEnum, iSeq, iRng1, iRng2, iRng3, tPairs, ↓tLc_box, ↓tFor_box, ↓tWhile_box, ↓tDisp_box, ↓LcGoal_box, uI_ii, uI0_ii, uEq_ii, uEq_ss, uEq_rr, uNe_ii, uNe_ss, uNe_rr, uIs_bb, uIn_r, uIx_ri, uIx_rs, uIx_si, uIsi_t, uLen_1, uII_2, uList_1, uSetL_ri, tNoTest, blk, some_join, cx_K, cxOf_K, nox_K, bCx_K, L2.start, List.map_cons, List.map_nil, List.length_cons, List.length_nil, List.cons_append, List.nil_append, List.replicate, List.getElem?_cons_zero, List.getElem?_cons_succ, List.append_nil, Option.some.injEq, exists_eq_left', exists_eq_left, V.int.injEq, V.bl.injEq, V.str.injEq, V.ref.injEq, List.cons.injEq, and_true, true_and, List.set_cons_zero, List.set_cons_succ, Nat.reduceSub, Nat.reduceAdd])
local macro_rules | `(tactic| walk_at "go") => `(tactic| repeat (first
  | walk_at "rd"
  | refine ix_t (by assumption) (by first | rfl | exact atI_nat (j := 0) rfl | exact atI_nat (j := 1) rfl | exact atI_nat (j := 2) rfl | exact atI_nat (j := 3) rfl) ?_
  | refine ix_l (by assumption) (by first | rfl | exact atI_nat (j := 0) rfl | exact atI_nat (j := 1) rfl | assumption) ?_
  | rw [if_pos (by decide +kernel)]
  | rw [if_neg (by decide +kernel)]))

abbrev s_is_value : Stmt := top 27
def sp_isv : Sp := fun vs H Q _ => ∃ x m n d, vs = [x, .int m] ∧ HD H n x d ∧ ∀ H', Same H H' → Q (.bl (valD m d)) H'
theorem not_tup {K : PySem.W.Frag} {H : Hp} {n : Nat} {x : V} {d : DV} (h : HD H n x d) (hd : ∀ ds, d ≠ .tup ds) : ∃ t, TyOf K H x t ∧ PySem.W.kitOne K t (.type "tuple") = some false := by
  cases h with
  | non => exact ⟨_, .non, rfl⟩
  | bl b => exact ⟨_, .bl b, rfl⟩
  | int i => exact ⟨_, .int i, rfl⟩
  | str x => exact ⟨_, .str x, rfl⟩
  | tup e => exact absurd rfl (hd _)
  | lst e => exact ⟨_, .lst e, rfl⟩
  | dict e => exact ⟨_, .dK e, rfl⟩
theorem not_str {K : PySem.W.Frag} {H : Hp} {n : Nat} {x : V} {d : DV} (h : HD H n x d) (hd : ∀ s, d ≠ .str s) : ∃ t, TyOf K H x t ∧ PySem.W.kitOne K t (.type "str") = some false := by
  cases h with
  | non => exact ⟨_, .non, rfl⟩
  | bl b => exact ⟨_, .bl b, rfl⟩
  | int i => exact ⟨_, .int i, rfl⟩
  | str x => exact absurd rfl (hd _)
  | tup e => exact ⟨_, .tup e, rfl⟩
  | lst e => exact ⟨_, .lst e, rfl⟩
  | dict e => exact ⟨_, .dK e, rfl⟩
theorem valD_no {m : Int} {d : DV} (hd : ∀ ds, d ≠ .tup ds) : valD m d = false := by
  cases d with
  | tup ds => exact absurd rfl (hd ds)
  | _ => rfl
theorem valD_no1 {m : Int} {d : DV} {r : List DV} (hd : ∀ s, d ≠ .str s) : valD m (.tup (d :: r)) = false := by
  cases d with
  | str s => exact absurd rfl (hd s)
  | _ => rfl
theorem sc_is_value : FnScope ["thing", "many", "word"] ["thing", "many"] (defScope s_is_value) := ⟨rfl, rfl, rfl, by decide +kernel, rfl, by decide +kernel, by decide +kernel⟩
theorem d_is_value (D : Top1 K mg "is_value" "is_value" s_is_value ["thing", "many"]) (T : Tx K mg C F FD) (TX : XTx K mg B c) (D_is_whole : Def P w K mg base "is_whole" 1 ["thing"] sp_is_whole) (D_is_within : Def P w K mg base "is_within" 2 ["thing", "low", "beyond"] sp_is_within) : Def P w K mg base "is_value" 3 ["thing", "many"] sp_isv := by
  have sc := sc_is_value
  refine D.ok sc (fun vs H Q E h => ?_) (fun f cdv A outer s H vs Q E hr h => ?_)
  · obtain ⟨x, m, n, d, rfl, hx, q⟩ := h
    rfl
  · obtain ⟨x, m, n, d, rfl, hx, q⟩ := h
    have hu := hr.units
    refine ⟨_, (pss_cons (ps_if (PW.pt (pw_or (pt_not (pt_val (pe_cB call_isI rfl T.b_isinstance PyProof.Rows.boot_isinstance (pa_c (pv 0) (pa_c (pe_bltn (v := .ty "tuple") rfl T.b_tuple PyProof.Rows.boot_tuple rfl) pa_nil))))) (pw_or (pt_cmpR (op_uEq hu) (pe_cB call_ulen rfl T.b_len PySem.boot_len (pa_c (pv 0) pa_nil)) pe_int (nomark _)) (pw_or1 (pt_not (pt_val (pe_cB call_isI rfl T.b_isinstance PyProof.Rows.boot_isinstance (pa_c (pe_ixu hu (pv 0) pe_int) (pa_c (pe_bltn (v := .ty "str") rfl T.b_str PyProof.Rows.boot_str rfl) pa_nil))))))))) (pss_one (ps_ret pe_bl)) pss_nil)
      (pss_cons (ps_st (i := 2) sc.nd rfl (by first | exact Or.inl rfl | exact Or.inr rfl) (pe_ixu hu (pv 0) pe_int))
      (pss_cons (ps_if (pt_cmpR op_uIn (pv 2) (pe_tup (pa_c pe_str (pa_c pe_str (pa_c pe_str pa_nil)))) (by with_unfolding_all rfl)) (pss_one (ps_ret (pe_cmpR (op_uEq hu) (pe_cB call_ulen rfl T.b_len PySem.boot_len (pa_c (pv 0) pa_nil)) pe_int (nomark _)))) pss_nil)
      (pss_cons (ps_if (pt_cmpR (op_uNe hu) (pe_cB call_ulen rfl T.b_len PySem.boot_len (pa_c (pv 0) pa_nil)) pe_int (nomark _)) (pss_one (ps_ret pe_bl)) pss_nil)
      (pss_cons (ps_if (pt_cmpR (op_uEq hu) (pv 2) pe_str (nomark _)) (pss_one (ps_ret (pe_cf D_is_whole hr (pa_c (pe_ixu hu (pv 0) pe_int) pa_nil)))) pss_nil)
      (pss_one (ps_ret (pe_and (pe_cmpR (op_uEq hu) (pv 2) pe_str (nomark _)) (pe_one (pe_cf D_is_within hr (pa_c (pe_ixu hu (pv 0) pe_int) (pa_c pe_int (pa_c (pv 1) pa_nil))))))))))))), ?_⟩
    walk_at "rd"
    by_cases hd : ∀ ds, d ≠ .tup ds
    · obtain ⟨t, h1, h2⟩ := not_tup (K := K) hx hd
      refine ⟨t, false, h1, h2, ?_⟩
      rw [valD_no hd] at q
      exact q H (Same.refl H)
    · have : ∃ ds, d = .tup ds := Classical.byContradiction fun z => hd fun ds e => z ⟨ds, e⟩
      obtain ⟨ds, rfl⟩ := this
      cases hx with
      | @tup n a xs _ ha hl hi =>
        refine ⟨.type "tuple", true, .tup ha, rfl, ?_⟩
        simp only [Bool.not_true, Bool.false_eq_true, if_false]
        refine ⟨_, .inr ⟨_, SqT.of ha, rfl⟩, ?_⟩
        try walk_at "rd"
        match ds, xs, hl, ha, hi, q with
        | [], [], _, ha, hi, q => exact q H (Same.refl H)
        | d0 :: dr, x0 :: xr, hl, ha, hi, q =>
          rw [if_neg (by simp; omega)]
          refine ⟨_, _, .inr (SqT.of ha), atI_nat (j := 0) rfl, ?_⟩
          have h0 := hi 0 x0 d0 rfl rfl
          by_cases hs : ∀ s, d0 ≠ .str s
          · obtain ⟨t, h1, h2⟩ := not_str (K := K) h0 hs
            refine ⟨t, false, h1, h2, ?_⟩
            rw [valD_no1 hs] at q
            exact q H (Same.refl H)
          · have : ∃ s, d0 = .str s := Classical.byContradiction fun z => hs fun ds e => z ⟨ds, e⟩
            obtain ⟨sw, rfl⟩ := this
            cases h0
            refine ⟨.type "str", true, .str _, rfl, ?_⟩
            simp only [Bool.not_true, Bool.false_eq_true, if_false]
            refine ⟨_, _, .inr (SqT.of ha), atI_nat (j := 0) rfl, ?_⟩
            try walk_at "rd"
            refine ⟨by decide, fun p hp => ?_⟩
            have s1 : Same H (upd H p (.tup [.str "letter", .str "way", .str "first"])) := Same.new _ hp
            have ha1 := s1 _ _ ha
            refine ⟨_, .inr (SqT.of upd_same), rfl, rfl, ?_⟩
            try walk_at "rd"
            have hl' : xr.length = dr.length := by simpa using hl
            by_cases hw : inV (.str sw) words3 = true
            · have hv : valD m (.tup (.str sw :: dr)) = decide (dr.length = 0) := by
                show (if inV (.str sw) words3 = true then decide (dr.length = 0) else _) = _
                rw [if_pos hw]
              rw [if_pos (show inV (.str sw) [.str "letter", .str "way", .str "first"] = true from hw)]
              refine ⟨_, .inr ⟨_, SqT.of ha1, rfl⟩, ?_⟩
              try walk_at "rd"
              have e : decide (((xr.length + 1 : Nat) : Int) = 1) = decide (dr.length = 0) := by
                rw [hl']
                by_cases z : dr.length = 0
                · rw [decide_eq_true z, decide_eq_true (by omega)]
                · rw [decide_eq_false z, decide_eq_false (by omega)]
              rw [hv] at q
              have qq := q _ s1
              rw [← e] at qq
              exact qq
            · have hv : valD m (.tup (.str sw :: dr)) = valR sw m dr := by
                show (if inV (.str sw) words3 = true then decide (dr.length = 0) else _) = _
                rw [if_neg hw]
              rw [if_neg (show ¬ inV (.str sw) [.str "letter", .str "way", .str "first"] = true from hw)]
              refine ⟨_, .inr ⟨_, SqT.of ha1, rfl⟩, ?_⟩
              try walk_at "rd"
              rw [hv] at q
              match dr, xr, hl', ha1, hi, q with
              | [], [], _, ha1, hi, q =>
                rw [if_pos (by simp)]
                exact q _ s1
              | _ :: _ :: _, _ :: _ :: _, _, ha1, hi, q =>
                rw [if_pos (by simp; omega)]
                exact q _ s1
              | [z], [y], _, ha1, hi, q =>
                rw [if_neg (by simp)]
                have h1 := (hi 1 y z rfl rfl).same s1
                obtain ⟨t, kt⟩ := hd_kd h1
                by_cases e1 : sw = "is"
                · rw [if_pos (by simpa using e1)]
                  refine ⟨_, _, .inr (SqT.of ha1), rfl, y, t, rfl, kt, ?_⟩
                  have qq := q _ s1
                  simp only [valR, if_pos e1] at qq
                  rw [hd_isI h1]
                  exact qq
                · rw [if_neg (by simpa using e1)]
                  have qq := q _ s1
                  simp only [valR, if_neg e1] at qq
                  by_cases e2 : sw = "number"
                  · rw [if_pos (by simpa using e2)]
                    refine ⟨_, _, .inr (SqT.of ha1), rfl, y, t, 0, m, rfl, kt, ?_⟩
                    rw [decide_eq_true e2, Bool.true_and] at qq
                    rw [hd_inR h1]
                    exact qq
                  · rw [if_neg (by simpa using e2)]
                    rw [decide_eq_false e2, Bool.false_and] at qq
                    exact qq
end
end K14

set_option Elab.async false
set_option linter.all false
set_option maxRecDepth 100000
set_option maxHeartbeats 4000000
namespace K14
open PySem L2 DD
section
variable {P : Program} {w : World} {K : PySem.W.Frag} {mg : Str → Option Value} {base : Heap} {C F B : Addr} {c : Nat → Addr} {FD : List (Str × V)}
local macro_rules | `(tactic| walk_at "rd") => `(tactic| simp only [tVar, tC, tOp, tUn, rU, tTest, tB, tNot, tNotV, tAnd, tOr, tAndV, tOrV, tIf, tIfS, tSeq, tNext, tRet, tRetN, tAsg, gName, gSub, tCall, tCB, tCons, tNil, tTup, tLst, tDrop, tChain, uAdd_ii, uAdd_ss, uAdd_rr, uAd_ii, uAd_ss, uAd_rr, uSl_r, uAll_1, uAny_1, uSum1_1, uIsI_t, uIsI_r, uApp_r, uExt_r, uClr_r, uIns_r, uPop0_r, tSl, tNoPart, tPart, tFld, sFld, tMeth, tMake, tBM, tBM0, tCGet, sDelL, tAug, ipI, tNever, uIs_rn, uIs_nn, id_eq, iZip, iEnum, iSeq, iRng1, iRng2, iRng3, tPairs, ↓tLc_box, ↓tFor_box, ↓tWhile_box, ↓tDisp_box, ↓LcGoal_box, uI_ii, uI0_ii, uEq_ii, uEq_ss, uEq_rr, uNe_ii, uNe_ss, uNe_rr, uIs_bb, uIn_r, uIx_ri, uIx_rs, uIx_si, uIsi_t, uLen_1, uII_2, uTuple_1, uList_1, uSetL_ri, tNoTest, blk, some_join, cx_K, cxOf_K, nox_K, bCx_K, L2.start, List.map_cons, List.map_nil, List.length_cons, List.length_nil, List.cons_append, List.nil_append, List.replicate, List.getElem?_cons_zero, List.getElem?_cons_succ, List.append_nil, Option.some.injEq, exists_eq_left', exists_eq_left, V.int.injEq, V.bl.injEq, V.str.injEq, V.ref.injEq, List.cons.injEq, and_true, true_and, List.set_cons_zero, List.set_cons_succ, Nat.reduceSub, Nat.reduceAdd])
local macro_rules | `(tactic| walk_at "rt") => `(tactic| simp only [tVar, tC, tOp, tUn, rU, tTest, tB, tNot, tNotV, tAnd, tOr, tAndV, tOrV, tIf, tIfS, tSeq, tNext, tRet, tRetN, tAsg, gName, gSub, tCall, tCB, tCons, tNil, tTup, tLst, tDrop, tChain, uAdd_ii, uAdd_ss, uAdd_rr, uAd_ii, uAd_ss, uAd_rr, uSl_r, uAll_1, uAny_1, uSum1_1, uIsI_t, uIsI_r, uApp_r, uExt_r, uClr_r, uIns_r, uPop0_r, tSl, tNoPart, tPart, tFld, sFld, tMeth, tMake, tBM, tBM0, tCGet, sDelL, tAug, ipI, tNever, uIs_rn, uIs_nn, id_eq, iZip, iEnum, iSeq, iRng1, iRng2, iRng3, tPairs, ↓tLc_box, ↓tFor_box, ↓tWhile_box, ↓tDisp_box, ↓LcGoal_box, uI_ii, uI0_ii, uEq_ii, uEq_ss, uEq_rr, uNe_ii, uNe_ss, uNe_rr, uIs_bb, uIn_r, uIx_ri, uIx_rs, uIx_si, uIsi_t, uLen_1, uII_2, uList_1, uSetL_ri, tNoTest, blk, some_join, cx_K, cxOf_K, nox_K, bCx_K, L2.start, List.map_cons, List.map_nil, List.length_cons, List.length_nil, List.cons_append, List.nil_append, List.replicate, List.getElem?_cons_zero, List.getElem?_cons_succ, List.append_nil, Option.some.injEq, exists_eq_left', exists_eq_left, V.int.injEq, V.bl.injEq, V.str.injEq, V.ref.injEq, List.cons.injEq, and_true, true_and, List.set_cons_zero, List.set_cons_succ, Nat.reduceSub, Nat.reduceAdd])
local macro_rules | `(tactic| walk_at "go") => `(tactic| repeat (first
  | walk_at "rd"
  | refine ix_t (by assumption) (by first | rfl | exact atI_nat (j := 0) rfl | exact atI_nat (j := 1) rfl | exact atI_nat (j := 2) rfl | exact atI_nat (j := 3) rfl) ?_
  | refine ix_l (by assumption) (by first | rfl | exact atI_nat (j := 0) rfl | exact atI_nat (j := 1) rfl | assumption) ?_
  | rw [if_pos (by decide +kernel)]
  | rw [if_neg (by decide +kernel)]))

abbrev s_is_list : Stmt := top 25
def listD (lo hi : Int) : DV → Bool
  | .lst ds => decide (lo ≤ (ds.length : Int)) && decide ((ds.length : Int) ≤ hi)
  | .tup ds => decide (lo ≤ (ds.length : Int)) && decide ((ds.length : Int) ≤ hi)
  | _ => false
def sp_is_list : Sp := fun vs H Q _ => ∃ (x : V) (n : Nat) (d : DV) (lo hi : Int), vs = [x, .int lo, .int hi] ∧ HD H n x d ∧ ∀ H', Same H H' → Q (.bl (listD lo hi d)) H'
theorem sc_is_list : FnScope ["things", "least", "most"] ["things", "least", "most"] (defScope s_is_list) := ⟨rfl, rfl, rfl, by decide +kernel, rfl, by decide +kernel, by decide +kernel⟩
theorem d_is_list (D : Top1 K mg "is_list" "is_list" s_is_list ["things", "least", "most"]) (T : Tx K mg C F FD) (TX : XTx K mg B c) : Def P w K mg base "is_list" 1 ["things", "least", "most"] sp_is_list := by
  have sc := sc_is_list
  refine D.ok sc (fun vs H Q E h => ?_) (fun f cdv A outer s H vs Q E hr h => ?_)
  · obtain ⟨x, n, d, lo, hi, rfl, hx, q⟩ := h
    rfl
  · obtain ⟨x, n, d, lo, hi, rfl, hx, q⟩ := h
    have hu := hr.units
    refine ⟨_, (pss_one (ps_ret (pe_and (pe_cB call_isI rfl T.b_isinstance PyProof.Rows.boot_isinstance (pa_c (pv 0) (pa_c (pe_tup (pa_c (pe_bltn (v := .ty "list") rfl T.b_list PyProof.Rows.boot_list rfl) (pa_c (pe_bltn (v := .ty "tuple") rfl T.b_tuple PyProof.Rows.boot_tuple rfl) pa_nil))) pa_nil))) (pe_one (pe_chain op_uLe op_uLe (pv 1) (pe_cB call_ulen rfl T.b_len PySem.boot_len (pa_c (pv 0) pa_nil)) (pv 2)))))), ?_⟩
    try walk_at "rd"
    refine ⟨two_le, fun p hp => ?_⟩
    have s1 : Same H (upd H p (.tup [.ty "list", .ty "tuple"])) := Same.new _ hp
    have key : ∃ t b, TyOf K (upd H p (.tup [.ty "list", .ty "tuple"])) x t ∧ PySem.W.kitAny K t [.type "list", .type "tuple"] = some b ∧ ((b = false ∧ listD lo hi d = false) ∨ ∃ k : Nat, b = true ∧ LenV K x (upd H p (.tup [.ty "list", .ty "tuple"])) k ∧ listD lo hi d = (decide (lo ≤ (k : Int)) && decide ((k : Int) ≤ hi))) := by
      cases hx.same s1 with
      | lst e l _ => exact ⟨_, _, .lst e, rfl, .inr ⟨_, rfl, .inl ⟨_, SqL.of e, rfl⟩, by rw [listD, l]⟩⟩
      | tup e l _ => exact ⟨_, _, .tup e, rfl, .inr ⟨_, rfl, .inr ⟨_, SqT.of e, rfl⟩, by rw [listD, l]⟩⟩
      | non => exact ⟨_, _, .non, rfl, .inl ⟨rfl, rfl⟩⟩
      | bl b => exact ⟨_, _, .bl b, rfl, .inl ⟨rfl, rfl⟩⟩
      | int i => exact ⟨_, _, .int i, rfl, .inl ⟨rfl, rfl⟩⟩
      | str z => exact ⟨_, _, .str z, rfl, .inl ⟨rfl, rfl⟩⟩
      | dict e => exact ⟨_, _, .dK e, rfl, .inl ⟨rfl, rfl⟩⟩
    obtain ⟨t, b, h1, h2, h3⟩ := key
    refine ⟨t, b, _, _, h1, upd_same, rfl, h2, ?_⟩
    have qq := q _ s1
    rcases h3 with ⟨rfl, e⟩ | ⟨k, rfl, hl, e⟩
    · rw [e] at qq
      try walk_at "rd"
      first | rw [if_neg Bool.false_ne_true] | skip
      exact qq
    · rw [e] at qq
      try walk_at "rd"
      try first | rw [if_pos rfl] | rw [if_pos trivial]
      refine ⟨_, hl, ?_⟩
      by_cases h : lo ≤ (k : Int)
      · try walk_at "rd"
        rw [if_pos (by simpa using h)]
        rw [decide_eq_true h, Bool.true_and] at qq
        exact qq
      · try walk_at "rd"
        rw [if_neg (by simpa using h)]
        rw [decide_eq_false h, Bool.false_and] at qq
        exact qq

abbrev s_form_of : Stmt := top 31
def sp_form (K : PySem.W.Frag) : Sp := fun vs H Q _ => ∃ w : Str, vs = [.str w] ∧ (formsT.lookup w = none → Q .non H) ∧ ∀ ss p, formsT.lookup w = some ss → SqT K H p (ss.map V.str) → Q (.ref p) H
theorem sc_form_of : FnScope ["word"] ["word"] (defScope s_form_of) := ⟨rfl, rfl, rfl, by decide +kernel, rfl, by decide +kernel, by decide +kernel⟩
theorem d_form_of (D : Top1 K mg "form_of" "form_of" s_form_of ["word"]) (T : Tx K mg C F FD) (TX : XTx K mg B c) : Def P w K mg base "form_of" 1 ["word"] (sp_form K) := by
  have sc := sc_form_of
  refine D.ok sc (fun vs H Q E h => ?_) (fun f cdv A outer s H vs Q E hr h => ?_)
  · obtain ⟨w, rfl, q0, q1⟩ := h
    rfl
  · obtain ⟨w, rfl, q0, q1⟩ := h
    have hu := hr.units
    refine ⟨_, (pss_one (ps_ret (pe_cget T.c_FORMS rfl T.m_FORMS (pa_c (pv 0) pa_nil)))), ?_⟩
    refine ⟨_, rfl, ?_⟩
    show Q ((PyProof.Rows.KTD.datumAt w FD).getD .non) H
    rcases T.forms w with ⟨h1, h2⟩ | ⟨ss, p, h1, h2, h3⟩
    · rw [h2]
      exact q0 h1
    · rw [h2]
      exact q1 ss p h1 (h3 H)

abbrev s_is_part : Stmt := top 32
def wayD : DV → Bool
  | .int i => decide (0 ≤ i)
  | _ => false
def partD (s : Str) (m : Int) (d : DV) : Bool := if s = "value" then valD m d else if s = "number" then inRD 0 m d else if s = "many" then inRD 1 25 d else wayD d
def sp_part : Sp := fun vs H Q _ => ∃ (x : V) (s : Str) (m : Int) (n : Nat) (d : DV), vs = [x, .str s, .int m] ∧ HD H n x d ∧ ∀ H', Same H H' → Q (.bl (partD s m d)) H'
theorem sc_is_part : FnScope ["thing", "sort", "many"] ["thing", "sort", "many"] (defScope s_is_part) := ⟨rfl, rfl, rfl, by decide +kernel, rfl, by decide +kernel, by decide +kernel⟩
theorem d_is_part (D : Top1 K mg "is_part" "is_part" s_is_part ["thing", "sort", "many"]) (T : Tx K mg C F FD) (TX : XTx K mg B c) (D_is_value : Def P w K mg base "is_value" 3 ["thing", "many"] sp_isv) (D_is_whole : Def P w K mg base "is_whole" 1 ["thing"] sp_is_whole) (D_is_within : Def P w K mg base "is_within" 2 ["thing", "low", "beyond"] sp_is_within) : Def P w K mg base "is_part" 4 ["thing", "sort", "many"] sp_part := by
  have sc := sc_is_part
  refine D.ok sc (fun vs H Q E h => ?_) (fun f cdv A outer s H vs Q E hr h => ?_)
  · obtain ⟨x, s, m, n, d, rfl, hx, q⟩ := h
    rfl
  · obtain ⟨x, s, m, n, d, rfl, hx, q⟩ := h
    have hu := hr.units
    refine ⟨_, (pss_cons (ps_if (pt_cmpR (op_uEq hu) (pv 1) pe_str (nomark _)) (pss_one (ps_ret (pe_cf D_is_value hr (pa_c (pv 0) (pa_c (pv 2) pa_nil))))) pss_nil)
      (pss_cons (ps_if (pt_cmpR (op_uEq hu) (pv 1) pe_str (nomark _)) (pss_one (ps_ret (pe_cf D_is_within hr (pa_c (pv 0) (pa_c pe_int (pa_c (pv 2) pa_nil)))))) pss_nil)
      (pss_cons (ps_if (pt_cmpR (op_uEq hu) (pv 1) pe_str (nomark _)) (pss_one (ps_ret (pe_cf D_is_within hr (pa_c (pv 0) (pa_c pe_int (pa_c (pe_op op_uAd (pe_gint T.g_MOST_DEEDS rfl) pe_int) pa_nil)))))) pss_nil)
      (pss_one (ps_ret (pe_and (pe_cf D_is_whole hr (pa_c (pv 0) pa_nil)) (pe_one (pe_cmpR op_uGe (pv 0) pe_int (nomark _))))))))), ?_⟩
    try walk_at "rd"
    obtain ⟨t, kd⟩ := hd_kd hx
    by_cases h1 : s = "value"
    · rw [if_pos (by simpa using h1)]
      try walk_at "rd"
      refine ⟨x, m, n, d, rfl, hx, fun H' s' => ?_⟩
      have := q H' s'
      rw [partD, if_pos h1] at this
      exact this
    rw [if_neg (by simpa using h1)]
    try walk_at "rd"
    by_cases h2 : s = "number"
    · rw [if_pos (by simpa using h2)]
      try walk_at "rd"
      refine ⟨x, t, 0, m, rfl, kd, ?_⟩
      have := q H (Same.refl H)
      rw [partD, if_neg h1, if_pos h2] at this
      rw [hd_inR hx]
      exact this
    rw [if_neg (by simpa using h2)]
    try walk_at "rd"
    by_cases h3 : s = "many"
    · rw [if_pos (by simpa using h3)]
      try walk_at "rd"
      refine ⟨x, t, 1, _, rfl, kd, ?_⟩
      have := q H (Same.refl H)
      rw [partD, if_neg h1, if_neg h2, if_pos h3] at this
      rw [hd_inR hx]
      exact this
    rw [if_neg (by simpa using h3)]
    try walk_at "rd"
    have qq := q H (Same.refl H)
    rw [partD, if_neg h1, if_neg h2, if_neg h3] at qq
    refine ⟨x, t, rfl, kd, _, rfl, ?_⟩
    cases hx with
    | int i =>
      rw [if_pos (by simp [isI])]
      try walk_at "rd"
      exact qq
    | _ =>
      rw [if_neg (by simp [isI])]
      exact qq
end
end K14

set_option Elab.async false
set_option linter.all false
set_option maxRecDepth 100000
set_option maxHeartbeats 4000000
namespace K14
open PySem L2 DD
section
variable {P : Program} {w : World} {K : PySem.W.Frag} {mg : Str → Option Value} {base : Heap} {C F B : Addr} {c : Nat → Addr} {FD : List (Str × V)}
local macro_rules | `(tactic| walk_at "rd") => `(tactic| simp only [tVar, tC, tOp, tUn, rU, tTest, tB, tNot, tNotV, tAnd, tOr, tAndV, tOrV, tIf, tIfS, tSeq, tNext, tRet, tRetN, tAsg, gName, gSub, tCall, tCB, tCons, tNil, tTup, tLst, tDrop, tChain, uAdd_ii, uAdd_ss, uAdd_rr, uAd_ii, uAd_ss, uAd_rr, uSl_r, uAll_1, uAny_1, uSum1_1, uIsI_t, uIsI_r, uApp_r, uExt_r, uClr_r, uIns_r, uPop0_r, tSl, tNoPart, tPart, tFld, sFld, tMeth, tMake, tBM, tBM0, tCGet, sDelL, tAug, ipI, tNever, uIs_rn, uIs_nn, id_eq, iZip, iEnum, iSeq, iRng1, iRng2, iRng3, tPairs, ↓tLc_box, ↓tFor_box, ↓tWhile_box, ↓tDisp_box, ↓LcGoal_box, uI_ii, uI0_ii, uEq_ii, uEq_ss, uEq_rr, uNe_ii, uNe_ss, uNe_rr, uIs_bb, uIn_r, uIx_ri, uIx_rs, uIx_si, uIsi_t, uLen_1, uII_2, uTuple_1, uList_1, uSetL_ri, tNoTest, blk, some_join, cx_K, cxOf_K, nox_K, bCx_K, L2.start, List.map_cons, List.map_nil, List.length_cons, List.length_nil, List.cons_append, List.nil_append, List.replicate, List.getElem?_cons_zero, List.getElem?_cons_succ, List.append_nil, Option.some.injEq, exists_eq_left', exists_eq_left, V.int.injEq, V.bl.injEq, V.str.injEq, V.ref.injEq, List.cons.injEq, and_true, true_and, List.set_cons_zero, List.set_cons_succ, Nat.reduceSub, Nat.reduceAdd])
local macro_rules | `(tactic| walk_at "rt") => `(tactic| simp only [tVar, tC, tOp, tUn, rU, tTest, tB, tNot, tNotV, tAnd, tOr, tAndV, tOrV, tIf, tIfS, tSeq, tNext, tRet, tRetN, tAsg, gName, gSub, tCall, tCB, tCons, tNil, tTup, tLst, tDrop, tChain, uAdd_ii, uAdd_ss, uAdd_rr, uAd_ii, uAd_ss, uAd_rr, uSl_r, uAll_1, uAny_1, uSum1_1, uIsI_t, uIsI_r, uApp_r, uExt_r, uClr_r, uIns_r, uPop0_r, tSl, tNoPart, tPart, tFld, sFld, tMeth, tMake, tBM, tBM0, tCGet, sDelL, tAug, ipI, tNever, uIs_rn, uIs_nn, id_eq, iZip, iEnum, iSeq, iRng1, iRng2, iRng3, tPairs, ↓tLc_box, ↓tFor_box, ↓tWhile_box, ↓tDisp_box, ↓LcGoal_box, uI_ii, uI0_ii, uEq_ii, uEq_ss, uEq_rr, uNe_ii, uNe_ss, uNe_rr, uIs_bb, uIn_r, uIx_ri, uIx_rs, uIx_si, uIsi_t, uLen_1, uII_2, uList_1, uSetL_ri, tNoTest, blk, some_join, cx_K, cxOf_K, nox_K, bCx_K, L2.start, List.map_cons, List.map_nil, List.length_cons, List.length_nil, List.cons_append, List.nil_append, List.replicate, List.getElem?_cons_zero, List.getElem?_cons_succ, List.append_nil, Option.some.injEq, exists_eq_left', exists_eq_left, V.int.injEq, V.bl.injEq, V.str.injEq, V.ref.injEq, List.cons.injEq, and_true, true_and, List.set_cons_zero, List.set_cons_succ, Nat.reduceSub, Nat.reduceAdd])
local macro_rules | `(tactic| walk_at "go") => `(tactic| repeat (first
  | walk_at "rd"
  | refine ix_t (by assumption) (by first | rfl | exact atI_nat (j := 0) rfl | exact atI_nat (j := 1) rfl | exact atI_nat (j := 2) rfl | exact atI_nat (j := 3) rfl) ?_
  | refine ix_l (by assumption) (by first | rfl | exact atI_nat (j := 0) rfl | exact atI_nat (j := 1) rfl | assumption) ?_
  | rw [if_pos (by decide +kernel)]
  | rw [if_neg (by decide +kernel)]))

abbrev s_is_deed : Stmt := top 33

def partsD (m : Int) : List DV → List Str → List Bool
  | d :: r, s :: ss => partD s m d :: partsD m r ss
  | _, _ => []
theorem parts_len {m : Int} : ∀ {r : List DV} {ss : List Str}, r.length = ss.length → (partsD m r ss).length = r.length
  | [], [], _ => rfl
  | d :: r, s :: ss, h => by simp only [partsD, List.length_cons]; rw [parts_len (by simpa using h)]
theorem parts_get {m : Int} : ∀ {r : List DV} {ss : List Str} {i : Nat} {d : DV} {s : Str}, r[i]? = some d → ss[i]? = some s → (partsD m r ss)[i]? = some (partD s m d)
  | d0 :: r, s0 :: ss, 0, d, s, h1, h2 => by cases h1; cases h2; rfl
  | d0 :: r, s0 :: ss, i + 1, d, s, h1, h2 => by
    show (partsD m r ss)[i]? = _
    exact parts_get (r := r) (ss := ss) h1 h2
def deedD (m : Int) : DV → Bool
  | .tup (.str w :: r) => match formsT.lookup w with
    | some ss => decide (r.length = ss.length) && (partsD m r ss).all id
    | none => false
  | _ => false
theorem deedD_no {m : Int} {d : DV} (hd : ∀ ds, d ≠ .tup ds) : deedD m d = false := by
  cases d with
  | tup ds => exact absurd rfl (hd ds)
  | _ => rfl
theorem deedD_no1 {m : Int} {d : DV} {r : List DV} (hd : ∀ s, d ≠ .str s) : deedD m (.tup (d :: r)) = false := by
  cases d with
  | str s => exact absurd rfl (hd s)
  | _ => rfl
theorem take_snoc {α : Type} {l : List α} {i : Nat} {x : α} (h : l[i]? = some x) : l.take (i + 1) = l.take i ++ [x] := by
  rw [List.take_succ, h]; rfl
theorem form3 : ∀ p ∈ formsT, p.2.length ≤ 3 := by decide
theorem lookup_mem {w : Str} {ss : List Str} : ∀ {l : List (Str × List Str)}, l.lookup w = some ss → ∃ k, (k, ss) ∈ l
  | (k, v) :: l, h => by
    rw [List.lookup_cons] at h
    split at h
    · cases h; exact ⟨k, by simp⟩
    · obtain ⟨k', h'⟩ := lookup_mem h
      exact ⟨k', by simp [h']⟩
theorem form_le {w : Str} {ss : List Str} (h : formsT.lookup w = some ss) : ss.length ≤ 3 := by
  obtain ⟨k, h'⟩ := lookup_mem h
  exact form3 _ h'
theorem cut1 {x : V} {ps : List V} : cutV (x :: ps) (some 1) none = ps := by
  unfold cutV
  have e : HT.sIx (x :: ps).length 0 (some 1) = 1 := by
    show (if (1 : Int) < 0 then ((1 : Int) + ((x :: ps).length : Int)).toNat else min (1 : Int).toNat (x :: ps).length) = 1
    rw [if_neg (by decide)]
    show min 1 (ps.length + 1) = 1
    omega
  rw [e]
  simp [HT.sIx]
def sp_isd : Sp := fun vs H Q _ => ∃ (x : V) (m : Int) (n : Nat) (d : DV), vs = [x, .int m] ∧ HD H n x d ∧ ∀ H', Same H H' → Q (.bl (deedD m d)) H'
theorem sc_is_deed : FnScope ["thing", "many", "form"] ["thing", "many"] (defScope s_is_deed) := ⟨rfl, rfl, rfl, by decide +kernel, rfl, by decide +kernel, by decide +kernel⟩
theorem d_is_deed (D : Top1 K mg "is_deed" "is_deed" s_is_deed ["thing", "many"]) (T : Tx K mg C F FD) (TX : XTx K mg B c) (D_form_of : Def P w K mg base "form_of" 1 ["word"] (sp_form K)) (D_is_part : Def P w K mg base "is_part" 4 ["thing", "sort", "many"] sp_part) : Def P w K mg base "is_deed" 5 ["thing", "many"] sp_isd := by
  have sc := sc_is_deed
  refine D.ok sc (fun vs H Q E h => ?_) (fun f cdv A outer s H vs Q E hr h => ?_)
  · obtain ⟨x, m, n, d, rfl, hx, q⟩ := h
    rfl
  · obtain ⟨x, m, n, d, rfl, hx, q⟩ := h
    have hu := hr.units
    refine ⟨_, (pss_cons (ps_if (PW.pt (pw_or (pt_not (pt_val (pe_cB call_isI rfl T.b_isinstance PyProof.Rows.boot_isinstance (pa_c (pv 0) (pa_c (pe_bltn (v := .ty "tuple") rfl T.b_tuple PyProof.Rows.boot_tuple rfl) pa_nil))))) (pw_or (pt_cmpR (op_uEq hu) (pe_cB call_ulen rfl T.b_len PySem.boot_len (pa_c (pv 0) pa_nil)) pe_int (nomark _)) (pw_or1 (pt_not (pt_val (pe_cB call_isI rfl T.b_isinstance PyProof.Rows.boot_isinstance (pa_c (pe_ixu hu (pv 0) pe_int) (pa_c (pe_bltn (v := .ty "str") rfl T.b_str PyProof.Rows.boot_str rfl) pa_nil))))))))) (pss_one (ps_ret pe_bl)) pss_nil)
      (pss_cons (ps_st (i := 2) sc.nd rfl (by first | exact Or.inl rfl | exact Or.inr rfl) (pe_cf D_form_of hr (pa_c (pe_ixu hu (pv 0) pe_int) pa_nil)))
      (pss_cons (ps_if (PW.pt (pw_or (pt_cmpR op_uIs (pv 2) pe_non (nomark _)) (pw_or1 (pt_cmpR (op_uNe hu) (pe_cB call_ulen rfl T.b_len PySem.boot_len (pa_c (pv 0) pa_nil)) (pe_op op_uAd (pe_cB call_ulen rfl T.b_len PySem.boot_len (pa_c (pv 2) pa_nil)) pe_int) (nomark _))))) (pss_one (ps_ret pe_bl)) pss_nil)
      (pss_one (ps_ret (pe_cB (call_uall rfl) rfl T.b_all PyProof.Rows.boot_all (pa_c (pe_lc (N' := ["part", "sort", "many"]) (ix := [none, none, some 1]) rfl (by kernel_rfl) rfl (by kernel_rfl) (pi_zip rfl T.b_zip (pa_c (pe_slu (pv 0) (po_some pe_int) po_none) (pa_c (pv 2) pa_nil))) (fun _ _ _ _ => (pg_twoK (K := K) rfl (i := 0) (j := 1) rfl (show (["part", "sort", "many"] : List PySem.Str).Nodup by decide +kernel) rfl rfl (by first | exact Or.inl rfl | exact Or.inr rfl) (by first | exact Or.inl rfl | exact Or.inr rfl))) (fun _ _ _ _ => pts_nil) (fun _ _ _ _ => (pe_cf D_is_part hr (pa_c (pv 0) (pa_c (pv 1) (pa_c (pv 2) pa_nil)))))) pa_nil))))))), ?_⟩
    by_cases ht : ∀ ds, d ≠ .tup ds
    · obtain ⟨t, ty, kt⟩ := not_tup (K := K) hx ht
      try walk_at "rd"
      refine ⟨t, false, ty, kt, ?_⟩
      simp only [Bool.not_false, if_true]
      try walk_at "rd"
      have := q H (Same.refl H)
      rw [deedD_no ht] at this
      exact this
    have ht' : ∃ ds, d = .tup ds := by
      cases d with
      | tup ds => exact ⟨ds, rfl⟩
      | _ => exact absurd (fun ds z => by cases z) ht
    obtain ⟨ds, rfl⟩ := ht'
    clear ht
    cases hx with
    | @tup n a xs _ ha la da =>
      try walk_at "rd"
      refine ⟨_, true, .tup ha, rfl, ?_⟩
      simp only [Bool.not_true, Bool.false_eq_true, if_false]
      try walk_at "rd"
      refine ⟨_, .inr ⟨_, SqT.of ha, rfl⟩, ?_⟩
      cases ds with
      | nil =>
        have e0 : xs = [] := List.length_eq_zero_iff.mp la
        subst e0
        rw [if_pos (by decide)]
        try walk_at "rd"
        exact q H (Same.refl H)
      | cons d0 r =>
        obtain ⟨x0, xr, rfl⟩ : ∃ x0 xr, xs = x0 :: xr := by
          cases xs with
          | nil => simp at la
          | cons x0 xr => exact ⟨x0, xr, rfl⟩
        have h0 := da 0 x0 d0 rfl rfl
        rw [if_neg (by simp; omega)]
        try walk_at "rd"
        by_cases hs : ∀ w, d0 ≠ .str w
        · obtain ⟨t, ty, kt⟩ := not_str (K := K) h0 hs
          refine ⟨_, x0, .inr (SqT.of ha), atI_nat (j := 0) rfl, t, false, ty, kt, ?_⟩
          simp only [Bool.not_false, if_true]
          try walk_at "rd"
          have := q H (Same.refl H)
          rw [deedD_no1 hs] at this
          exact this
        have hs' : ∃ w, d0 = .str w := by
          cases d0 with
          | str w => exact ⟨w, rfl⟩
          | _ => exact absurd (fun w z => by cases z) hs
        obtain ⟨w, rfl⟩ := hs'
        cases h0
        refine ⟨_, .str w, .inr (SqT.of ha), atI_nat (j := 0) rfl, _, true, .str _, rfl, ?_⟩
        simp only [Bool.not_true, Bool.false_eq_true, if_false]
        try walk_at "rd"
        refine ⟨_, .str w, .inr (SqT.of ha), atI_nat (j := 0) rfl, w, rfl, fun hf => ?_, fun ss p hf hp => ?_⟩
        · try walk_at "rd"
          try rw [if_pos rfl]
          try walk_at "rd"
          have := q H (Same.refl H)
          rw [deedD, hf] at this
          exact this
        try walk_at "rd"
        rw [if_neg Bool.false_ne_true]
        try walk_at "rd"
        refine ⟨_, .inr ⟨_, SqT.of ha, rfl⟩, _, .inr ⟨_, hp, rfl⟩, ?_⟩
        have h3 := form_le hf
        by_cases hlen : r.length = ss.length
        · have hxr : xr.length = ss.length := by simp at la; omega
          rw [if_neg (by simp [hxr])]
          try walk_at "rd"
          refine do_tLc ?_
          try walk_at "rd"
          refine .inr ⟨_, ha, fun p2 H2 s2 hp2 => ?_⟩
          rw [cut1] at hp2
          have hps := s2.sqT hp
          refine ⟨false, false, _, _, Sq.t hp2, hps, fun D hD => ?_⟩
          refine lc_turns (J := Itz false false K p2 p) (n := xr.length) (fun i ys H' => ys = ((partsD m r ss).take i).map V.bl ∧ Same H2 H') (Nat.le_of_lt (small1000 (by omega))) ⟨rfl, Same.new _ hD⟩ ?_ ?_ ?_ ?_
          · rintro i ys H' hi ⟨_, s3⟩
            exact ⟨xr, ss.map V.str, xr[i], .str (ss[i]'(by omega)), Sq.t (s3 _ _ hp2), s3.sqT hps, List.getElem?_eq_getElem hi, by rw [List.getElem?_map, List.getElem?_eq_getElem (by omega)]; rfl⟩
          · rintro ys H' ⟨_, s3⟩
            exact ⟨xr, ss.map V.str, Sq.t (s3 _ _ hp2), s3.sqT hps, .inl rfl⟩
          · rintro i ys H' hi hys hl ⟨rfl, s3⟩ x H4 ⟨T, hT, rfl, hy⟩
            obtain ⟨u, v, e1, e2, rfl⟩ := hy xr (ss.map V.str) (Sq.t (s3 _ _ hp2)) (s3.sqT hps)
            rw [List.getElem?_map] at e2
            obtain ⟨z, ez, rfl⟩ := Option.map_eq_some_iff.mp e2
            have hir : i < r.length := by omega
            have hdu := da (i + 1) u (r[i]'hir) e1 (List.getElem?_eq_getElem hir)
            have s4 : Same H' (upd H' T (.tup [u, .str z])) := Same.new _ hT
            refine ⟨T, _, rfl, SqT.of upd_same, rfl, _, _, rfl, _, _, rfl, rfl, Ext.set (Ext.set (Ext.refl _) rfl) rfl, ?_⟩
            try walk_at "rd"
            rw [if_pos trivial]
            refine ⟨u, z, m, n, r[i]'hir, rfl, hdu.same (s2.trans (s3.trans s4)), fun H5 s5 => ?_⟩
            refine lc_put (s5 _ _ (s4 _ _ hys)) hl hi (Nat.le_of_lt (small1000 (by omega))) ⟨?_, fun b o e => ?_⟩
            · rw [take_snoc (parts_get (List.getElem?_eq_getElem hir) ez), List.map_append]; rfl
            rw [upd_ne (ne_of_none e hD)]
            exact s5 _ _ (s4 _ _ (s3 _ _ e))
          · rintro ys H' hys hl ⟨rfl, s3⟩
            try walk_at "rd"
            rw [List.take_of_length_le (by rw [parts_len hlen]; omega)] at hys
            refine ⟨_, SqL.of hys, ?_⟩
            have := q _ (s2.trans s3)
            rw [deedD, hf] at this
            simp only [hlen, decide_true, Bool.true_and] at this
            exact this
        · rw [if_pos (by simp at la; simp; omega)]
          try walk_at "rd"
          have := q H (Same.refl H)
          rw [deedD, hf] at this
          simp only [hlen, decide_false, Bool.false_and] at this
          exact this
end
end K14

set_option Elab.async false
set_option linter.all false
set_option maxRecDepth 100000
set_option maxHeartbeats 4000000
namespace K14
open PySem L2 DD
section
variable {P : Program} {w : World} {K : PySem.W.Frag} {mg : Str → Option Value} {base : Heap} {C F B : Addr} {c : Nat → Addr} {FD : List (Str × V)}
local macro_rules | `(tactic| walk_at "rd") => `(tactic| simp only [tVar, tC, tOp, tUn, rU, tTest, tB, tNot, tNotV, tAnd, tOr, tAndV, tOrV, tIf, tIfS, tSeq, tNext, tRet, tRetN, tAsg, gName, gSub, tCall, tCB, tCons, tNil, tTup, tLst, tDrop, tChain, uAdd_ii, uAdd_ss, uAdd_rr, uAd_ii, uAd_ss, uAd_rr, uSl_r, uAll_1, uAny_1, uSum1_1, uIsI_t, uIsI_r, uApp_r, uExt_r, uClr_r, uIns_r, uPop0_r, tSl, tNoPart, tPart, tFld, sFld, tMeth, tMake, tBM, tBM0, tCGet, sDelL, tAug, ipI, tNever, uIs_rn, uIs_nn, id_eq, iZip, iEnum, iSeq, iRng1, iRng2, iRng3, tPairs, ↓tLc_box, ↓tFor_box, ↓tWhile_box, ↓tDisp_box, ↓LcGoal_box, uI_ii, uI0_ii, uEq_ii, uEq_ss, uEq_rr, uNe_ii, uNe_ss, uNe_rr, uIs_bb, uIn_r, uIx_ri, uIx_rs, uIx_si, uIsi_t, uLen_1, uII_2, uTuple_1, uList_1, uSetL_ri, tNoTest, blk, some_join, cx_K, cxOf_K, nox_K, bCx_K, L2.start, List.map_cons, List.map_nil, List.length_cons, List.length_nil, List.cons_append, List.nil_append, List.replicate, List.getElem?_cons_zero, List.getElem?_cons_succ, List.append_nil, Option.some.injEq, exists_eq_left', exists_eq_left, V.int.injEq, V.bl.injEq, V.str.injEq, V.ref.injEq, List.cons.injEq, and_true, true_and, List.set_cons_zero, List.set_cons_succ, Nat.reduceSub, Nat.reduceAdd])
local macro_rules | `(tactic| walk_at "rt") => `(tactic| simp only [tVar, tC, tOp, tUn, rU, tTest, tB, tNot, tNotV, tAnd, tOr, tAndV, tOrV, tIf, tIfS, tSeq, tNext, tRet, tRetN, tAsg, gName, gSub, tCall, tCB, tCons, tNil, tTup, tLst, tDrop, tChain, uAdd_ii, uAdd_ss, uAdd_rr, uAd_ii, uAd_ss, uAd_rr, uSl_r, uAll_1, uAny_1, uSum1_1, uIsI_t, uIsI_r, uApp_r, uExt_r, uClr_r, uIns_r, uPop0_r, tSl, tNoPart, tPart, tFld, sFld, tMeth, tMake, tBM, tBM0, tCGet, sDelL, tAug, ipI, tNever, uIs_rn, uIs_nn, id_eq, iZip, iEnum, iSeq, iRng1, iRng2, iRng3, tPairs, ↓tLc_box, ↓tFor_box, ↓tWhile_box, ↓tDisp_box, ↓LcGoal_box, uI_ii, uI0_ii, uEq_ii, uEq_ss, uEq_rr, uNe_ii, uNe_ss, uNe_rr, uIs_bb, uIn_r, uIx_ri, uIx_rs, uIx_si, uIsi_t, uLen_1, uII_2, uList_1, uSetL_ri, tNoTest, blk, some_join, cx_K, cxOf_K, nox_K, bCx_K, L2.start, List.map_cons, List.map_nil, List.length_cons, List.length_nil, List.cons_append, List.nil_append, List.replicate, List.getElem?_cons_zero, List.getElem?_cons_succ, List.append_nil, Option.some.injEq, exists_eq_left', exists_eq_left, V.int.injEq, V.bl.injEq, V.str.injEq, V.ref.injEq, List.cons.injEq, and_true, true_and, List.set_cons_zero, List.set_cons_succ, Nat.reduceSub, Nat.reduceAdd])
local macro_rules | `(tactic| walk_at "go") => `(tactic| repeat (first
  | walk_at "rd"
  | refine ix_t (by assumption) (by first | rfl | exact atI_nat (j := 0) rfl | exact atI_nat (j := 1) rfl | exact atI_nat (j := 2) rfl | exact atI_nat (j := 3) rfl) ?_
  | refine ix_l (by assumption) (by first | rfl | exact atI_nat (j := 0) rfl | exact atI_nat (j := 1) rfl | assumption) ?_
  | rw [if_pos (by decide +kernel)]
  | rw [if_neg (by decide +kernel)]))

abbrev s_are_counted : Stmt := top 38
def allD (M : Int) : DV → Bool
  | .lst ds => (ds.map (inRD 0 M)).all id
  | .tup ds => (ds.map (inRD 0 M)).all id
  | _ => false
def countedD (lo hi M : Int) (d : DV) : Bool := listD lo hi d && allD M d
def LT (H : Hp) (a : Addr) (xs : List V) : Prop := H a = some (.lst xs) ∨ H a = some (.tup xs)
theorem LT.same {H H' : Hp} {a : Addr} {xs : List V} (s : Same H H') (h : LT H a xs) : LT H' a xs := h.elim (fun z => .inl (s _ _ z)) (fun z => .inr (s _ _ z))
theorem utup_any {K : PySem.W.Frag} {H : Hp} {a : Addr} {ys : List V} {Q : VK} (h : LT H a ys) (q : ∀ p H', Same H H' → H' p = some (.tup ys) → Q (.ref p) H') : uTuple K [.ref a] H Q := by
  rcases h with h | h
  · exact .inl ⟨_, SqL.of h, fun l hl => q l _ (Same.new _ hl) upd_same⟩
  · exact .inr ⟨_, SqT.of h, q a H (Same.refl H) h⟩
def sp_counted : Sp := fun vs H Q _ => ∃ (x : V) (n : Nat) (d : DV) (lo hi M : Int), vs = [x, .int lo, .int hi, .int M] ∧ HD H n x d ∧ hi ≤ 100 ∧ ∀ H', Same H H' → Q (.bl (countedD lo hi M d)) H'
theorem sc_are_counted : FnScope ["things", "least", "most", "modulus"] ["things", "least", "most", "modulus"] (defScope s_are_counted) := ⟨rfl, rfl, rfl, by decide +kernel, rfl, by decide +kernel, by decide +kernel⟩
theorem d_are_counted (D : Top1 K mg "are_counted" "are_counted" s_are_counted ["things", "least", "most", "modulus"]) (T : Tx K mg C F FD) (TX : XTx K mg B c) (D_is_list : Def P w K mg base "is_list" 1 ["things", "least", "most"] sp_is_list) (D_is_within : Def P w K mg base "is_within" 2 ["thing", "low", "beyond"] sp_is_within) : Def P w K mg base "are_counted" 3 ["things", "least", "most", "modulus"] sp_counted := by
  have sc := sc_are_counted
  refine D.ok sc (fun vs H Q E h => ?_) (fun f cdv A outer s H vs Q E hr h => ?_)
  · obtain ⟨x, n, d, lo, hi, M, rfl, hx, h100, q⟩ := h
    rfl
  · obtain ⟨x, n, d, lo, hi, M, rfl, hx, h100, q⟩ := h
    have hu := hr.units
    refine ⟨_, (pss_one (ps_ret (pe_and (pe_cf D_is_list hr (pa_c (pv 0) (pa_c (pv 1) (pa_c (pv 2) pa_nil)))) (pe_one (pe_cB (call_uall rfl) rfl T.b_all PyProof.Rows.boot_all (pa_c (pe_lc (N' := ["thing", "modulus"]) (ix := [none, some 3]) rfl (by kernel_rfl) rfl (by kernel_rfl) (pi_seq (pv 0)) (fun _ _ _ _ => (pg_name (i := 0) (show (["thing", "modulus"] : List PySem.Str).Nodup by decide +kernel) rfl (by first | exact Or.inl rfl | exact Or.inr rfl))) (fun _ _ _ _ => pts_nil) (fun _ _ _ _ => (pe_cf D_is_within hr (pa_c (pv 0) (pa_c pe_int (pa_c (pv 1) pa_nil)))))) pa_nil)))))), ?_⟩
    try walk_at "rd"
    refine ⟨x, n, d, lo, hi, rfl, hx, fun H1 s1 => ?_⟩
    try walk_at "rd"
    cases hl0 : listD lo hi d with
    | false =>
      have := q _ s1
      rw [countedD, hl0] at this
      exact this
    | true =>
      try walk_at "rd"
      rw [if_pos trivial]
      refine do_tLc ?_
      try walk_at "rd"
      cases hx with
      | @lst n a xs ds ha la da =>
        have hln : (ds.length : Int) ≤ hi := by
          simp only [listD, Bool.and_eq_true, decide_eq_true_eq] at hl0
          exact hl0.2
        refine .inl ⟨⟨_, SqL.of (s1 _ _ ha)⟩, fun D hD => ?_⟩
        refine lc_turns (J := Itl K a) (n := ds.length) (fun i ys H' => ys = ((ds.map (inRD 0 M)).take i).map V.bl ∧ Same H1 H') (Nat.le_of_lt (small1000 (by omega))) ⟨rfl, Same.new _ hD⟩ ?_ ?_ ?_ ?_
        · rintro i ys H' hi' ⟨_, s3⟩
          exact ⟨_, xs[i]'(by omega), SqL.of (s3 _ _ (s1 _ _ ha)), List.getElem?_eq_getElem (by omega)⟩
        · rintro ys H' ⟨_, s3⟩
          exact ⟨_, SqL.of (s3 _ _ (s1 _ _ ha)), by omega⟩
        · rintro i ys H' hi' hys hl ⟨rfl, s3⟩ x H4 ⟨rfl, hy⟩
          have ex := hy _ (SqL.of (s3 _ _ (s1 _ _ ha)))
          have hdx := (da i x (ds[i]'hi') ex (List.getElem?_eq_getElem hi')).same (s1.trans s3)
          obtain ⟨t, kd⟩ := hd_kd hdx
          refine ⟨Ext.set (Ext.refl _) rfl, ?_⟩
          try walk_at "rd"
          rw [if_pos trivial]
          refine ⟨x, t, 0, M, rfl, kd, ?_⟩
          rw [hd_inR hdx]
          refine lc_put hys hl hi' (Nat.le_of_lt (small1000 (by omega))) ⟨?_, fun b o e => ?_⟩
          · rw [take_snoc (x := inRD 0 M (ds[i]'hi')) (by rw [List.getElem?_map, List.getElem?_eq_getElem hi']; rfl), List.map_append]; rfl
          rw [upd_ne (ne_of_none e hD)]
          exact s3 _ _ e
        · rintro ys H' hys hl ⟨rfl, s3⟩
          try walk_at "rd"
          rw [List.take_of_length_le (by simp)] at hys
          refine ⟨_, SqL.of hys, ?_⟩
          have := q _ (s1.trans s3)
          rw [countedD, hl0, Bool.true_and] at this
          exact this
      | @tup n a xs ds ha la da =>
        have hln : (ds.length : Int) ≤ hi := by
          simp only [listD, Bool.and_eq_true, decide_eq_true_eq] at hl0
          exact hl0.2
        refine .inr ⟨⟨_, SqT.of (s1 _ _ ha)⟩, fun D hD => ?_⟩
        refine lc_turns (J := Itt K a) (n := ds.length) (fun i ys H' => ys = ((ds.map (inRD 0 M)).take i).map V.bl ∧ Same H1 H') (Nat.le_of_lt (small1000 (by omega))) ⟨rfl, Same.new _ hD⟩ ?_ ?_ ?_ ?_
        · rintro i ys H' hi' ⟨_, s3⟩
          exact ⟨_, xs[i]'(by omega), SqT.of (s3 _ _ (s1 _ _ ha)), List.getElem?_eq_getElem (by omega)⟩
        · rintro ys H' ⟨_, s3⟩
          exact ⟨_, SqT.of (s3 _ _ (s1 _ _ ha)), by omega⟩
        · rintro i ys H' hi' hys hl ⟨rfl, s3⟩ x H4 ⟨rfl, hy⟩
          have ex := hy _ (SqT.of (s3 _ _ (s1 _ _ ha)))
          have hdx := (da i x (ds[i]'hi') ex (List.getElem?_eq_getElem hi')).same (s1.trans s3)
          obtain ⟨t, kd⟩ := hd_kd hdx
          refine ⟨Ext.set (Ext.refl _) rfl, ?_⟩
          try walk_at "rd"
          rw [if_pos trivial]
          refine ⟨x, t, 0, M, rfl, kd, ?_⟩
          rw [hd_inR hdx]
          refine lc_put hys hl hi' (Nat.le_of_lt (small1000 (by omega))) ⟨?_, fun b o e => ?_⟩
          · rw [take_snoc (x := inRD 0 M (ds[i]'hi')) (by rw [List.getElem?_map, List.getElem?_eq_getElem hi']; rfl), List.map_append]; rfl
          rw [upd_ne (ne_of_none e hD)]
          exact s3 _ _ e
        · rintro ys H' hys hl ⟨rfl, s3⟩
          try walk_at "rd"
          rw [List.take_of_length_le (by simp)] at hys
          refine ⟨_, SqL.of hys, ?_⟩
          have := q _ (s1.trans s3)
          rw [countedD, hl0, Bool.true_and] at this
          exact this
      | non => cases hl0
      | bl b => cases hl0
      | int i => cases hl0
      | str z => cases hl0
      | dict e => cases hl0

abbrev s_refuse_machine : Stmt := top 39
def seqD : DV → Bool
  | .lst _ => true
  | .tup _ => true
  | _ => false
def countM (lo hi : Int) (dm d : DV) : Bool := match dm with
  | .int M => countedD lo hi M d
  | _ => false
def machD (dm dn dr dd : DV) : Bool := inRD 2 1000000000001 dm && (countM 1 4 dm dn && (countM 0 12 dm dr && seqD dd))
theorem throw_same {H : Hp} {a : Addr} {o o' : HO} (h : H a = none) : Same H (upd (upd H a o) a o') := fun b u e => by rw [upd_ne (ne_of_none e h), upd_ne (ne_of_none e h)]; exact e
theorem raise_x0 {K : PySem.W.Frag} {E : XK} {C B : Addr} {z : Str} {D : Ends} {σ : St} {H : Hp} (cl : XCls K C B) (q : ∀ a, H a = none → E (.ref a) none (upd (upd H a (XO a C none true)) a (XO a C none false))) : tRaise K E (tX0 C (tCons (tC (.str z)) tNil)) D σ H :=
  ⟨Nat.le_refl _, fun a ha => ⟨a, C, B, none, rfl, upd_same, cl, q a ha⟩⟩
theorem seq_key {K : PySem.W.Frag} {H : Hp} {n : Nat} {x : V} {d : DV} (h : HD H n x d) : ∃ t b, TyOf K H x t ∧ PySem.W.kitAny K t [.type "list", .type "tuple"] = some b ∧ b = seqD d := by
  cases h with
  | lst e l _ => exact ⟨_, _, .lst e, rfl, rfl⟩
  | tup e l _ => exact ⟨_, _, .tup e, rfl, rfl⟩
  | non => exact ⟨_, _, .non, rfl, rfl⟩
  | bl b => exact ⟨_, _, .bl b, rfl, rfl⟩
  | int i => exact ⟨_, _, .int i, rfl, rfl⟩
  | str z => exact ⟨_, _, .str z, rfl, rfl⟩
  | dict e => exact ⟨_, _, .dK e, rfl, rfl⟩
def sp_refm (c : Nat → Addr) : Sp := fun vs H Q E => ∃ (xm xn xr xd : V) (nm nn nr nd : Nat) (dm dn dr dd : DV), vs = [xm, xn, xr, xd] ∧ HD H nm xm dm ∧ HD H nn xn dn ∧ HD H nr xr dr ∧ HD H nd xd dd ∧ (machD dm dn dr dd = true → ∀ H', Same H H' → Q .non H') ∧
  (machD dm dn dr dd = false → ∀ a H', Same H H' → H' a = some (XO a (c 0) none false) → E (.ref a) none H')
theorem sc_refuse_machine : FnScope ["modulus", "numbers", "row", "deeds"] ["modulus", "numbers", "row", "deeds"] (defScope s_refuse_machine) := ⟨rfl, rfl, rfl, by decide +kernel, rfl, by decide +kernel, by decide +kernel⟩
theorem d_refuse_machine (D : Top1 K mg "refuse_machine" "refuse_machine" s_refuse_machine ["modulus", "numbers", "row", "deeds"]) (T : Tx K mg C F FD) (TX : XTx K mg B c) (D_are_counted : Def P w K mg base "are_counted" 3 ["things", "least", "most", "modulus"] sp_counted) (D_is_within : Def P w K mg base "is_within" 2 ["thing", "low", "beyond"] sp_is_within) : DefX P w K mg base "refuse_machine" 4 ["modulus", "numbers", "row", "deeds"] (sp_refm c) := by
  have sc := sc_refuse_machine
  refine D.okx sc (fun vs H Q E h => ?_) (fun f cdv A outer s H vs Q E hr h => ?_)
  · obtain ⟨xm, xn, xr, xd, nm, nn, nr, nd, dm, dn, dr, dd, rfl, hm, hn, hr_, hd, q, qe⟩ := h
    rfl
  · obtain ⟨xm, xn, xr, xd, nm, nn, nr, nd, dm, dn, dr, dd, rfl, hm, hn, hr_, hd, q, qe⟩ := h
    have hu := hr.units
    refine ⟨_, (pss_cons (ps_if (pt_not (pt_val (pe_cf D_is_within hr (pa_c (pv 0) (pa_c pe_int (pa_c (pe_op op_uAd (pe_gint T.g_MOST_MODULUS rfl) pe_int) pa_nil)))))) (pss_one (ps_raise rfl throws1 (pe_x1 TX.x_BadMachine (pa_c pe_str pa_nil)))) pss_nil)
      (pss_cons (ps_if (pt_not (pt_val (pe_cf D_are_counted hr (pa_c (pv 1) (pa_c pe_int (pa_c (pe_gint T.g_MOST_NUMBERS rfl) (pa_c (pv 0) pa_nil))))))) (pss_one (ps_raise rfl throws1 (pe_x1 TX.x_BadMachine (pa_c pe_str pa_nil)))) pss_nil)
      (pss_cons (ps_if (pt_not (pt_val (pe_cf D_are_counted hr (pa_c (pv 2) (pa_c pe_int (pa_c (pe_gint T.g_MOST_ROW rfl) (pa_c (pv 0) pa_nil))))))) (pss_one (ps_raise rfl throws1 (pe_x1 TX.x_BadMachine (pa_c pe_str pa_nil)))) pss_nil)
      (pss_one (ps_if (pt_not (pt_val (pe_cB call_isI rfl T.b_isinstance PyProof.Rows.boot_isinstance (pa_c (pv 3) (pa_c (pe_tup (pa_c (pe_bltn (v := .ty "list") rfl T.b_list PyProof.Rows.boot_list rfl) (pa_c (pe_bltn (v := .ty "tuple") rfl T.b_tuple PyProof.Rows.boot_tuple rfl) pa_nil))) pa_nil))))) (pss_one (ps_raise rfl throws1 (pe_x1 TX.x_BadMachine (pa_c pe_str pa_nil)))) pss_nil))))), ?_⟩
    obtain ⟨t, kd⟩ := hd_kd hm
    have throw : ∀ (z : Str) (H1 : Hp) (D : Ends) (σ : St), Same H H1 → machD dm dn dr dd = false → tRaise K E (tX0 (c 0) (tCons (tC (.str z)) tNil)) D σ H1 := fun z H1 D σ s1 e => raise_x0 (TX.cl 0 (by decide)) fun a ha => qe e a _ (s1.trans (throw_same ha)) upd_same
    try walk_at "rd"
    refine ⟨xm, t, 2, _, rfl, kd, ?_⟩
    rw [hd_inR hm]
    try walk_at "rd"
    cases e1 : inRD 2 1000000000001 dm with
    | false =>
      first | rw [if_pos (by simp [e1])] | skip
      try walk_at "rd"
      exact throw _ _ _ _ (Same.refl H) (by rw [machD, e1]; rfl)
    | true =>
    first | rw [if_neg (by simp [e1])] | skip
    have hMi : ∃ M, dm = .int M := by
      cases dm with
      | int M => exact ⟨M, rfl⟩
      | _ => cases e1
    obtain ⟨M, rfl⟩ := hMi
    cases hm
    try walk_at "rd"
    refine ⟨xn, nn, dn, 1, 4, M, rfl, hn, by decide, fun H1 s1 => ?_⟩
    try walk_at "rd"
    cases e2 : countedD 1 4 M dn with
    | false =>
      first | rw [if_pos (by simp)] | skip
      try walk_at "rd"
      exact throw _ _ _ _ s1 (by rw [machD, e1]; simp [countM, e2])
    | true =>
    first | rw [if_neg (by simp)] | skip
    try walk_at "rd"
    refine ⟨xr, nr, dr, 0, 12, M, rfl, hr_.same s1, by decide, fun H2 s2 => ?_⟩
    have s12 := s1.trans s2
    try walk_at "rd"
    cases e3 : countedD 0 12 M dr with
    | false =>
      first | rw [if_pos (by simp)] | skip
      try walk_at "rd"
      exact throw _ _ _ _ s12 (by rw [machD, e1]; simp [countM, e3])
    | true =>
    first | rw [if_neg (by simp)] | skip
    try walk_at "rd"
    refine ⟨two_le, fun p hp => ?_⟩
    have s3 : Same H2 (upd H2 p (.tup [.ty "list", .ty "tuple"])) := Same.new _ hp
    obtain ⟨t4, b4, h1, h2, h3⟩ := seq_key (K := K) (hd.same (s12.trans s3))
    refine ⟨t4, b4, _, _, h1, upd_same, rfl, h2, ?_⟩
    subst h3
    try walk_at "rd"
    cases e4 : seqD dd with
    | false =>
      first | rw [if_pos (by simp)] | skip
      try walk_at "rd"
      exact throw _ _ _ _ (s12.trans s3) (by rw [machD, e1, e4]; simp)
    | true =>
    first | rw [if_neg (by simp)] | skip
    try walk_at "rd"
    exact q (by rw [machD, e1, e4]; simp [countM, e2, e3]) _ (s12.trans s3)
end
end K14

set_option Elab.async false
set_option linter.all false
set_option maxRecDepth 100000
set_option maxHeartbeats 4000000
namespace K14
open PySem L2 DD
section
variable {P : Program} {w : World} {K : PySem.W.Frag} {mg : Str → Option Value} {base : Heap} {C F B : Addr} {c : Nat → Addr} {FD : List (Str × V)}
local macro_rules | `(tactic| walk_at "rd") => `(tactic| simp only [tVar, tC, tOp, tUn, rU, tTest, tB, tNot, tNotV, tAnd, tOr, tAndV, tOrV, tIf, tIfS, tSeq, tNext, tRet, tRetN, tAsg, gName, gSub, tCall, tCB, tCons, tNil, tTup, tLst, tDrop, tChain, uAdd_ii, uAdd_ss, uAdd_rr, uAd_ii, uAd_ss, uAd_rr, uSl_r, uAll_1, uAny_1, uSum1_1, uIsI_t, uIsI_r, uApp_r, uExt_r, uClr_r, uIns_r, uPop0_r, tSl, tNoPart, tPart, tFld, sFld, tMeth, tMake, tBM, tBM0, tCGet, sDelL, tAug, ipI, tNever, uIs_rn, uIs_nn, id_eq, iZip, iEnum, iSeq, iRng1, iRng2, iRng3, tPairs, ↓tLc_box, ↓tFor_box, ↓tWhile_box, ↓tDisp_box, ↓LcGoal_box, uI_ii, uI0_ii, uEq_ii, uEq_ss, uEq_rr, uNe_ii, uNe_ss, uNe_rr, uIs_bb, uIn_r, uIx_ri, uIx_rs, uIx_si, uIsi_t, uLen_1, uII_2, uTuple_1, uList_1, uSetL_ri, tNoTest, blk, some_join, cx_K, cxOf_K, nox_K, bCx_K, L2.start, List.map_cons, List.map_nil, List.length_cons, List.length_nil, List.cons_append, List.nil_append, List.replicate, List.getElem?_cons_zero, List.getElem?_cons_succ, List.append_nil, Option.some.injEq, exists_eq_left', exists_eq_left, V.int.injEq, V.bl.injEq, V.str.injEq, V.ref.injEq, List.cons.injEq, and_true, true_and, List.set_cons_zero, List.set_cons_succ, Nat.reduceSub, Nat.reduceAdd])
local macro_rules | `(tactic| walk_at "rt") => `(tactic| simp only [tVar, tC, tOp, tUn, rU, tTest, tB, tNot, tNotV, tAnd, tOr, tAndV, tOrV, tIf, tIfS, tSeq, tNext, tRet, tRetN, tAsg, gName, gSub, tCall, tCB, tCons, tNil, tTup, tLst, tDrop, tChain, uAdd_ii, uAdd_ss, uAdd_rr, uAd_ii, uAd_ss, uAd_rr, uSl_r, uAll_1, uAny_1, uSum1_1, uIsI_t, uIsI_r, uApp_r, uExt_r, uClr_r, uIns_r, uPop0_r, tSl, tNoPart, tPart, tFld, sFld, tMeth, tMake, tBM, tBM0, tCGet, sDelL, tAug, ipI, tNever, uIs_rn, uIs_nn, id_eq, iZip, iEnum, iSeq, iRng1, iRng2, iRng3, tPairs, ↓tLc_box, ↓tFor_box, ↓tWhile_box, ↓tDisp_box, ↓LcGoal_box, uI_ii, uI0_ii, uEq_ii, uEq_ss, uEq_rr, uNe_ii, uNe_ss, uNe_rr, uIs_bb, uIn_r, uIx_ri, uIx_rs, uIx_si, uIsi_t, uLen_1, uII_2, uList_1, uSetL_ri, tNoTest, blk, some_join, cx_K, cxOf_K, nox_K, bCx_K, L2.start, List.map_cons, List.map_nil, List.length_cons, List.length_nil, List.cons_append, List.nil_append, List.replicate, List.getElem?_cons_zero, List.getElem?_cons_succ, List.append_nil, Option.some.injEq, exists_eq_left', exists_eq_left, V.int.injEq, V.bl.injEq, V.str.injEq, V.ref.injEq, List.cons.injEq, and_true, true_and, List.set_cons_zero, List.set_cons_succ, Nat.reduceSub, Nat.reduceAdd])
local macro_rules | `(tactic| walk_at "go") => `(tactic| repeat (first
  | walk_at "rd"
  | refine ix_t (by assumption) (by first | rfl | exact atI_nat (j := 0) rfl | exact atI_nat (j := 1) rfl | exact atI_nat (j := 2) rfl | exact atI_nat (j := 3) rfl) ?_
  | refine ix_l (by assumption) (by first | rfl | exact atI_nat (j := 0) rfl | exact atI_nat (j := 1) rfl | assumption) ?_
  | rw [if_pos (by decide +kernel)]
  | rw [if_neg (by decide +kernel)]))

abbrev s_BadDeed : Stmt := (clsBody (top 4)).getD 0 (.Pass ⟨0, 0, 0, 0⟩)
def sp_bad (c : Nat → Addr) : Sp := fun vs H Q _ => ∃ (a : Addr) (v : V) (fl : Bool), vs = [.ref a, v] ∧ H a = some (XO a (c 1) none fl) ∧ ∀ dx, H dx = none → Q .non (upd (upd H a (XO a (c 1) (some dx) fl)) dx (XD dx [("at", v)]))
theorem sc_BadDeed : FnScope ["self", "at"] ["self", "at"] (defScope s_BadDeed) := ⟨rfl, rfl, rfl, by decide +kernel, rfl, by decide +kernel, by decide +kernel⟩
theorem d_BadDeed (D : XTop K mg "BadDeed" (c 1) B "BadDeed.__init__" s_BadDeed ["self", "at"]) (T : Tx K mg C F FD) (TX : XTx K mg B c) : XDef P w K mg base "BadDeed" (c 1) B 1 ["self", "at"] (sp_bad c) := by
  have sc := sc_BadDeed
  refine D.ok sc (fun vs H Q E h => ?_) (fun f cdv A outer s H vs Q E hr h => ?_)
  · obtain ⟨a, v, fl, rfl, ha, q⟩ := h
    rfl
  · obtain ⟨a, v, fl, rfl, ha, q⟩ := h
    have hu := hr.units
    refine ⟨_, (pss_one (ps_xf0 (pv 0) (pv 1) (no_swap rfl))), ?_⟩
    exact ⟨_, rfl, _, rfl, a, c 1, B, fl, rfl, ha, TX.cl 1 (by decide), TX.n_BadDeed_at, fun dx hd => q dx hd⟩

abbrev s_refuse_deeds : Stmt := top 40
def seqL : DV → List DV
  | .lst ds => ds
  | .tup ds => ds
  | _ => []

def firstBad (m : Int) : Nat → List DV → Option Nat
  | _, [] => none
  | i, d :: r => if (decide (i = 24) || !deedD m d) = true then some i else firstBad m (i + 1) r
theorem raise_bad {K : PySem.W.Frag} {mg : Str → Option Value} {B : Addr} {c : Nat → Addr} (TX : XTx K mg B c) {E : XK} {D : Ends} {σ : St} {H : Hp} {i : Nat} {k : Int} (hσ : σ[i]? = some (some (.int k)))
    (q : ∀ a dx H', Same H H' → H' a = some (XO a (c 1) (some dx) false) → H' dx = some (XD dx [("at", .int k)]) → E (.ref a) none H') : tRaise K E (tXI (c 1) (sp_bad c) E0 (tCons (tVar i) tNil)) D σ H := by
  refine ⟨_, hσ, ?_⟩
  refine ⟨by show 1 ≤ 10; decide, fun a ha => ⟨a, .int k, true, rfl, upd_same, fun dx hdx => ⟨rfl, a, c 1, B, some dx, rfl, ?_, TX.cl 1 (by decide), ?_⟩⟩⟩
  · have ne : a ≠ dx := fun z => by subst z; rw [upd_same] at hdx; cases hdx
    rw [upd_ne ne, upd_same]
  · have ne : dx ≠ a := fun z => by subst z; rw [upd_same] at hdx; cases hdx
    refine q a dx _ (fun b o e => ?_) upd_same ?_
    · have nb : b ≠ a := ne_of_none e ha
      have nd : b ≠ dx := fun z => by subst z; rw [upd_ne nb, e] at hdx; cases hdx
      rw [upd_ne nb, upd_ne nd, upd_ne nb, upd_ne nb]; exact e
    · rw [upd_ne ne, upd_same]
def sp_refd (c : Nat → Addr) : Sp := fun vs H Q E => ∃ (x : V) (m : Int) (n : Nat) (d : DV), vs = [x, .int m] ∧ HD H n x d ∧ seqD d = true ∧ (firstBad m 0 (seqL d) = none → ∀ H', Same H H' → Q .non H') ∧
  ∀ k, firstBad m 0 (seqL d) = some k → ∀ a dx H', Same H H' → H' a = some (XO a (c 1) (some dx) false) → H' dx = some (XD dx [("at", .int k)]) → E (.ref a) none H'
theorem sc_refuse_deeds : FnScope ["deeds", "many", "at", "deed"] ["deeds", "many"] (defScope s_refuse_deeds) := ⟨rfl, rfl, rfl, by decide +kernel, rfl, by decide +kernel, by decide +kernel⟩
theorem d_refuse_deeds (D : Top1 K mg "refuse_deeds" "refuse_deeds" s_refuse_deeds ["deeds", "many"]) (T : Tx K mg C F FD) (TX : XTx K mg B c) (D_is_deed : Def P w K mg base "is_deed" 5 ["thing", "many"] sp_isd) (D_BadDeed : XDef P w K mg base "BadDeed" (c 1) B 1 ["self", "at"] (sp_bad c)) : DefX P w K mg base "refuse_deeds" 6 ["deeds", "many"] (sp_refd c) := by
  have sc := sc_refuse_deeds
  refine D.okx sc (fun vs H Q E h => ?_) (fun f cdv A outer s H vs Q E hr h => ?_)
  · obtain ⟨x, m, n, d, rfl, hx, hsq, q, qe⟩ := h
    rfl
  · obtain ⟨x, m, n, d, rfl, hx, hsq, q, qe⟩ := h
    have hu := hr.units
    refine ⟨_, (pss_one (ps_for own1 rfl (pi_enum rfl T.b_enumerate (pa_c (pv 0) pa_nil)) (pg_two (i := 2) (j := 3) rfl sc.nd rfl rfl (by first | exact Or.inl rfl | exact Or.inr rfl) (by first | exact Or.inl rfl | exact Or.inr rfl))
      (pss_one (ps_if (PW.pt (pw_or (pt_cmpR (op_uEq hu) (pv 2) (pe_gint T.g_MOST_DEEDS rfl) (nomark _)) (pw_or1 (pt_not (pt_val (pe_cf D_is_deed hr (pa_c (pv 3) (pa_c (pv 1) pa_nil)))))))) (pss_one (ps_raise rfl throws1 (pe_xi D_BadDeed hr (pa_c (pv 2) pa_nil)))) pss_nil)))), ?_⟩
    cases hx with
    | @lst n a xs ds ha la da =>
      refine ⟨_, rfl, true, xs, Sq.l ha, ?_⟩
      refine for_enum (xs := xs) (fun i σ H' => Same H H' ∧ firstBad m 0 ds = firstBad m i (ds.drop i) ∧ ∃ z1 z2, σ = [some (.ref a), some (.int m), z1, z2]) ⟨Same.refl H, rfl, none, none, rfl⟩ (fun i σ H' ⟨s1, _⟩ => Sq.l (s1 _ _ ha)) ?_ ?_
      · rintro i x σ H1 T hx ⟨s1, hfb, z1, z2, rfl⟩ hT
        have hi : i < xs.length := (List.getElem?_eq_some_iff.mp hx).1
        have hid : i < ds.length := by omega
        have hdx := da i x (ds[i]'hid) hx (List.getElem?_eq_getElem hid)
        rw [List.drop_eq_getElem_cons hid, firstBad] at hfb
        have s2 : Same H1 (upd H1 T (.tup [.int i, x])) := Same.new _ hT
        refine ⟨T, _, rfl, SqT.of upd_same, rfl, _, _, rfl, _, _, rfl, rfl, ?_⟩
        try walk_at "rd"
        by_cases h24 : i = 24
        · rw [if_pos (by simp [h24])]
          try walk_at "rd"
          rw [if_pos (by simp [h24])] at hfb
          exact raise_bad (D := ⟨fun _ _ => True, fun _ _ => True, fun _ _ => True, fun _ _ => True⟩) TX rfl fun a dx H' s3 e1 e2 => qe i hfb a dx H' (s1.trans (s2.trans s3)) e1 e2
        rw [if_neg (by simp; omega)]
        try walk_at "rd"
        refine ⟨x, m, n, ds[i]'hid, rfl, hdx.same (s1.trans s2), fun H3 s3 => ?_⟩
        try walk_at "rd"
        cases e : deedD m (ds[i]'hid) with
        | false =>
          first | rw [if_pos (by simp)] | skip
          try walk_at "rd"
          rw [if_pos (by simp [e])] at hfb
          exact raise_bad (D := ⟨fun _ _ => True, fun _ _ => True, fun _ _ => True, fun _ _ => True⟩) TX rfl fun a dx H' s4 e1 e2 => qe i hfb a dx H' (s1.trans (s2.trans (s3.trans s4))) e1 e2
        | true =>
          first | rw [if_neg (by simp)] | skip
          try walk_at "rd"
          rw [if_neg (by simp [e, h24])] at hfb
          exact ⟨s1.trans (s2.trans s3), hfb, _, _, rfl, rfl⟩
      · rintro σ H1 ⟨s1, hfb, _⟩
        rw [la, List.drop_length, firstBad] at hfb
        exact q hfb _ s1
    | @tup n a xs ds ha la da =>
      refine ⟨_, rfl, false, xs, Sq.t ha, ?_⟩
      refine for_enum (xs := xs) (fun i σ H' => Same H H' ∧ firstBad m 0 ds = firstBad m i (ds.drop i) ∧ ∃ z1 z2, σ = [some (.ref a), some (.int m), z1, z2]) ⟨Same.refl H, rfl, none, none, rfl⟩ (fun i σ H' ⟨s1, _⟩ => Sq.t (s1 _ _ ha)) ?_ ?_
      · rintro i x σ H1 T hx ⟨s1, hfb, z1, z2, rfl⟩ hT
        have hi : i < xs.length := (List.getElem?_eq_some_iff.mp hx).1
        have hid : i < ds.length := by omega
        have hdx := da i x (ds[i]'hid) hx (List.getElem?_eq_getElem hid)
        rw [List.drop_eq_getElem_cons hid, firstBad] at hfb
        have s2 : Same H1 (upd H1 T (.tup [.int i, x])) := Same.new _ hT
        refine ⟨T, _, rfl, SqT.of upd_same, rfl, _, _, rfl, _, _, rfl, rfl, ?_⟩
        try walk_at "rd"
        by_cases h24 : i = 24
        · rw [if_pos (by simp [h24])]
          try walk_at "rd"
          rw [if_pos (by simp [h24])] at hfb
          exact raise_bad (D := ⟨fun _ _ => True, fun _ _ => True, fun _ _ => True, fun _ _ => True⟩) TX rfl fun a dx H' s3 e1 e2 => qe i hfb a dx H' (s1.trans (s2.trans s3)) e1 e2
        rw [if_neg (by simp; omega)]
        try walk_at "rd"
        refine ⟨x, m, n, ds[i]'hid, rfl, hdx.same (s1.trans s2), fun H3 s3 => ?_⟩
        try walk_at "rd"
        cases e : deedD m (ds[i]'hid) with
        | false =>
          first | rw [if_pos (by simp)] | skip
          try walk_at "rd"
          rw [if_pos (by simp [e])] at hfb
          exact raise_bad (D := ⟨fun _ _ => True, fun _ _ => True, fun _ _ => True, fun _ _ => True⟩) TX rfl fun a dx H' s4 e1 e2 => qe i hfb a dx H' (s1.trans (s2.trans (s3.trans s4))) e1 e2
        | true =>
          first | rw [if_neg (by simp)] | skip
          try walk_at "rd"
          rw [if_neg (by simp [e, h24])] at hfb
          exact ⟨s1.trans (s2.trans s3), hfb, _, _, rfl, rfl⟩
      · rintro σ H1 ⟨s1, hfb, _⟩
        rw [la, List.drop_length, firstBad] at hfb
        exact q hfb _ s1
    | non => cases hsq
    | bl b => cases hsq
    | int i => cases hsq
    | str z => cases hsq
    | dict e => cases hsq
end
end K14

set_option Elab.async false
set_option linter.all false
set_option maxRecDepth 100000
set_option maxHeartbeats 4000000
namespace K14
open PySem L2 DD
section
variable {P : Program} {w : World} {K : PySem.W.Frag} {mg : Str → Option Value} {base : Heap} {C F B : Addr} {c : Nat → Addr} {FD : List (Str × V)}
local macro_rules | `(tactic| walk_at "rd") => `(tactic| simp only [tVar, tC, tOp, tUn, rU, tTest, tB, tNot, tNotV, tAnd, tOr, tAndV, tOrV, tIf, tIfS, tSeq, tNext, tRet, tRetN, tAsg, gName, gSub, tCall, tCB, tCons, tNil, tTup, tLst, tDrop, tChain, uAdd_ii, uAdd_ss, uAdd_rr, uAd_ii, uAd_ss, uAd_rr, uSl_r, uAll_1, uAny_1, uSum1_1, uIsI_t, uIsI_r, uApp_r, uExt_r, uClr_r, uIns_r, uPop0_r, tSl, tNoPart, tPart, tFld, sFld, tMeth, tMake, tBM, tBM0, tCGet, sDelL, tAug, ipI, tNever, uIs_rn, uIs_nn, id_eq, iZip, iEnum, iSeq, iRng1, iRng2, iRng3, tPairs, ↓tLc_box, ↓tFor_box, ↓tWhile_box, ↓tDisp_box, ↓LcGoal_box, uI_ii, uI0_ii, uEq_ii, uEq_ss, uEq_rr, uNe_ii, uNe_ss, uNe_rr, uIs_bb, uIn_r, uIx_ri, uIx_rs, uIx_si, uIsi_t, uLen_1, uII_2, uTuple_1, uList_1, uSetL_ri, tNoTest, blk, some_join, cx_K, cxOf_K, nox_K, bCx_K, L2.start, List.map_cons, List.map_nil, List.length_cons, List.length_nil, List.cons_append, List.nil_append, List.replicate, List.getElem?_cons_zero, List.getElem?_cons_succ, List.append_nil, Option.some.injEq, exists_eq_left', exists_eq_left, V.int.injEq, V.bl.injEq, V.str.injEq, V.ref.injEq, List.cons.injEq, and_true, true_and, List.set_cons_zero, List.set_cons_succ, Nat.reduceSub, Nat.reduceAdd])
local macro_rules | `(tactic| walk_at "rt") => `(tactic| simp only [tVar, tC, tOp, tUn, rU, tTest, tB, tNot, tNotV, tAnd, tOr, tAndV, tOrV, tIf, tIfS, tSeq, tNext, tRet, tRetN, tAsg, gName, gSub, tCall, tCB, tCons, tNil, tTup, tLst, tDrop, tChain, uAdd_ii, uAdd_ss, uAdd_rr, uAd_ii, uAd_ss, uAd_rr, uSl_r, uAll_1, uAny_1, uSum1_1, uIsI_t, uIsI_r, uApp_r, uExt_r, uClr_r, uIns_r, uPop0_r, tSl, tNoPart, tPart, tFld, sFld, tMeth, tMake, tBM, tBM0, tCGet, sDelL, tAug, ipI, tNever, uIs_rn, uIs_nn, id_eq, iZip, iEnum, iSeq, iRng1, iRng2, iRng3, tPairs, ↓tLc_box, ↓tFor_box, ↓tWhile_box, ↓tDisp_box, ↓LcGoal_box, uI_ii, uI0_ii, uEq_ii, uEq_ss, uEq_rr, uNe_ii, uNe_ss, uNe_rr, uIs_bb, uIn_r, uIx_ri, uIx_rs, uIx_si, uIsi_t, uLen_1, uII_2, uList_1, uSetL_ri, tNoTest, blk, some_join, cx_K, cxOf_K, nox_K, bCx_K, L2.start, List.map_cons, List.map_nil, List.length_cons, List.length_nil, List.cons_append, List.nil_append, List.replicate, List.getElem?_cons_zero, List.getElem?_cons_succ, List.append_nil, Option.some.injEq, exists_eq_left', exists_eq_left, V.int.injEq, V.bl.injEq, V.str.injEq, V.ref.injEq, List.cons.injEq, and_true, true_and, List.set_cons_zero, List.set_cons_succ, Nat.reduceSub, Nat.reduceAdd])
local macro_rules | `(tactic| walk_at "go") => `(tactic| repeat (first
  | walk_at "rd"
  | refine ix_t (by assumption) (by first | rfl | exact atI_nat (j := 0) rfl | exact atI_nat (j := 1) rfl | exact atI_nat (j := 2) rfl | exact atI_nat (j := 3) rfl) ?_
  | refine ix_l (by assumption) (by first | rfl | exact atI_nat (j := 0) rfl | exact atI_nat (j := 1) rfl | assumption) ?_
  | rw [if_pos (by decide +kernel)]
  | rw [if_neg (by decide +kernel)]))

abbrev s_Machine : Stmt := (clsBody (top 41)).getD 0 (.Pass ⟨0, 0, 0, 0⟩)
theorem len_fs {f : Str} {v : V} {fs : List (Str × V)} {n : Nat} (h : fs.length < n) : (putF f v fs).length < n + 1 := by
  have := length_putF f v fs
  omega
theorem seq_of {H : Hp} {n : Nat} {x : V} {d : DV} (h : HD H n x d) (hs : seqD d = true) : ∃ a xs, x = .ref a ∧ LT H a xs ∧ xs.length = (seqL d).length := by
  cases h with
  | lst e l _ => exact ⟨_, _, rfl, .inl e, l⟩
  | tup e l _ => exact ⟨_, _, rfl, .inr e, l⟩
  | non => cases hs
  | bl b => cases hs
  | int i => cases hs
  | str z => cases hs
  | dict e => cases hs
theorem counted_seq {lo hi M : Int} {d : DV} (h : countedD lo hi M d = true) : seqD d = true := by
  cases d with
  | lst ds => rfl
  | tup ds => rfl
  | _ => cases h
theorem mach_parts {dm dn dr dd : DV} (h : machD dm dn dr dd = true) : (∃ M, dm = .int M) ∧ seqD dn = true ∧ seqD dr = true ∧ seqD dd = true := by
  simp only [machD, Bool.and_eq_true] at h
  obtain ⟨h1, h2, h3, h4⟩ := h
  cases dm with
  | int M => exact ⟨⟨M, rfl⟩, counted_seq h2, counted_seq h3, h4⟩
  | _ => cases h1
def sp_init (C : Addr) (c : Nat → Addr) : Sp := fun vs H Q E => ∃ (x dx : Addr) (xm xn xr xd : V) (nm nn nr nd : Nat) (dm dn dr dd : DV), vs = [.ref x, xm, xn, xr, xd] ∧ H x = some (.ins C dx []) ∧ HD H nm xm dm ∧ HD H nn xn dn ∧ HD H nr xr dr ∧ HD H nd xd dd ∧
  (machD dm dn dr dd = true → firstBad ((seqL dn).length : Nat) 0 (seqL dd) = none → ∀ H', (∀ b o, b ≠ x → H b = some o → H' b = some o) → Q .non H') ∧
  (machD dm dn dr dd = false → ∀ a H', Same H H' → H' a = some (XO a (c 0) none false) → E (.ref a) none H') ∧
  ∀ k, machD dm dn dr dd = true → firstBad ((seqL dn).length : Nat) 0 (seqL dd) = some k → ∀ a dx' H', Same H H' → H' a = some (XO a (c 1) (some dx') false) → H' dx' = some (XD dx' [("at", .int k)]) → E (.ref a) none H'
theorem sc_Machine : FnScope ["self", "modulus", "numbers", "row", "deeds"] ["self", "modulus", "numbers", "row", "deeds"] (defScope s_Machine) := ⟨rfl, rfl, rfl, by decide +kernel, rfl, by decide +kernel, by decide +kernel⟩
theorem d_Machine (D : TopI K mg "Machine" C "Machine.__init__" s_Machine ["self", "modulus", "numbers", "row", "deeds"]) (T : Tx K mg C F FD) (TX : XTx K mg B c) (D_refuse_deeds : DefX P w K mg base "refuse_deeds" 6 ["deeds", "many"] (sp_refd c)) (D_refuse_machine : DefX P w K mg base "refuse_machine" 4 ["modulus", "numbers", "row", "deeds"] (sp_refm c)) : DefIX P w K mg base "Machine" C 7 ["self", "modulus", "numbers", "row", "deeds"] (sp_init C c) := by
  have sc := sc_Machine
  refine D.okx sc (fun vs H Q E h => ?_) (fun f cdv A outer s H vs Q E hr h => ?_)
  · obtain ⟨x, dx, xm, xn, xr, xd, nm, nn, nr, nd, dm, dn, dr, dd, rfl, hx, hm, hn, hro, hd, q, qb, qd⟩ := h
    rfl
  · obtain ⟨x, dx, xm, xn, xr, xd, nm, nn, nr, nd, dm, dn, dr, dd, rfl, hx, hm, hn, hro, hd, q, qb, qd⟩ := h
    have hu := hr.units
    refine ⟨_, (pss_cons (ps_ex (pe_cfx D_refuse_machine passes1 hr (pa_c (pv 1) (pa_c (pv 2) (pa_c (pv 3) (pa_c (pv 4) pa_nil))))))
      (pss_cons (ps_ex (pe_cfx D_refuse_deeds passes1 hr (pa_c (pv 4) (pa_c (pe_cB call_ulen rfl T.b_len PySem.boot_len (pa_c (pv 2) pa_nil)) pa_nil))))
      (pss_cons (ps_fld (pv 0) (pv 1) (no_swap rfl))
      (pss_cons (ps_fld (pv 0) (pe_tup (pa_c (pe_cT call_utuple rfl T.b_tuple PyProof.Rows.boot_tuple (pa_c (pv 2) pa_nil)) (pa_c (pe_cT call_utuple rfl T.b_tuple PyProof.Rows.boot_tuple (pa_c (pv 3) pa_nil)) pa_nil))) (no_swap rfl))
      (pss_one (ps_fld (pv 0) (pe_cT call_utuple rfl T.b_tuple PyProof.Rows.boot_tuple (pa_c (pv 4) pa_nil)) (no_swap rfl))))))), ?_⟩
    try walk_at "rt"
    refine ⟨xm, xn, xr, xd, nm, nn, nr, nd, dm, dn, dr, dd, rfl, hm, hn, hro, hd, fun em H1 s1 => ?_, qb⟩
    obtain ⟨⟨M, rfl⟩, sn, sr, sd⟩ := mach_parts em
    cases hm
    obtain ⟨an, xsn, rfl, ltn, lenn⟩ := seq_of hn sn
    obtain ⟨ar, xsr, rfl, ltr, _⟩ := seq_of hro sr
    obtain ⟨ad, xsd, hxd, ltd, _⟩ := seq_of hd sd
    try walk_at "rt"
    have hlen : LenV K (.ref an) H1 xsn.length := (ltn.same s1).elim (fun z => .inl ⟨_, SqL.of z, rfl⟩) (fun z => .inr ⟨_, SqT.of z, rfl⟩)
    refine ⟨_, hlen, ?_⟩
    rw [lenn]
    refine ⟨xd, _, nd, dd, rfl, hd.same s1, sd, fun ef H2 s2 => ?_, fun k ef a dx' H' s' e1 e2 => qd k em ef a dx' H' (s1.trans s') e1 e2⟩
    subst hxd
    have s02 := s1.trans s2
    try walk_at "rt"
    have hx2 := s02 _ _ hx
    refine ⟨x, C, dx, [], rfl, hx2, T.cl_Machine, T.n_m, by decide, ?_⟩
    have ltx : ∀ {b : Addr} {ys : List V}, LT H b ys → b ≠ x := fun h z => by
      subst z
      rcases h with h | h <;> (rw [hx] at h; cases h)
    have nx : ∀ b o, b ≠ x → H b = some o → upd H2 x (.ins C dx (putF "own_modulus" (.int M) [])) b = some o := fun b o ne e => by rw [upd_ne ne]; exact s02 _ _ e
    have nxL : ∀ {b : Addr} {ys : List V}, LT H b ys → LT (upd H2 x (.ins C dx (putF "own_modulus" (.int M) []))) b ys := fun h => by
      have hne := ltx h
      exact h.elim (fun z => .inl (nx _ _ hne z)) (fun z => .inr (nx _ _ hne z))
    have hGx : upd H2 x (.ins C dx (putF "own_modulus" (.int M) [])) x = some (.ins C dx (putF "own_modulus" (.int M) [])) := upd_same
    generalize hG2 : upd H2 x (.ins C dx (putF "own_modulus" (.int M) [])) = G2 at *
    try walk_at "rt"
    refine utup_any (nxL ltn) fun t1 H3 s3 ht1 => ?_
    try walk_at "rt"
    refine utup_any ((nxL ltr).same s3) fun t2 H4 s4 ht2 => ?_
    try walk_at "rt"
    refine ⟨two_le, fun t3 ht3 => ?_⟩
    have s5 := Same.new (.tup [.ref t1, .ref t2]) ht3
    have s35 := s3.trans (s4.trans s5)
    try walk_at "rt"
    refine ⟨x, C, dx, _, rfl, s35 _ _ hGx, T.cl_Machine, T.n_s, len_fs (n := 999) (by decide), ?_⟩
    have hG5x := s35 _ _ hGx
    have nG : ∀ b o, b ≠ x → H b = some o → upd H4 t3 (.tup [.ref t1, .ref t2]) b = some o := fun b o ne e => s35 _ _ (nx b o ne e)
    generalize hG : upd H4 t3 (.tup [.ref t1, .ref t2]) = G at *
    have e6 : LT (upd G x (.ins C dx (putF "own_state" (.ref t3) (putF "own_modulus" (.int M) [])))) ad xsd := by
      have hne := ltx ltd
      exact ltd.elim (fun z => .inl (by rw [upd_ne hne]; exact nG _ _ hne z)) (fun z => .inr (by rw [upd_ne hne]; exact nG _ _ hne z))
    have n6 : ∀ b o, b ≠ x → H b = some o → upd G x (.ins C dx (putF "own_state" (.ref t3) (putF "own_modulus" (.int M) []))) b = some o := fun b o ne e => by rw [upd_ne ne]; exact nG b o ne e
    have e6x : upd G x (.ins C dx (putF "own_state" (.ref t3) (putF "own_modulus" (.int M) []))) x = some (.ins C dx (putF "own_state" (.ref t3) (putF "own_modulus" (.int M) []))) := upd_same
    generalize hG6 : upd G x (.ins C dx (putF "own_state" (.ref t3) (putF "own_modulus" (.int M) []))) = G6 at *
    try walk_at "rt"
    refine utup_any e6 fun t4 H7 s7 ht4 => ?_
    try walk_at "rt"
    refine ⟨x, C, dx, _, rfl, s7 _ _ e6x, T.cl_Machine, T.n_d, len_fs (n := 999) (len_fs (n := 998) (by decide)), ?_⟩
    try walk_at "rt"
    exact q em ef _ (fun b o ne e => by rw [upd_ne ne]; exact s7 _ _ (n6 b o ne e))
end
end K14

set_option Elab.async false
set_option linter.all false
set_option maxRecDepth 100000
set_option maxHeartbeats 4000000
namespace K14
open PySem L2 DD
section
variable {P : Program} {w : World} {K : PySem.W.Frag} {mg : Str → Option Value} {base : Heap} {C F B : Addr} {c : Nat → Addr} {FD : List (Str × V)}
local macro_rules | `(tactic| walk_at "rd") => `(tactic| simp only [tVar, tC, tOp, tUn, rU, tTest, tB, tNot, tNotV, tAnd, tOr, tAndV, tOrV, tIf, tIfS, tSeq, tNext, tRet, tRetN, tAsg, gName, gSub, tCall, tCB, tCons, tNil, tTup, tLst, tDrop, tChain, uAdd_ii, uAdd_ss, uAdd_rr, uAd_ii, uAd_ss, uAd_rr, uSl_r, uAll_1, uAny_1, uSum1_1, uIsI_t, uIsI_r, uApp_r, uExt_r, uClr_r, uIns_r, uPop0_r, tSl, tNoPart, tPart, tFld, sFld, tMeth, tMake, tBM, tBM0, tCGet, sDelL, tAug, ipI, tNever, uIs_rn, uIs_nn, id_eq, iZip, iEnum, iSeq, iRng1, iRng2, iRng3, tPairs, ↓tLc_box, ↓tFor_box, ↓tWhile_box, ↓tDisp_box, ↓LcGoal_box, uI_ii, uI0_ii, uEq_ii, uEq_ss, uEq_rr, uNe_ii, uNe_ss, uNe_rr, uIs_bb, uIn_r, uIx_ri, uIx_rs, uIx_si, uIsi_t, uLen_1, uII_2, uTuple_1, uList_1, uSetL_ri, tNoTest, blk, some_join, cx_K, cxOf_K, nox_K, bCx_K, L2.start, List.map_cons, List.map_nil, List.length_cons, List.length_nil, List.cons_append, List.nil_append, List.replicate, List.getElem?_cons_zero, List.getElem?_cons_succ, List.append_nil, Option.some.injEq, exists_eq_left', exists_eq_left, V.int.injEq, V.bl.injEq, V.str.injEq, V.ref.injEq, List.cons.injEq, and_true, true_and, List.set_cons_zero, List.set_cons_succ, Nat.reduceSub, Nat.reduceAdd])
local macro_rules | `(tactic| walk_at "rt") => `(tactic| simp only [tVar, tC, tOp, tUn, rU, tTest, tB, tNot, tNotV, tAnd, tOr, tAndV, tOrV, tIf, tIfS, tSeq, tNext, tRet, tRetN, tAsg, gName, gSub, tCall, tCB, tCons, tNil, tTup, tLst, tDrop, tChain, uAdd_ii, uAdd_ss, uAdd_rr, uAd_ii, uAd_ss, uAd_rr, uSl_r, uAll_1, uAny_1, uSum1_1, uIsI_t, uIsI_r, uApp_r, uExt_r, uClr_r, uIns_r, uPop0_r, tSl, tNoPart, tPart, tFld, sFld, tMeth, tMake, tBM, tBM0, tCGet, sDelL, tAug, ipI, tNever, uIs_rn, uIs_nn, id_eq, iZip, iEnum, iSeq, iRng1, iRng2, iRng3, tPairs, ↓tLc_box, ↓tFor_box, ↓tWhile_box, ↓tDisp_box, ↓LcGoal_box, uI_ii, uI0_ii, uEq_ii, uEq_ss, uEq_rr, uNe_ii, uNe_ss, uNe_rr, uIs_bb, uIn_r, uIx_ri, uIx_rs, uIx_si, uIsi_t, uLen_1, uII_2, uList_1, uSetL_ri, tNoTest, blk, some_join, cx_K, cxOf_K, nox_K, bCx_K, L2.start, List.map_cons, List.map_nil, List.length_cons, List.length_nil, List.cons_append, List.nil_append, List.replicate, List.getElem?_cons_zero, List.getElem?_cons_succ, List.append_nil, Option.some.injEq, exists_eq_left', exists_eq_left, V.int.injEq, V.bl.injEq, V.str.injEq, V.ref.injEq, List.cons.injEq, and_true, true_and, List.set_cons_zero, List.set_cons_succ, Nat.reduceSub, Nat.reduceAdd])
local macro_rules | `(tactic| walk_at "go") => `(tactic| repeat (first
  | walk_at "rd"
  | refine ix_t (by assumption) (by first | rfl | exact atI_nat (j := 0) rfl | exact atI_nat (j := 1) rfl | exact atI_nat (j := 2) rfl | exact atI_nat (j := 3) rfl) ?_
  | refine ix_l (by assumption) (by first | rfl | exact atI_nat (j := 0) rfl | exact atI_nat (j := 1) rfl | assumption) ?_
  | rw [if_pos (by decide +kernel)]
  | rw [if_neg (by decide +kernel)]))

abbrev s_law_others : Stmt := top 53
def sp_others (c : Nat → Addr) : Sp := fun vs H Q _ => ∃ (a : Addr) (k : Nat) (d : Option Addr) (fl : Bool), vs = [.ref a] ∧ H a = some (XO a (c k) d fl) ∧ k < 2 ∧ (∀ dx, d = some dx → ∃ fs, H dx = some (XD dx fs)) ∧ ∀ H', Same H H' → Q (.bl false) H'
theorem sc_law_others : FnScope ["_law_e"] ["_law_e"] (defScope s_law_others) := ⟨rfl, rfl, rfl, by decide +kernel, rfl, by decide +kernel, by decide +kernel⟩
theorem d_law_others (D : Top1 K mg "_law_others" "_law_others" s_law_others ["_law_e"]) (T : Tx K mg C F FD) (TX : XTx K mg B c) : DefN P w K mg base "_law_others" 1 ["_law_e"] (sp_others c) := by
  have sc := sc_law_others
  refine D.okN sc (fun vs H Q E h => ?_) (fun f cdv A outer s H vs Q E hr h => ?_)
  · obtain ⟨a, k, d, fl, rfl, ha, hk, hd, q⟩ := h
    rfl
  · obtain ⟨a, k, d, fl, rfl, ha, hk, hd, q⟩ := h
    have hu := hr.units
    refine ⟨_, (pss_cons (ps_if (pt_val (pe_cB call_xisT rfl T.b_isinstance PyProof.Rows.boot_isinstance (pa_c (pv 0) (pa_c (pe_tup (pa_c (pe_glob (v := .ref (c 3)) rfl TX.m_BadNet rfl) (pa_c (pe_glob (v := .ref (c 13)) rfl TX.m_Busy rfl) (pa_c (pe_glob (v := .ref (c 6)) rfl TX.m_NoCount rfl) (pa_c (pe_glob (v := .ref (c 18)) rfl TX.m_NoDeed rfl) (pa_c (pe_glob (v := .ref (c 7)) rfl TX.m_NoEvent rfl) (pa_c (pe_glob (v := .ref (c 4)) rfl TX.m_NoLetter rfl) (pa_c (pe_glob (v := .ref (c 10)) rfl TX.m_NoLine rfl) (pa_c (pe_glob (v := .ref (c 11)) rfl TX.m_NoMachine rfl) (pa_c (pe_glob (v := .ref (c 15)) rfl TX.m_NoMark rfl) (pa_c (pe_glob (v := .ref (c 17)) rfl TX.m_NoName rfl) (pa_c (pe_glob (v := .ref (c 16)) rfl TX.m_NoRow rfl) pa_nil)))))))))))) pa_nil)))) (pss_one (ps_ret pe_bl)) pss_nil)
      (pss_cons (ps_if (pt_not (pt_val (pe_cB call_xis rfl T.b_isinstance PyProof.Rows.boot_isinstance (pa_c (pv 0) (pa_c (pe_bltn (v := .ty "ValueError") rfl T.b_ValueError boot_VE rfl) pa_nil))))) (pss_one (ps_ret pe_bl)) pss_nil)
      (pss_one (ps_ret (pe_cB call_xisT rfl T.b_isinstance PyProof.Rows.boot_isinstance (pa_c (pv 0) (pa_c (pe_tup (pa_c (pe_glob (v := .ref (c 2)) rfl TX.m_NoText rfl) (pa_c (pe_glob (v := .ref (c 5)) rfl TX.m_NotFirst rfl) (pa_c (pe_glob (v := .ref (c 14)) rfl TX.m_NotReached rfl) (pa_c (pe_glob (v := .ref (c 12)) rfl TX.m_NotRow rfl) (pa_c (pe_glob (v := .ref (c 8)) rfl TX.m_Orphaned rfl) (pa_c (pe_glob (v := .ref (c 9)) rfl TX.m_TooMany rfl) pa_nil))))))) pa_nil))))))), ?_⟩
    try walk_at "rd"
    refine ⟨by show 11 ≤ PySem.sizeLine; decide, fun p hp => ?_⟩
    have s1 := Same.new (.tup [.ref (c 3), .ref (c 13), .ref (c 6), .ref (c 18), .ref (c 7), .ref (c 4), .ref (c 10), .ref (c 11), .ref (c 15), .ref (c 17), .ref (c 16)]) hp
    have cl := TX.cl k (by omega)
    have h19 : k < 19 := by omega
    refine ⟨a, c k, B, d, p, [3, 13, 6, 18, 7, 4, 10, 11, 15, 17, 16].map c, false, fl, rfl, s1 _ _ ha, fun dx e => (hd dx e).imp fun fs z => s1 _ _ z, cl, upd_same, (kit_any TX h19 _ (by decide)).trans (by congr 1; simp; omega), ?_⟩
    try walk_at "rd"
    first | rw [if_neg Bool.false_ne_true] | skip
    try walk_at "rd"
    refine ⟨a, c k, B, d, _, true, fl, rfl, s1 _ _ ha, fun dx e => (hd dx e).imp fun fs z => s1 _ _ z, cl, .inr ⟨_, rfl⟩, kit_xV TX h19, ?_⟩
    try walk_at "rd"
    try simp only [Bool.not_true, Bool.false_eq_true, if_false]
    try walk_at "rd"
    refine ⟨by show 6 ≤ PySem.sizeLine; decide, fun p2 hp2 => ?_⟩
    have s2 := Same.new (.tup [.ref (c 2), .ref (c 5), .ref (c 14), .ref (c 12), .ref (c 8), .ref (c 9)]) hp2
    have s12 := s1.trans s2
    refine ⟨a, c k, B, d, p2, [2, 5, 14, 12, 8, 9].map c, false, fl, rfl, s12 _ _ ha, fun dx e => (hd dx e).imp fun fs z => s12 _ _ z, cl, upd_same, (kit_any TX h19 _ (by decide)).trans (by congr 1; simp; omega), ?_⟩
    exact q _ s12

abbrev s_law_said : Stmt := top 54
theorem do_try {K : PySem.W.Frag} {i : Nat} {B : Addr} {tb : XK → TS} {th : TS} {D : Ends} {σ : St} {H : Hp} (h : ∀ EE : XK, (∀ a C d H', H' a = some (XO a C d false) → XCls K C B →
    th { nx := fun σ' H2 => D.nx (σ'.set i none) H2, rt := D.rt, bk := fun σ' H2 => D.bk (σ'.set i none) H2, ct := fun σ' H2 => D.ct (σ'.set i none) H2 } (σ.set i (some (.ref a))) H' → EE (.ref a) none H') → tb EE D σ H) : tTry K i B tb th D σ H :=
  h _ fun a C d H' e cl q => ⟨a, C, d, rfl, e, cl, q⟩
theorem xf_at {K : PySem.W.Frag} {mg : Str → Option Value} {B : Addr} {c : Nat → Addr} (TX : XTx K mg B c) {H : Hp} {a dx : Addr} {v : V} {Q : VK} {σ : St} {i : Nat} (hσ : σ[i]? = some (some (.ref a))) (ea : H a = some (XO a (c 1) (some dx) false)) (ed : H dx = some (XD dx [("at", v)])) (q : Q v H) :
    tXF K (tVar i) "at" σ H Q :=
  ⟨_, hσ, a, c 1, B, dx, _, v, false, rfl, ea, ed, TX.cl 1 (by decide), TX.n_BadDeed_at, rfl, q⟩
def saidD (dm dn dr dd : DV) : DV := if machD dm dn dr dd = true then (match firstBad ((seqL dn).length : Nat) 0 (seqL dd) with
  | none => .str "made"
  | some k => .tup [.str "deed", .int k]) else .str "machine"
def sp_said : Sp := fun vs H Q _ => ∃ (xm xn xr xd : V) (nm nn nr nd : Nat) (dm dn dr dd : DV), vs = [xm, xn, xr, xd] ∧ HD H nm xm dm ∧ HD H nn xn dn ∧ HD H nr xr dr ∧ HD H nd xd dd ∧ ∀ y H', Same H H' → HT H' 1 y (saidD dm dn dr dd) → Q y H'
theorem sc_law_said : FnScope ["_law_modulus_here", "_law_numbers", "_law_row", "_law_deeds", "_law_word", "_law_e"] ["_law_modulus_here", "_law_numbers", "_law_row", "_law_deeds"] (defScope s_law_said) := ⟨rfl, rfl, rfl, by decide +kernel, rfl, by decide +kernel, by decide +kernel⟩
theorem d_law_said (D : Top1 K mg "_law_said" "_law_said" s_law_said ["_law_modulus_here", "_law_numbers", "_law_row", "_law_deeds"]) (T : Tx K mg C F FD) (TX : XTx K mg B c) (D_law_others : DefN P w K mg base "_law_others" 1 ["_law_e"] (sp_others c)) (D_Machine : DefIX P w K mg base "Machine" C 7 ["self", "modulus", "numbers", "row", "deeds"] (sp_init C c)) : Def P w K mg base "_law_said" 9 ["_law_modulus_here", "_law_numbers", "_law_row", "_law_deeds"] sp_said := by
  have sc := sc_law_said
  refine D.ok sc (fun vs H Q E h => ?_) (fun f cdv A outer s H vs Q E hr h => ?_)
  · obtain ⟨xm, xn, xr, xd, nm, nn, nr, nd, dm, dn, dr, dd, rfl, hm, hn, hro, hd, q⟩ := h
    rfl
  · obtain ⟨xm, xn, xr, xd, nm, nn, nr, nd, dm, dn, dr, dd, rfl, hm, hn, hro, hd, q⟩ := h
    have hu := hr.units
    refine ⟨_, (pss_cons (ps_st (i := 4) sc.nd rfl (by first | exact Or.inl rfl | exact Or.inr rfl) pe_str)
      (pss_cons (ps_try (i := 5) rfl rfl sc.nd rfl rfl rfl TX.m_NetError TX.xb (psx_expr (pex_ci D_Machine hr (pa_c (pv 0) (pa_c (pv 1) (pa_c (pv 2) (pa_c (pv 3) pa_nil)))))) (fun a =>
      (pss_cons (ps_st (i := 4) sc.nd rfl (by first | exact Or.inl rfl | exact Or.inr rfl) pe_str)
      (pss_one (ps_if (PW.pt (pw_and (pt_not (pt_val (pe_cfN D_law_others (hr.amid a) (pa_c (pv 5) pa_nil)))) (pw_and (pt_val (pe_cB (call_xisK (K := K) rfl) rfl T.b_isinstance PyProof.Rows.boot_isinstance (pa_c (pv 5) (pa_c (pe_glob (v := .ref (c 0)) rfl TX.m_BadMachine rfl) pa_nil)))) (pw_and1 (pt_not (pt_val (pe_cB (call_xisK (K := K) rfl) rfl T.b_isinstance PyProof.Rows.boot_isinstance (pa_c (pv 5) (pa_c (pe_glob (v := .ref (c 1)) rfl TX.m_BadDeed rfl) pa_nil))))))))) (pss_one (ps_st (i := 4) sc.nd rfl (by first | exact Or.inl rfl | exact Or.inr rfl) pe_str)) (pss_one (ps_if (PW.pt (pw_and (pt_not (pt_val (pe_cfN D_law_others (hr.amid a) (pa_c (pv 5) pa_nil)))) (pw_and (pt_val (pe_cB (call_xisK (K := K) rfl) rfl T.b_isinstance PyProof.Rows.boot_isinstance (pa_c (pv 5) (pa_c (pe_glob (v := .ref (c 1)) rfl TX.m_BadDeed rfl) pa_nil)))) (pw_and1 (pt_not (pt_val (pe_cB (call_xisK (K := K) rfl) rfl T.b_isinstance PyProof.Rows.boot_isinstance (pa_c (pv 5) (pa_c (pe_glob (v := .ref (c 0)) rfl TX.m_BadMachine rfl) pa_nil))))))))) (pss_cons (ps_st (i := 4) sc.nd rfl (by first | exact Or.inl rfl | exact Or.inr rfl) (pe_tup (pa_c pe_str (pa_c (pe_xfK (K := K) rfl (pv 5)) pa_nil))))
      (pss_one (ps_if (pt_val (pe_cB (call_isIK (K := K) rfl) rfl T.b_isinstance PyProof.Rows.boot_isinstance (pa_c (pe_xfK (K := K) rfl (pv 5)) (pa_c (pe_bltn (v := .ty "bool") rfl T.b_bool PyProof.Rows.boot_bool rfl) pa_nil)))) (pss_one (ps_st (i := 4) sc.nd rfl (by first | exact Or.inl rfl | exact Or.inr rfl) pe_str)) pss_nil))) pss_nil)))))))
      (pss_one (ps_ret (pv 4))))), ?_⟩
    try walk_at "rd"
    refine do_try fun EE hEE => ?_
    try walk_at "rd"
    intro x dx hx hdx hne
    have s1 : Same H (upd (upd H dx (.own x)) x (.ins C dx [])) := fun b o e => by rw [upd_ne (ne_of_none e hx), upd_ne (ne_of_none e hdx)]; exact e
    refine ⟨x, dx, xm, xn, xr, xd, nm, nn, nr, nd, dm, dn, dr, dd, rfl, upd_same, hm.same s1, hn.same s1, hro.same s1, hd.same s1, fun em ef H' k => ⟨rfl, ?_⟩, fun em a H' s' ea => ?_, fun k em ef a dx' H' s' ea ed => ?_⟩
    · try walk_at "rd"
      have := q (.str "made") H' (fun b o e => k b o (ne_of_none e hx) (s1 _ _ e)) (by rw [saidD, if_pos em, ef]; exact .str _)
      exact this
    · refine hEE a (c 0) none H' ea (TX.cl 0 (by decide)) ?_
      try walk_at "rd"
      refine ⟨a, 0, none, false, rfl, ea, by decide, (fun dx z => nomatch z), fun H2 s2 => ?_⟩
      have ea2 := s2 _ _ ea
      try walk_at "rd"
      try simp only [Bool.not_false, if_true]
      try walk_at "rd"
      refine ⟨a, c 0, B, none, .ref (c 0), true, false, rfl, ea2, (fun dx z => nomatch z), TX.cl 0 (by decide), .inl rfl, (kit_xx TX (i := 0) (j := 0) (by decide) (by decide)).trans rfl, ?_⟩
      try walk_at "rd"
      try first | rw [if_pos rfl] | rw [if_pos trivial]
      try walk_at "rd"
      refine ⟨a, c 0, B, none, .ref (c 1), false, false, rfl, ea2, (fun dx z => nomatch z), TX.cl 0 (by decide), .inl rfl, (kit_xx TX (i := 0) (j := 1) (by decide) (by decide)).trans rfl, ?_⟩
      try walk_at "rd"
      try simp only [Bool.not_false, if_true]
      try walk_at "rd"
      exact q _ _ (s1.trans (s'.trans s2)) (by rw [saidD, if_neg (by rw [em]; decide)]; exact .str _)
    · refine hEE a (c 1) (some dx') H' ea (TX.cl 1 (by decide)) ?_
      try walk_at "rd"
      refine ⟨a, 1, some dx', false, rfl, ea, by decide, (fun dx z => by cases z; exact ⟨_, ed⟩), fun H2 s2 => ?_⟩
      have ea2 := s2 _ _ ea
      have ed2 := s2 _ _ ed
      try walk_at "rd"
      try simp only [Bool.not_false, if_true]
      try walk_at "rd"
      refine ⟨a, c 1, B, some dx', .ref (c 0), false, false, rfl, ea2, (fun dx z => by cases z; exact ⟨_, ed2⟩), TX.cl 1 (by decide), .inl rfl, (kit_xx TX (i := 1) (j := 0) (by decide) (by decide)).trans rfl, ?_⟩
      try walk_at "rd"
      try first | rw [if_neg Bool.false_ne_true] | rw [if_neg (by decide)]
      try walk_at "rd"
      refine ⟨a, 1, some dx', false, rfl, ea2, by decide, (fun dx z => by cases z; exact ⟨_, ed2⟩), fun H3 s3 => ?_⟩
      have ea3 := s3 _ _ ea2
      have ed3 := s3 _ _ ed2
      try walk_at "rd"
      try simp only [Bool.not_false, if_true]
      try walk_at "rd"
      refine ⟨a, c 1, B, some dx', .ref (c 1), true, false, rfl, ea3, (fun dx z => by cases z; exact ⟨_, ed3⟩), TX.cl 1 (by decide), .inl rfl, (kit_xx TX (i := 1) (j := 1) (by decide) (by decide)).trans rfl, ?_⟩
      try walk_at "rd"
      try first | rw [if_pos rfl] | rw [if_pos trivial]
      try walk_at "rd"
      refine ⟨a, c 1, B, some dx', .ref (c 0), false, false, rfl, ea3, (fun dx z => by cases z; exact ⟨_, ed3⟩), TX.cl 1 (by decide), .inl rfl, (kit_xx TX (i := 1) (j := 0) (by decide) (by decide)).trans rfl, ?_⟩
      try walk_at "rd"
      try simp only [Bool.not_false, if_true]
      try walk_at "rd"
      refine xf_at (c := c) TX rfl ea3 ed3 ?_
      try walk_at "rd"
      refine ⟨two_le, fun p hp => ?_⟩
      have s4 := Same.new (.tup [.str "deed", .int k]) hp
      try walk_at "rd"
      refine xf_at (c := c) TX rfl (s4 _ _ ea3) (s4 _ _ ed3) ?_
      try walk_at "rd"
      refine ⟨_, false, .int _, rfl, ?_⟩
      try walk_at "rd"
      try first | rw [if_neg Bool.false_ne_true] | rw [if_neg (by decide)]
      try walk_at "rd"
      refine q _ _ (s1.trans (s'.trans (s2.trans (s3.trans s4)))) ?_
      rw [saidD, if_pos em, ef]
      exact .tup upd_same rfl fun i u e hu he => by
        match i, hu, he with
        | 0, hu, he => cases hu; cases he; exact .str _
        | 1, hu, he => cases hu; cases he; exact .int _
end
end K14

set_option Elab.async false
set_option linter.all false
set_option maxRecDepth 100000
set_option maxHeartbeats 4000000
namespace K14
open PySem L2 DD
section
variable {P : Program} {w : World} {K : PySem.W.Frag} {mg : Str → Option Value} {base : Heap} {C F B : Addr} {c : Nat → Addr} {FD : List (Str × V)}
local macro_rules | `(tactic| walk_at "rd") => `(tactic| simp only [tVar, tC, tOp, tUn, rU, tTest, tB, tNot, tNotV, tAnd, tOr, tAndV, tOrV, tIf, tIfS, tSeq, tNext, tRet, tRetN, tAsg, gName, gSub, tCall, tCB, tCons, tNil, tTup, tLst, tDrop, tChain, uAdd_ii, uAdd_ss, uAdd_rr, uAd_ii, uAd_ss, uAd_rr, uSl_r, uAll_1, uAny_1, uSum1_1, uIsI_t, uIsI_r, uApp_r, uExt_r, uClr_r, uIns_r, uPop0_r, tSl, tNoPart, tPart, tFld, sFld, tMeth, tMake, tBM, tBM0, tCGet, sDelL, tAug, ipI, tNever, uIs_rn, uIs_nn, id_eq, iZip, iEnum, iSeq, iRng1, iRng2, iRng3, tPairs, ↓tLc_box, ↓tFor_box, ↓tWhile_box, ↓tDisp_box, ↓LcGoal_box, uI_ii, uI0_ii, uEq_ii, uEq_ss, uEq_rr, uNe_ii, uNe_ss, uNe_rr, uIs_bb, uIn_r, uIx_ri, uIx_rs, uIx_si, uIsi_t, uLen_1, uII_2, uTuple_1, uList_1, uSetL_ri, tNoTest, blk, some_join, cx_K, cxOf_K, nox_K, bCx_K, L2.start, List.map_cons, List.map_nil, List.length_cons, List.length_nil, List.cons_append, List.nil_append, List.replicate, List.getElem?_cons_zero, List.getElem?_cons_succ, List.append_nil, Option.some.injEq, exists_eq_left', exists_eq_left, V.int.injEq, V.bl.injEq, V.str.injEq, V.ref.injEq, List.cons.injEq, and_true, true_and, List.set_cons_zero, List.set_cons_succ, Nat.reduceSub, Nat.reduceAdd])
local macro_rules | `(tactic| walk_at "rt") => `(tactic| simp only [tVar, tC, tOp, tUn, rU, tTest, tB, tNot, tNotV, tAnd, tOr, tAndV, tOrV, tIf, tIfS, tSeq, tNext, tRet, tRetN, tAsg, gName, gSub, tCall, tCB, tCons, tNil, tTup, tLst, tDrop, tChain, uAdd_ii, uAdd_ss, uAdd_rr, uAd_ii, uAd_ss, uAd_rr, uSl_r, uAll_1, uAny_1, uSum1_1, uIsI_t, uIsI_r, uApp_r, uExt_r, uClr_r, uIns_r, uPop0_r, tSl, tNoPart, tPart, tFld, sFld, tMeth, tMake, tBM, tBM0, tCGet, sDelL, tAug, ipI, tNever, uIs_rn, uIs_nn, id_eq, iZip, iEnum, iSeq, iRng1, iRng2, iRng3, tPairs, ↓tLc_box, ↓tFor_box, ↓tWhile_box, ↓tDisp_box, ↓LcGoal_box, uI_ii, uI0_ii, uEq_ii, uEq_ss, uEq_rr, uNe_ii, uNe_ss, uNe_rr, uIs_bb, uIn_r, uIx_ri, uIx_rs, uIx_si, uIsi_t, uLen_1, uII_2, uList_1, uSetL_ri, tNoTest, blk, some_join, cx_K, cxOf_K, nox_K, bCx_K, L2.start, List.map_cons, List.map_nil, List.length_cons, List.length_nil, List.cons_append, List.nil_append, List.replicate, List.getElem?_cons_zero, List.getElem?_cons_succ, List.append_nil, Option.some.injEq, exists_eq_left', exists_eq_left, V.int.injEq, V.bl.injEq, V.str.injEq, V.ref.injEq, List.cons.injEq, and_true, true_and, List.set_cons_zero, List.set_cons_succ, Nat.reduceSub, Nat.reduceAdd])
local macro_rules | `(tactic| walk_at "go") => `(tactic| repeat (first
  | walk_at "rd"
  | refine ix_t (by assumption) (by first | rfl | exact atI_nat (j := 0) rfl | exact atI_nat (j := 1) rfl | exact atI_nat (j := 2) rfl | exact atI_nat (j := 3) rfl) ?_
  | refine ix_l (by assumption) (by first | rfl | exact atI_nat (j := 0) rfl | exact atI_nat (j := 1) rfl | assumption) ?_
  | rw [if_pos (by decide +kernel)]
  | rw [if_neg (by decide +kernel)]))

abbrev s_law_deed : Stmt := top 48
theorem ht_mk4 {H : Hp} {n : Nat} {a : Addr} {u v w z : V} {d d' d'' d3 : DV} (e : H a = some (.tup [u, v, w, z])) (h : HT H n u d) (h' : HT H n v d') (h'' : HT H n w d'') (h3 : HT H n z d3) : HT H (n + 1) (.ref a) (.tup [d, d', d'', d3]) := by
  refine .tup e rfl fun i x y hx hy => ?_
  match i, hx, hy with
  | 0, hx, hy => simp at hx hy; subst hx hy; exact h
  | 1, hx, hy => simp at hx hy; subst hx hy; exact h'
  | 2, hx, hy => simp at hx hy; subst hx hy; exact h''
  | 3, hx, hy => simp at hx hy; subst hx hy; exact h3
def sp_ldeed : Sp := fun vs H Q _ => ∃ p m, vs = [.ref p, .int m] ∧ PotAt H p ∧ 0 < m ∧ m ≤ 4 ∧ ∀ x d H', L2.Step p H H' → HT H' 2 x (Deed.dv d) → d.ok m → Q x H'
theorem sc_law_deed : FnScope ["_law_pot_here", "_law_many", "_law_kind"] ["_law_pot_here", "_law_many"] (defScope s_law_deed) := ⟨rfl, rfl, rfl, by decide +kernel, rfl, by decide +kernel, by decide +kernel⟩
theorem d_law_deed (D : Top1 K mg "_law_deed" "_law_deed" s_law_deed ["_law_pot_here", "_law_many"]) (T : Tx K mg C F FD) (TX : XTx K mg B c) (D_law_digit : Def P w K mg base "_law_digit" 2 ["_law_pot_here", "_law_many"] sp_digit) (D_law_value : Def P w K mg base "_law_value" 3 ["_law_pot_here", "_law_many"] sp_value) : Def P w K mg base "_law_deed" 4 ["_law_pot_here", "_law_many"] sp_ldeed := by
  have sc := sc_law_deed
  refine D.ok sc (fun vs H Q E h => ?_) (fun f cdv A outer s H vs Q E hr h => ?_)
  · obtain ⟨p, m, rfl, hp, h0, h4, q⟩ := h
    rfl
  · obtain ⟨p, m, rfl, hp, h0, h4, q⟩ := h
    have hu := hr.units
    refine ⟨_, (pss_cons (ps_st (i := 2) sc.nd rfl (by first | exact Or.inl rfl | exact Or.inr rfl) (pe_cf D_law_digit hr (pa_c (pv 0) (pa_c pe_int pa_nil))))
      (pss_cons (ps_if (pt_cmpR op_uLt (pv 2) pe_int (nomark _)) (pss_one (ps_ret (pe_tup (pa_c (pe_ixu hu (pe_lst (pa_c pe_str (pa_c pe_str (pa_c pe_str pa_nil)))) (pv 2)) (pa_c (pe_cf D_law_digit hr (pa_c (pv 0) (pa_c (pv 1) pa_nil))) (pa_c (pe_cf D_law_value hr (pa_c (pv 0) (pa_c (pv 1) pa_nil))) pa_nil)))))) pss_nil)
      (pss_cons (ps_if (pt_cmpR op_uLt (pv 2) pe_int (nomark _)) (pss_one (ps_ret (pe_tup (pa_c pe_str (pa_c (pe_cf D_law_digit hr (pa_c (pv 0) (pa_c pe_int pa_nil))) (pa_c (pe_cf D_law_value hr (pa_c (pv 0) (pa_c (pv 1) pa_nil))) pa_nil)))))) pss_nil)
      (pss_cons (ps_if (pt_cmpR (op_uEq hu) (pv 2) pe_int (nomark _)) (pss_one (ps_ret (pe_tup (pa_c pe_str (pa_c (pe_cf D_law_value hr (pa_c (pv 0) (pa_c (pv 1) pa_nil))) pa_nil))))) pss_nil)
      (pss_cons (ps_if (pt_cmpR (op_uEq hu) (pv 2) pe_int (nomark _)) (pss_one (ps_ret (pe_tup (pa_c pe_str (pa_c (pe_cf D_law_value hr (pa_c (pv 0) (pa_c (pv 1) pa_nil))) pa_nil))))) pss_nil)
      (pss_cons (ps_if (pt_cmpR (op_uEq hu) (pv 2) pe_int (nomark _)) (pss_one (ps_ret (pe_tup (pa_c pe_str pa_nil)))) pss_nil)
      (pss_one (ps_ret (pe_tup (pa_c pe_str (pa_c (pe_cf D_law_value hr (pa_c (pv 0) (pa_c (pv 1) pa_nil))) (pa_c (pe_cf D_law_value hr (pa_c (pv 0) (pa_c (pv 1) pa_nil))) (pa_c (pe_op op_uAd pe_int (pe_cf D_law_digit hr (pa_c (pv 0) (pa_c pe_int pa_nil)))) pa_nil))))))))))))), ?_⟩
    try walk_at "rd"
    refine ⟨p, 10, rfl, hp, by decide +kernel, by decide +kernel, fun d H1 h1 h2 st => ?_⟩
    have hml : m.natAbs.log2 < 9000 := by
      have : m = 1 ∨ m = 2 ∨ m = 3 ∨ m = 4 := by omega
      rcases this with rfl | rfl | rfl | rfl <;> decide +kernel
    have hd' : d = 0 ∨ d = 1 ∨ d = 2 ∨ d = 3 ∨ d = 4 ∨ d = 5 ∨ d = 6 ∨ d = 7 ∨ d = 8 ∨ d = 9 := by omega
    rcases hd' with rfl | rfl | rfl | rfl | rfl | rfl | rfl | rfl | rfl | rfl
    · walk_at "go"
      refine ⟨by decide, fun l hl => ?_⟩
      have st3 := st.new (o := .lst [.str "set", .str "add", .str "times"]) hl
      refine ix_l upd_same rfl ?_
      refine dig st3.pot h0 hml fun e H4 he0 he1 st4 => ?_
      have st34 := st3.trans st4
      walk_at "go"
      refine ⟨p, m, rfl, st34.pot, h0, h4, fun vx v H5 st5 hv hvok => ?_⟩
      walk_at "go"
      exact ⟨by decide, fun t ht => q _ (.set e v) _ ((st34.trans st5).new ht) (ht_mk3 upd_same (.str _) (.int _) (hv.stay (Same.new _ ht).tups)) ⟨he0, he1, hvok⟩⟩
    · walk_at "go"
      refine ⟨by decide, fun l hl => ?_⟩
      have st3 := st.new (o := .lst [.str "set", .str "add", .str "times"]) hl
      refine ix_l upd_same rfl ?_
      refine dig st3.pot h0 hml fun e H4 he0 he1 st4 => ?_
      have st34 := st3.trans st4
      walk_at "go"
      refine ⟨p, m, rfl, st34.pot, h0, h4, fun vx v H5 st5 hv hvok => ?_⟩
      walk_at "go"
      exact ⟨by decide, fun t ht => q _ (.add e v) _ ((st34.trans st5).new ht) (ht_mk3 upd_same (.str _) (.int _) (hv.stay (Same.new _ ht).tups)) ⟨he0, he1, hvok⟩⟩
    · walk_at "go"
      refine ⟨by decide, fun l hl => ?_⟩
      have st3 := st.new (o := .lst [.str "set", .str "add", .str "times"]) hl
      refine ix_l upd_same rfl ?_
      refine dig st3.pot h0 hml fun e H4 he0 he1 st4 => ?_
      have st34 := st3.trans st4
      walk_at "go"
      refine ⟨p, m, rfl, st34.pot, h0, h4, fun vx v H5 st5 hv hvok => ?_⟩
      walk_at "go"
      exact ⟨by decide, fun t ht => q _ (.times e v) _ ((st34.trans st5).new ht) (ht_mk3 upd_same (.str _) (.int _) (hv.stay (Same.new _ ht).tups)) ⟨he0, he1, hvok⟩⟩
    · walk_at "go"
      refine dig st.pot (by decide) (by decide +kernel) fun e H4 he0 he1 st4 => ?_
      have st34 := st.trans st4
      walk_at "go"
      refine ⟨p, m, rfl, st34.pot, h0, h4, fun vx v H5 st5 hv hvok => ?_⟩
      walk_at "go"
      exact ⟨by decide, fun t ht => q _ (.send e v) _ ((st34.trans st5).new ht) (ht_mk3 upd_same (.str _) (.int _) (hv.stay (Same.new _ ht).tups)) ⟨he0, hvok⟩⟩
    · walk_at "go"
      refine dig st.pot (by decide) (by decide +kernel) fun e H4 he0 he1 st4 => ?_
      have st34 := st.trans st4
      walk_at "go"
      refine ⟨p, m, rfl, st34.pot, h0, h4, fun vx v H5 st5 hv hvok => ?_⟩
      walk_at "go"
      exact ⟨by decide, fun t ht => q _ (.send e v) _ ((st34.trans st5).new ht) (ht_mk3 upd_same (.str _) (.int _) (hv.stay (Same.new _ ht).tups)) ⟨he0, hvok⟩⟩
    · walk_at "go"
      refine dig st.pot (by decide) (by decide +kernel) fun e H4 he0 he1 st4 => ?_
      have st34 := st.trans st4
      walk_at "go"
      refine ⟨p, m, rfl, st34.pot, h0, h4, fun vx v H5 st5 hv hvok => ?_⟩
      walk_at "go"
      exact ⟨by decide, fun t ht => q _ (.send e v) _ ((st34.trans st5).new ht) (ht_mk3 upd_same (.str _) (.int _) (hv.stay (Same.new _ ht).tups)) ⟨he0, hvok⟩⟩
    · walk_at "go"
      refine ⟨p, m, rfl, st.pot, h0, h4, fun vx v H5 st5 hv hvok => ?_⟩
      walk_at "go"
      exact ⟨by decide, fun t ht => q _ (.say v) _ ((st.trans st5).new ht) (ht_mk2 upd_same (.str _) (hv.stay (Same.new _ ht).tups)) hvok⟩
    · walk_at "go"
      refine ⟨p, m, rfl, st.pot, h0, h4, fun vx v H5 st5 hv hvok => ?_⟩
      walk_at "go"
      exact ⟨by decide, fun t ht => q _ (.put v) _ ((st.trans st5).new ht) (ht_mk2 upd_same (.str _) (hv.stay (Same.new _ ht).tups)) hvok⟩
    · walk_at "go"
      exact ⟨by decide, fun t ht => q _ .drop _ (st.new ht) (ht_mk1 (n := 1) upd_same (.str _)) trivial⟩
    · walk_at "go"
      refine ⟨p, m, rfl, st.pot, h0, h4, fun vx v H5 st5 hv hvok => ?_⟩
      walk_at "go"
      have st15 := st.trans st5
      refine ⟨p, m, rfl, st15.pot, h0, h4, fun vy v2 H6 st6 hv2 hvok2 => ?_⟩
      have st16 := st15.trans st6
      walk_at "go"
      refine dig st16.pot (by decide) (by decide +kernel) fun e H7 he0 he1 st7 => ?_
      walk_at "go"
      refine ⟨by decide, fun t ht => q _ (.skip v v2 (1 + e)) _ ((st16.trans st7).new ht) ?_ ⟨hvok, hvok2, by omega, by omega⟩⟩
      have tt := (st7.tups st16.pot).trans (Same.new (.tup [.str "skip", vx, vy, .int (1 + e)]) ht).tups
      exact ht_mk4 upd_same (.str _) (hv.stay ((st6.tups st15.pot).trans tt)) (hv2.stay tt) (.int _)

abbrev s_law_handed : Stmt := top 55
def sp_hand : Sp := fun vs H Q _ => ∃ (x : V) (n : Nat) (d : DV) (z : Int), vs = [x, .int z] ∧ HD H n x d ∧ ∀ y d' H', Same H H' → HD H' n y d' → (d' = d ∨ ∃ ds, d = .lst ds ∧ d' = .tup ds) → Q y H'
theorem sc_law_handed : FnScope ["_law_row", "_law_way"] ["_law_row", "_law_way"] (defScope s_law_handed) := ⟨rfl, rfl, rfl, by decide +kernel, rfl, by decide +kernel, by decide +kernel⟩
theorem d_law_handed (D : Top1 K mg "_law_handed" "_law_handed" s_law_handed ["_law_row", "_law_way"]) (T : Tx K mg C F FD) (TX : XTx K mg B c) : Def P w K mg base "_law_handed" 1 ["_law_row", "_law_way"] sp_hand := by
  have sc := sc_law_handed
  refine D.ok sc (fun vs H Q E h => ?_) (fun f cdv A outer s H vs Q E hr h => ?_)
  · obtain ⟨x, n, d, z, rfl, hx, q⟩ := h
    rfl
  · obtain ⟨x, n, d, z, rfl, hx, q⟩ := h
    have hu := hr.units
    refine ⟨_, (pss_cons (ps_if (PW.pt (pw_and (pt_cmpR (op_uEq hu) (pe_op op_uMod (pv 1) pe_int) pe_int (nomark _)) (pw_and1 (pt_val (pe_cB call_isI rfl T.b_isinstance PyProof.Rows.boot_isinstance (pa_c (pv 0) (pa_c (pe_bltn (v := .ty "list") rfl T.b_list PyProof.Rows.boot_list rfl) pa_nil))))))) (pss_one (ps_ret (pe_cT call_utuple rfl T.b_tuple PyProof.Rows.boot_tuple (pa_c (pv 0) pa_nil)))) pss_nil)
      (pss_one (ps_ret (pv 0)))), ?_⟩
    try walk_at "rd"
    refine ⟨by decide, ?_⟩
    try walk_at "rd"
    by_cases hz : z % 2 = 0
    · try rw [if_pos (by simpa using hz)]
      try walk_at "rd"
      cases hx with
      | @lst n a xs ds e l i =>
        refine ⟨_, true, .lst e, rfl, ?_⟩
        try walk_at "rd"
        try first | rw [if_pos rfl] | rw [if_pos trivial]
        try walk_at "rd"
        refine .inl ⟨_, SqL.of e, fun p hp => ?_⟩
        have s1 := Same.new (.tup xs) hp
        exact q _ _ _ s1 (.tup upd_same l fun j u e' hu he => (i j u e' hu he).same s1) (.inr ⟨_, rfl, rfl⟩)
      | _ =>
        first
          | refine ⟨_, false, .non, rfl, ?_⟩
          | refine ⟨_, false, .bl _, rfl, ?_⟩
          | refine ⟨_, false, .int _, rfl, ?_⟩
          | refine ⟨_, false, .str _, rfl, ?_⟩
          | refine ⟨_, false, .tup (by assumption), rfl, ?_⟩
          | refine ⟨_, false, .dK (by assumption), rfl, ?_⟩
        try walk_at "rd"
        try first | rw [if_neg Bool.false_ne_true] | rw [if_neg (by decide)]
        try walk_at "rd"
        exact q _ _ _ (Same.refl H) (by first | exact .non | exact .bl _ | exact .int _ | exact .str _ | exact .dict (by assumption) | exact .tup (by assumption) (by assumption) (by assumption)) (.inl rfl)
    · try rw [if_neg (by simpa using hz)]
      try walk_at "rd"
      exact q _ _ _ (Same.refl H) hx (.inl rfl)

abbrev s_law_no_modulus : Stmt := top 50
theorem cpow59 : CPow 10 59 := ⟨by decide, by decide, by decide +kernel⟩
theorem pos59 : (0 : Int) < 10 ^ Int.toNat 59 := by decide +kernel
def nomL (far : Int) : List DV := [(DV.int 0), (DV.int 1), (DV.int ((-(1)))), (DV.int (((10 ^ Int.toNat 12) + 1))), (DV.int ((((10 ^ Int.toNat 12) + 1) + far))), (DV.int (((-(1)) - far))), (DV.bl true), (DV.bl false), DV.non, (DV.str "7"), (DV.lst [(DV.int 7)]), (DV.tup [(DV.int 7)]), DV.dict]
theorem nom_all {far : Int} (hf : 0 ≤ far) : ∀ d ∈ nomL far, inRD 2 1000000000001 d = false := by
  intro d hd
  simp only [nomL, List.mem_cons, List.not_mem_nil, or_false] at hd
  have e12 : (10 : Int) ^ Int.toNat 12 = 1000000000000 := by decide
  rcases hd with rfl | rfl | rfl | rfl | rfl | rfl | rfl | rfl | rfl | rfl | rfl | rfl | rfl <;> first
    | rfl
    | (simp only [inRD, e12, Bool.and_eq_false_iff, decide_eq_false_iff_not]; omega)
def sp_nom : Sp := fun vs H Q _ => ∃ z : Int, vs = [.int z] ∧ ∀ x d H', Same H H' → HD H' 1 x d → inRD 2 1000000000001 d = false → Q x H'
theorem sc_law_no_modulus : FnScope ["_law_cell", "_law_far", "_law_some"] ["_law_cell"] (defScope s_law_no_modulus) := ⟨rfl, rfl, rfl, by decide +kernel, rfl, by decide +kernel, by decide +kernel⟩
theorem d_law_no_modulus (D : Top1 K mg "_law_no_modulus" "_law_no_modulus" s_law_no_modulus ["_law_cell"]) (T : Tx K mg C F FD) (TX : XTx K mg B c) : Def P w K mg base "_law_no_modulus" 1 ["_law_cell"] sp_nom := by
  have sc := sc_law_no_modulus
  refine D.ok sc (fun vs H Q E h => ?_) (fun f cdv A outer s H vs Q E hr h => ?_)
  · obtain ⟨z, rfl, q⟩ := h
    rfl
  · obtain ⟨z, rfl, q⟩ := h
    have hu := hr.units
    refine ⟨_, (pss_cons (ps_st (i := 1) sc.nd rfl (by first | exact Or.inl rfl | exact Or.inr rfl) (pe_op op_uMod (pe_op op_uFdiv (pv 0) pe_int) (pe_op op_uPow pe_int pe_int)))
      (pss_cons (ps_st (i := 2) sc.nd rfl (by first | exact Or.inl rfl | exact Or.inr rfl) (pe_lst (pa_c pe_int (pa_c pe_int (pa_c (pe_un un_neg pe_int) (pa_c (pe_op op_uAd (pe_op op_uPow pe_int pe_int) pe_int) (pa_c (pe_op op_uAd (pe_op op_uAd (pe_op op_uPow pe_int pe_int) pe_int) (pv 1)) (pa_c (pe_op op_uSub (pe_un un_neg pe_int) (pv 1)) (pa_c pe_bl (pa_c pe_bl (pa_c pe_non (pa_c pe_str (pa_c (pe_lst (pa_c pe_int pa_nil)) (pa_c (pe_tup (pa_c pe_int pa_nil)) (pa_c pe_dnewK pa_nil)))))))))))))))
      (pss_one (ps_ret (pe_ixu hu (pv 2) (pe_op op_uMod (pv 0) pe_int)))))), ?_⟩
    have e13 : CDiv2 z 13 := ⟨by decide, by decide +kernel⟩
    refine ⟨_, rfl, e13, cpow59, pos59, ?_⟩
    have hf : 0 ≤ z / 13 % 10 ^ Int.toNat 59 := Int.emod_nonneg _ (by have := pos59; omega)
    try dsimp only [gName]
    refine seq_asg ?_
    refine d1_doL 1 (d1s_cons d1_int (d1s_cons d1_int (d1s_cons (d1_neg d1_int) (d1s_cons (d1_ad (d1_pow (i := 10) (j := 12) cpow12) d1_int) (d1s_cons (d1_ad (d1_ad (d1_pow (i := 10) (j := 12) cpow12) d1_int) (d1_var (i := 1) rfl)) (d1s_cons (d1_sub (d1_neg d1_int) (d1_var (i := 1) rfl)) (d1s_cons d1_bl (d1s_cons d1_bl (d1s_cons d1_non (d1s_cons d1_str (d1s_cons (d1_lst (d1s_cons d1_int d1s_nil)) (d1s_cons (d1_tup (d1s_cons d1_int d1s_nil)) (d1s_cons d1_dict d1s_nil))))))))))))) (by simp only [List.length_cons, List.length_nil]; decide) fun x H1 s1 d1 => ?_
    try walk_at "rd"
    refine ⟨by decide, ?_⟩
    have hz0 : 0 ≤ z % 13 := Int.emod_nonneg _ (by decide)
    have hz1 : z % 13 < 13 := Int.emod_lt_of_pos _ (by decide)
    obtain ⟨j, hj⟩ := Int.eq_ofNat_of_zero_le hz0
    replace d1 : HD H1 2 x (.lst (nomL (z / 13 % 10 ^ Int.toNat 59))) := d1
    rw [hj]
    cases d1 with
    | @lst _ a xs _ ha la da =>
      have hjx : j < xs.length := by rw [la]; show j < 13; omega
      have hjd : j < (nomL (z / 13 % 10 ^ Int.toNat 59)).length := by show j < 13; omega
      try walk_at "rd"
      refine ⟨xs, xs[j], .inl (SqL.of ha), atI_nat (List.getElem?_eq_getElem hjx), ?_⟩
      exact q _ _ _ s1 (da j _ _ (List.getElem?_eq_getElem hjx) (List.getElem?_eq_getElem hjd)) (nom_all hf _ (List.getElem_mem hjd))
end
end K14

set_option Elab.async false
set_option linter.all false
set_option maxRecDepth 100000
set_option maxHeartbeats 4000000
namespace K14
open PySem L2 DD
section
variable {P : Program} {w : World} {K : PySem.W.Frag} {mg : Str → Option Value} {base : Heap} {C F B : Addr} {c : Nat → Addr} {FD : List (Str × V)}
local macro_rules | `(tactic| walk_at "rd") => `(tactic| simp only [tVar, tC, tOp, tUn, rU, tTest, tB, tNot, tNotV, tAnd, tOr, tAndV, tOrV, tIf, tIfS, tSeq, tNext, tRet, tRetN, tAsg, gName, gSub, tCall, tCB, tCons, tNil, tTup, tLst, tDrop, tChain, uAdd_ii, uAdd_ss, uAdd_rr, uAd_ii, uAd_ss, uAd_rr, uSl_r, uAll_1, uAny_1, uSum1_1, uIsI_t, uIsI_r, uApp_r, uExt_r, uClr_r, uIns_r, uPop0_r, tSl, tNoPart, tPart, tFld, sFld, tMeth, tMake, tBM, tBM0, tCGet, sDelL, tAug, ipI, tNever, uIs_rn, uIs_nn, id_eq, iZip, iEnum, iSeq, iRng1, iRng2, iRng3, tPairs, ↓tLc_box, ↓tFor_box, ↓tWhile_box, ↓tDisp_box, ↓LcGoal_box, uI_ii, uI0_ii, uEq_ii, uEq_ss, uEq_rr, uNe_ii, uNe_ss, uNe_rr, uIs_bb, uIn_r, uIx_ri, uIx_rs, uIx_si, uIsi_t, uLen_1, uII_2, uTuple_1, uList_1, uSetL_ri, tNoTest, blk, some_join, cx_K, cxOf_K, nox_K, bCx_K, L2.start, List.map_cons, List.map_nil, List.length_cons, List.length_nil, List.cons_append, List.nil_append, List.replicate, List.getElem?_cons_zero, List.getElem?_cons_succ, List.append_nil, Option.some.injEq, exists_eq_left', exists_eq_left, V.int.injEq, V.bl.injEq, V.str.injEq, V.ref.injEq, List.cons.injEq, and_true, true_and, List.set_cons_zero, List.set_cons_succ, Nat.reduceSub, Nat.reduceAdd])
local macro_rules | `(tactic| walk_at "rt") => `(tactic| simp only [tVar, tC, tOp, tUn, rU, tTest, tB, tNot, tNotV, tAnd, tOr, tAndV, tOrV, tIf, tIfS, tSeq, tNext, tRet, tRetN, tAsg, gName, gSub, tCall, tCB, tCons, tNil, tTup, tLst, tDrop, tChain, uAdd_ii, uAdd_ss, uAdd_rr, uAd_ii, uAd_ss, uAd_rr, uSl_r, uAll_1, uAny_1, uSum1_1, uIsI_t, uIsI_r, uApp_r, uExt_r, uClr_r, uIns_r, uPop0_r, tSl, tNoPart, tPart, tFld, sFld, tMeth, tMake, tBM, tBM0, tCGet, sDelL, tAug, ipI, tNever, uIs_rn, uIs_nn, id_eq, iZip, iEnum, iSeq, iRng1, iRng2, iRng3, tPairs, ↓tLc_box, ↓tFor_box, ↓tWhile_box, ↓tDisp_box, ↓LcGoal_box, uI_ii, uI0_ii, uEq_ii, uEq_ss, uEq_rr, uNe_ii, uNe_ss, uNe_rr, uIs_bb, uIn_r, uIx_ri, uIx_rs, uIx_si, uIsi_t, uLen_1, uII_2, uList_1, uSetL_ri, tNoTest, blk, some_join, cx_K, cxOf_K, nox_K, bCx_K, L2.start, List.map_cons, List.map_nil, List.length_cons, List.length_nil, List.cons_append, List.nil_append, List.replicate, List.getElem?_cons_zero, List.getElem?_cons_succ, List.append_nil, Option.some.injEq, exists_eq_left', exists_eq_left, V.int.injEq, V.bl.injEq, V.str.injEq, V.ref.injEq, List.cons.injEq, and_true, true_and, List.set_cons_zero, List.set_cons_succ, Nat.reduceSub, Nat.reduceAdd])
local macro_rules | `(tactic| walk_at "go") => `(tactic| repeat (first
  | walk_at "rd"
  | refine ix_t (by assumption) (by first | rfl | exact atI_nat (j := 0) rfl | exact atI_nat (j := 1) rfl | exact atI_nat (j := 2) rfl | exact atI_nat (j := 3) rfl) ?_
  | refine ix_l (by assumption) (by first | rfl | exact atI_nat (j := 0) rfl | exact atI_nat (j := 1) rfl | assumption) ?_
  | rw [if_pos (by decide +kernel)]
  | rw [if_neg (by decide +kernel)]))

abbrev s_law_no_deed : Stmt := top 52
def nd0 (m far : Int) : List DV := [DV.non, (DV.int 7), (DV.str "drop"), (DV.lst []), (DV.tup []), (DV.lst [(DV.str "drop")]), DV.dict, (DV.tup [(DV.str "drop"), (DV.int 0)]), (DV.tup [(DV.str "set"), (DV.int 0)]), (DV.tup [(DV.str "set"), (DV.int m), (DV.tup [DV.str "letter"])])]
def nd1 (m far : Int) : List DV := [(DV.tup [(DV.str "set"), (DV.int ((-(1)))), (DV.tup [DV.str "letter"])]), (DV.tup [(DV.str "set"), (DV.bl true), (DV.tup [DV.str "letter"])]), (DV.tup [(DV.str "set"), (DV.str "0"), (DV.tup [DV.str "letter"])]), (DV.tup [(DV.str "set"), (DV.int 0), (DV.tup [DV.str "letter"]), (DV.tup [DV.str "letter"])])]
def nd2 (m far : Int) : List DV := [(DV.tup [(DV.str "set"), (DV.tup [DV.str "letter"]), (DV.int 0)]), (DV.tup [(DV.str "set"), (DV.int 0), (DV.int 7)]), (DV.tup [(DV.str "add"), (DV.int ((m + far))), (DV.tup [DV.str "letter"])]), (DV.tup [(DV.str "add"), (DV.int 0), (DV.tup [(DV.str "number"), (DV.int m)])])]
def nd3 (m far : Int) : List DV := [(DV.tup [(DV.str "times"), (DV.int 0), (DV.lst [(DV.str "letter")])]), (DV.tup [(DV.str "times"), DV.non, (DV.tup [DV.str "letter"])]), (DV.tup [(DV.str "put")]), (DV.tup [(DV.str "put"), (DV.int 0), (DV.tup [DV.str "letter"])]), (DV.tup [(DV.str "put"), (DV.int 7)])]
def nd4 (m far : Int) : List DV := [(DV.tup [(DV.str "put"), (DV.tup [(DV.str "is"), (DV.bl true)])]), (DV.tup [(DV.str "send"), (DV.int ((-(1)))), (DV.tup [DV.str "letter"])]), (DV.tup [(DV.str "send"), (DV.int (((-(1)) - far))), (DV.tup [DV.str "letter"])]), (DV.tup [(DV.str "send"), (DV.bl true), (DV.tup [DV.str "letter"])])]
def nd5 (m far : Int) : List DV := [(DV.tup [(DV.str "send"), (DV.int 0)]), (DV.tup [(DV.str "send"), (DV.int 0), (DV.tup [(DV.str "way"), (DV.int 0)])]), (DV.tup [(DV.str "send"), (DV.str "0"), (DV.tup [DV.str "letter"])]), (DV.tup [(DV.str "say")]), (DV.tup [(DV.str "say"), (DV.tup [(DV.tup [DV.str "letter"])])])]
def nd6 (m far : Int) : List DV := [(DV.tup [(DV.str "say"), (DV.str "letter")]), (DV.tup [(DV.str "skip"), (DV.tup [DV.str "letter"]), (DV.tup [DV.str "letter"])]), (DV.tup [(DV.str "skip"), (DV.tup [DV.str "letter"]), (DV.tup [DV.str "letter"]), (DV.int 0)]), (DV.tup [(DV.str "skip"), (DV.tup [DV.str "letter"]), (DV.tup [DV.str "letter"]), (DV.int 25)])]
def nd7 (m far : Int) : List DV := [(DV.tup [(DV.str "skip"), (DV.tup [DV.str "letter"]), (DV.tup [DV.str "letter"]), (DV.int ((25 + far)))]), (DV.tup [(DV.str "skip"), (DV.tup [DV.str "letter"]), (DV.tup [DV.str "letter"]), (DV.int ((-(1))))]), (DV.tup [(DV.str "skip"), (DV.tup [DV.str "letter"]), (DV.tup [DV.str "letter"]), (DV.bl true)])]
def nd8 (m far : Int) : List DV := [(DV.tup [(DV.str "skip"), (DV.tup [DV.str "letter"]), (DV.tup [DV.str "letter"]), DV.non]), (DV.tup [(DV.str "skip"), (DV.tup [DV.str "letter"]), (DV.int 7), (DV.int 1)]), (DV.tup [(DV.str "skip"), (DV.int 7), (DV.tup [DV.str "letter"]), (DV.int 1)]), (DV.tup [(DV.str "skip"), (DV.tup [DV.str "letter"]), (DV.tup [DV.str "letter"]), (DV.int 1), (DV.int 1)])]
def nd9 (m far : Int) : List DV := [(DV.tup [(DV.str "Set"), (DV.int 0), (DV.tup [DV.str "letter"])]), (DV.tup [(DV.str "give"), (DV.tup [DV.str "letter"])]), (DV.tup [(DV.tup [(DV.str "drop")])]), (DV.tup [(DV.int 0)]), (DV.tup [(DV.lst [])]), (DV.tup [DV.dict, (DV.int 0)])]
theorem dd_set {m : Int} {r : List DV} : deedD m (.tup (.str "set" :: r)) = (decide (r.length = 2) && (partsD m r ["number", "value"]).all id) := by
  have e : formsT.lookup ("set" : Str) = some (["number", "value"] : List Str) := by decide +kernel
  rw [deedD, e]
  rfl
theorem dd_add {m : Int} {r : List DV} : deedD m (.tup (.str "add" :: r)) = (decide (r.length = 2) && (partsD m r ["number", "value"]).all id) := by
  have e : formsT.lookup ("add" : Str) = some (["number", "value"] : List Str) := by decide +kernel
  rw [deedD, e]
  rfl
theorem dd_times {m : Int} {r : List DV} : deedD m (.tup (.str "times" :: r)) = (decide (r.length = 2) && (partsD m r ["number", "value"]).all id) := by
  have e : formsT.lookup ("times" : Str) = some (["number", "value"] : List Str) := by decide +kernel
  rw [deedD, e]
  rfl
theorem dd_put {m : Int} {r : List DV} : deedD m (.tup (.str "put" :: r)) = (decide (r.length = 1) && (partsD m r ["value"]).all id) := by
  have e : formsT.lookup ("put" : Str) = some (["value"] : List Str) := by decide +kernel
  rw [deedD, e]
  rfl
theorem dd_drop {m : Int} {r : List DV} : deedD m (.tup (.str "drop" :: r)) = (decide (r.length = 0) && (partsD m r []).all id) := by
  have e : formsT.lookup ("drop" : Str) = some ([] : List Str) := by decide +kernel
  rw [deedD, e]
  rfl
theorem dd_send {m : Int} {r : List DV} : deedD m (.tup (.str "send" :: r)) = (decide (r.length = 2) && (partsD m r ["way", "value"]).all id) := by
  have e : formsT.lookup ("send" : Str) = some (["way", "value"] : List Str) := by decide +kernel
  rw [deedD, e]
  rfl
theorem dd_say {m : Int} {r : List DV} : deedD m (.tup (.str "say" :: r)) = (decide (r.length = 1) && (partsD m r ["value"]).all id) := by
  have e : formsT.lookup ("say" : Str) = some (["value"] : List Str) := by decide +kernel
  rw [deedD, e]
  rfl
theorem dd_skip {m : Int} {r : List DV} : deedD m (.tup (.str "skip" :: r)) = (decide (r.length = 3) && (partsD m r ["value", "value", "many"]).all id) := by
  have e : formsT.lookup ("skip" : Str) = some (["value", "value", "many"] : List Str) := by decide +kernel
  rw [deedD, e]
  rfl
theorem pd_value {m : Int} {d : DV} : partD "value" m d = valD m d := by rw [partD, if_pos rfl]
theorem pd_number {m : Int} {d : DV} : partD "number" m d = inRD 0 m d := by rw [partD, if_neg (by decide +kernel), if_pos rfl]
theorem pd_many {m : Int} {d : DV} : partD "many" m d = inRD 1 25 d := by rw [partD, if_neg (by decide +kernel), if_neg (by decide +kernel), if_pos rfl]
theorem pd_way {m : Int} {d : DV} : partD "way" m d = wayD d := by rw [partD, if_neg (by decide +kernel), if_neg (by decide +kernel), if_neg (by decide +kernel)]
theorem num_no {m i : Int} (h : ¬ (0 ≤ i ∧ i < m)) : valD m (.tup [.str "number", .int i]) = false := by
  show (if inV (.str "number") words3 = true then decide (([DV.int i] : List DV).length = 0) else if ("number" : Str) = "is" then isID (.int i) else (decide (("number" : Str) = "number") && (decide (0 ≤ i) && decide (i < m)))) = false
  rw [if_neg (by decide +kernel), if_neg (by decide +kernel)]
  simp only [Bool.and_eq_false_iff, decide_eq_false_iff_not]
  omega
theorem num_m {m : Int} : valD m (.tup [.str "number", .int m]) = false := num_no (by omega)
theorem nov_int {m i : Int} : valD m (.int i) = false := rfl
theorem nov_lst {m : Int} {l : List DV} : valD m (.lst l) = false := rfl
theorem nov_tt {m : Int} {l r : List DV} : valD m (.tup (.tup l :: r)) = false := rfl
theorem nov_str {m : Int} {s : Str} : valD m (.str s) = false := rfl
theorem nov_bl {m : Int} : valD m (.tup [.str "is", .bl true]) = false := rfl
theorem nov_way {m : Int} : valD m (.tup [.str "way", .int 0]) = false := rfl
theorem nd_len {m far : Int} : (nd0 m far ++ nd1 m far ++ nd2 m far ++ nd3 m far ++ nd4 m far ++ nd5 m far ++ nd6 m far ++ nd7 m far ++ nd8 m far ++ nd9 m far).length = 49 := rfl
theorem nd_all {m far : Int} (hm : 1 ≤ m) (hf : 0 ≤ far) : ∀ d ∈ nd0 m far ++ nd1 m far ++ nd2 m far ++ nd3 m far ++ nd4 m far ++ nd5 m far ++ nd6 m far ++ nd7 m far ++ nd8 m far ++ nd9 m far, deedD m d = false := by
  intro d hd
  simp only [nd0, nd1, nd2, nd3, nd4, nd5, nd6, nd7, nd8, nd9, List.cons_append, List.nil_append, List.mem_cons, List.not_mem_nil, or_false] at hd
  rcases hd with rfl | rfl | rfl | rfl | rfl | rfl | rfl | rfl | rfl | rfl | rfl | rfl | rfl | rfl | rfl | rfl | rfl | rfl | rfl | rfl | rfl | rfl | rfl | rfl | rfl | rfl | rfl | rfl | rfl | rfl | rfl | rfl | rfl | rfl | rfl | rfl | rfl | rfl | rfl | rfl | rfl | rfl | rfl | rfl | rfl | rfl | rfl | rfl | rfl <;> first
    | rfl
    | (simp only [dd_set, dd_add, dd_times, dd_put, dd_drop, dd_send, dd_say, dd_skip, partsD, pd_value, pd_number, pd_many, pd_way, num_m, nov_int, nov_lst, nov_tt, nov_str, nov_bl, nov_way, inRD, wayD, List.all_cons, List.all_nil, id_eq, Bool.and_false, Bool.false_and, List.length_cons, List.length_nil]; done)
    | (simp only [dd_set, dd_add, dd_times, dd_put, dd_drop, dd_send, dd_say, dd_skip, partsD, pd_value, pd_number, pd_many, pd_way, num_m, nov_int, nov_lst, nov_tt, nov_str, nov_bl, nov_way, inRD, wayD, List.all_cons, List.all_nil, id_eq, Bool.and_false, Bool.false_and, List.length_cons, List.length_nil, Bool.and_eq_false_iff, decide_eq_false_iff_not]; omega)
def sp_nod : Sp := fun vs H Q _ => ∃ z m : Int, vs = [.int z, .int m] ∧ 1 ≤ m ∧ ∀ x d H', Same H H' → HD H' 3 x d → deedD m d = false → Q x H'
theorem sc_law_no_deed : FnScope ["_law_cell", "_law_many", "_law_far", "_law_v", "_law_some"] ["_law_cell", "_law_many"] (defScope s_law_no_deed) := ⟨rfl, rfl, rfl, by decide +kernel, rfl, by decide +kernel, by decide +kernel⟩
theorem d_law_no_deed (D : Top1 K mg "_law_no_deed" "_law_no_deed" s_law_no_deed ["_law_cell", "_law_many"]) (T : Tx K mg C F FD) (TX : XTx K mg B c) : Def P w K mg base "_law_no_deed" 1 ["_law_cell", "_law_many"] sp_nod := by
  have sc := sc_law_no_deed
  refine D.ok sc (fun vs H Q E h => ?_) (fun f cdv A outer s H vs Q E hr h => ?_)
  · obtain ⟨z, m, rfl, hm1, q⟩ := h
    rfl
  · obtain ⟨z, m, rfl, hm1, q⟩ := h
    have hu := hr.units
    refine ⟨_, (pss_cons (ps_st (i := 2) sc.nd rfl (by first | exact Or.inl rfl | exact Or.inr rfl) (pe_op op_uMod (pe_op op_uFdiv (pv 0) pe_int) (pe_op op_uPow pe_int pe_int)))
      (pss_cons (ps_st (i := 3) sc.nd rfl (by first | exact Or.inl rfl | exact Or.inr rfl) (pe_tup (pa_c pe_str pa_nil)))
      (pss_cons (ps_st (i := 4) sc.nd rfl (by first | exact Or.inl rfl | exact Or.inr rfl) (pe_lst (pa_c pe_non (pa_c pe_int (pa_c pe_str (pa_c (pe_lst pa_nil) (pa_c (pe_tup pa_nil) (pa_c (pe_lst (pa_c pe_str pa_nil)) (pa_c pe_dnewK (pa_c (pe_tup (pa_c pe_str (pa_c pe_int pa_nil))) (pa_c (pe_tup (pa_c pe_str (pa_c pe_int pa_nil))) (pa_c (pe_tup (pa_c pe_str (pa_c (pv 1) (pa_c (pv 3) pa_nil)))) pa_nil))))))))))))
      (pss_cons (ps_st (i := 4) sc.nd rfl (by first | exact Or.inl rfl | exact Or.inr rfl) (pe_op op_uAd (pv 4) (pe_lst (pa_c (pe_tup (pa_c pe_str (pa_c (pe_un un_neg pe_int) (pa_c (pv 3) pa_nil)))) (pa_c (pe_tup (pa_c pe_str (pa_c pe_bl (pa_c (pv 3) pa_nil)))) (pa_c (pe_tup (pa_c pe_str (pa_c pe_str (pa_c (pv 3) pa_nil)))) (pa_c (pe_tup (pa_c pe_str (pa_c pe_int (pa_c (pv 3) (pa_c (pv 3) pa_nil))))) pa_nil)))))))
      (pss_cons (ps_st (i := 4) sc.nd rfl (by first | exact Or.inl rfl | exact Or.inr rfl) (pe_op op_uAd (pv 4) (pe_lst (pa_c (pe_tup (pa_c pe_str (pa_c (pv 3) (pa_c pe_int pa_nil)))) (pa_c (pe_tup (pa_c pe_str (pa_c pe_int (pa_c pe_int pa_nil)))) (pa_c (pe_tup (pa_c pe_str (pa_c (pe_op op_uAd (pv 1) (pv 2)) (pa_c (pv 3) pa_nil)))) (pa_c (pe_tup (pa_c pe_str (pa_c pe_int (pa_c (pe_tup (pa_c pe_str (pa_c (pv 1) pa_nil))) pa_nil)))) pa_nil)))))))
      (pss_cons (ps_st (i := 4) sc.nd rfl (by first | exact Or.inl rfl | exact Or.inr rfl) (pe_op op_uAd (pv 4) (pe_lst (pa_c (pe_tup (pa_c pe_str (pa_c pe_int (pa_c (pe_lst (pa_c pe_str pa_nil)) pa_nil)))) (pa_c (pe_tup (pa_c pe_str (pa_c pe_non (pa_c (pv 3) pa_nil)))) (pa_c (pe_tup (pa_c pe_str pa_nil)) (pa_c (pe_tup (pa_c pe_str (pa_c pe_int (pa_c (pv 3) pa_nil)))) (pa_c (pe_tup (pa_c pe_str (pa_c pe_int pa_nil))) pa_nil))))))))
      (pss_cons (ps_st (i := 4) sc.nd rfl (by first | exact Or.inl rfl | exact Or.inr rfl) (pe_op op_uAd (pv 4) (pe_lst (pa_c (pe_tup (pa_c pe_str (pa_c (pe_tup (pa_c pe_str (pa_c pe_bl pa_nil))) pa_nil))) (pa_c (pe_tup (pa_c pe_str (pa_c (pe_un un_neg pe_int) (pa_c (pv 3) pa_nil)))) (pa_c (pe_tup (pa_c pe_str (pa_c (pe_op op_uSub (pe_un un_neg pe_int) (pv 2)) (pa_c (pv 3) pa_nil)))) (pa_c (pe_tup (pa_c pe_str (pa_c pe_bl (pa_c (pv 3) pa_nil)))) pa_nil)))))))
      (pss_cons (ps_st (i := 4) sc.nd rfl (by first | exact Or.inl rfl | exact Or.inr rfl) (pe_op op_uAd (pv 4) (pe_lst (pa_c (pe_tup (pa_c pe_str (pa_c pe_int pa_nil))) (pa_c (pe_tup (pa_c pe_str (pa_c pe_int (pa_c (pe_tup (pa_c pe_str (pa_c pe_int pa_nil))) pa_nil)))) (pa_c (pe_tup (pa_c pe_str (pa_c pe_str (pa_c (pv 3) pa_nil)))) (pa_c (pe_tup (pa_c pe_str pa_nil)) (pa_c (pe_tup (pa_c pe_str (pa_c (pe_tup (pa_c (pv 3) pa_nil)) pa_nil))) pa_nil))))))))
      (pss_cons (ps_st (i := 4) sc.nd rfl (by first | exact Or.inl rfl | exact Or.inr rfl) (pe_op op_uAd (pv 4) (pe_lst (pa_c (pe_tup (pa_c pe_str (pa_c pe_str pa_nil))) (pa_c (pe_tup (pa_c pe_str (pa_c (pv 3) (pa_c (pv 3) pa_nil)))) (pa_c (pe_tup (pa_c pe_str (pa_c (pv 3) (pa_c (pv 3) (pa_c pe_int pa_nil))))) (pa_c (pe_tup (pa_c pe_str (pa_c (pv 3) (pa_c (pv 3) (pa_c pe_int pa_nil))))) pa_nil)))))))
      (pss_cons (ps_st (i := 4) sc.nd rfl (by first | exact Or.inl rfl | exact Or.inr rfl) (pe_op op_uAd (pv 4) (pe_lst (pa_c (pe_tup (pa_c pe_str (pa_c (pv 3) (pa_c (pv 3) (pa_c (pe_op op_uAd pe_int (pv 2)) pa_nil))))) (pa_c (pe_tup (pa_c pe_str (pa_c (pv 3) (pa_c (pv 3) (pa_c (pe_un un_neg pe_int) pa_nil))))) (pa_c (pe_tup (pa_c pe_str (pa_c (pv 3) (pa_c (pv 3) (pa_c pe_bl pa_nil))))) pa_nil))))))
      (pss_cons (ps_st (i := 4) sc.nd rfl (by first | exact Or.inl rfl | exact Or.inr rfl) (pe_op op_uAd (pv 4) (pe_lst (pa_c (pe_tup (pa_c pe_str (pa_c (pv 3) (pa_c (pv 3) (pa_c pe_non pa_nil))))) (pa_c (pe_tup (pa_c pe_str (pa_c (pv 3) (pa_c pe_int (pa_c pe_int pa_nil))))) (pa_c (pe_tup (pa_c pe_str (pa_c pe_int (pa_c (pv 3) (pa_c pe_int pa_nil))))) (pa_c (pe_tup (pa_c pe_str (pa_c (pv 3) (pa_c (pv 3) (pa_c pe_int (pa_c pe_int pa_nil)))))) pa_nil)))))))
      (pss_cons (ps_st (i := 4) sc.nd rfl (by first | exact Or.inl rfl | exact Or.inr rfl) (pe_op op_uAd (pv 4) (pe_lst (pa_c (pe_tup (pa_c pe_str (pa_c pe_int (pa_c (pv 3) pa_nil)))) (pa_c (pe_tup (pa_c pe_str (pa_c (pv 3) pa_nil))) (pa_c (pe_tup (pa_c (pe_tup (pa_c pe_str pa_nil)) pa_nil)) (pa_c (pe_tup (pa_c pe_int pa_nil)) (pa_c (pe_tup (pa_c (pe_lst pa_nil) pa_nil)) (pa_c (pe_tup (pa_c pe_dnewK (pa_c pe_int pa_nil))) pa_nil)))))))))
      (pss_one (ps_ret (pe_ixu hu (pv 4) (pe_op op_uMod (pv 0) pe_int)))))))))))))))), ?_⟩
    have e49 : CDiv2 z 49 := ⟨by decide, by decide +kernel⟩
    refine ⟨_, rfl, e49, cpow59, pos59, ?_⟩
    have hf : 0 ≤ z / 49 % 10 ^ Int.toNat 59 := Int.emod_nonneg _ (by have := pos59; omega)
    try dsimp only [gName]
    refine seq_asg ?_
    refine (d1_tup (n := 0) (d1s_cons d1_str d1s_nil)) H _ (Same.refl _) fun v H0 s0 hv => ?_
    obtain ⟨av, rfl, hvk⟩ : ∃ av, v = .ref av ∧ ∀ k, HD H0 (k + 1) v (.tup [.str "letter"]) := by
      cases hv with
      | @tup _ a xs _ e l i => exact ⟨a, rfl, fun k => .tup e l fun j u d hu hd => by
          match j, hd with
          | 0, hd => cases hd; cases i 0 u _ hu rfl; exact .str _⟩
    try dsimp only [gName]
    refine seq_asg ?_
    refine d1_doL 3 (d1s_cons d1_non (d1s_cons d1_int (d1s_cons d1_str (d1s_cons (d1_lst d1s_nil) (d1s_cons (d1_tup d1s_nil) (d1s_cons (d1_lst (d1s_cons d1_str d1s_nil)) (d1s_cons d1_dict (d1s_cons (d1_tup (d1s_cons d1_str (d1s_cons d1_int d1s_nil))) (d1s_cons (d1_tup (d1s_cons d1_str (d1s_cons d1_int d1s_nil))) (d1s_cons (d1_tup (d1s_cons d1_str (d1s_cons (d1_var (i := 1) rfl) (d1s_cons (d1_ref (i := 3) rfl (hvk _)) d1s_nil)))) d1s_nil)))))))))) (by simp only [List.length_cons, List.length_nil]; decide) fun x0 H1 t1 d0 => ?_
    try dsimp only [gName]
    refine seq_asg ?_
    refine d1_moreL 3 (i := 4) t1 (d1s_cons (d1_tup (d1s_cons d1_str (d1s_cons (d1_neg d1_int) (d1s_cons (d1_ref (i := 3) rfl (hvk _)) d1s_nil)))) (d1s_cons (d1_tup (d1s_cons d1_str (d1s_cons d1_bl (d1s_cons (d1_ref (i := 3) rfl (hvk _)) d1s_nil)))) (d1s_cons (d1_tup (d1s_cons d1_str (d1s_cons d1_str (d1s_cons (d1_ref (i := 3) rfl (hvk _)) d1s_nil)))) (d1s_cons (d1_tup (d1s_cons d1_str (d1s_cons d1_int (d1s_cons (d1_ref (i := 3) rfl (hvk _)) (d1s_cons (d1_ref (i := 3) rfl (hvk _)) d1s_nil))))) d1s_nil)))) (by simp only [List.length_cons, List.length_nil]; decide) rfl d0 (by simp only [List.length_append, List.length_cons, List.length_nil]; decide) fun x1 H2 u1 d1 => ?_
    have t2 := t1.trans u1
    try dsimp only [gName]
    refine seq_asg ?_
    refine d1_moreL 3 (i := 4) t2 (d1s_cons (d1_tup (d1s_cons d1_str (d1s_cons (d1_ref (i := 3) rfl (hvk _)) (d1s_cons d1_int d1s_nil)))) (d1s_cons (d1_tup (d1s_cons d1_str (d1s_cons d1_int (d1s_cons d1_int d1s_nil)))) (d1s_cons (d1_tup (d1s_cons d1_str (d1s_cons (d1_ad (d1_var (i := 1) rfl) (d1_var (i := 2) rfl)) (d1s_cons (d1_ref (i := 3) rfl (hvk _)) d1s_nil)))) (d1s_cons (d1_tup (d1s_cons d1_str (d1s_cons d1_int (d1s_cons (d1_tup (d1s_cons d1_str (d1s_cons (d1_var (i := 1) rfl) d1s_nil))) d1s_nil)))) d1s_nil)))) (by simp only [List.length_cons, List.length_nil]; decide) rfl d1 (by simp only [List.length_append, List.length_cons, List.length_nil]; decide) fun x2 H3 u2 d2 => ?_
    have t3 := t2.trans u2
    try dsimp only [gName]
    refine seq_asg ?_
    refine d1_moreL 3 (i := 4) t3 (d1s_cons (d1_tup (d1s_cons d1_str (d1s_cons d1_int (d1s_cons (d1_lst (d1s_cons d1_str d1s_nil)) d1s_nil)))) (d1s_cons (d1_tup (d1s_cons d1_str (d1s_cons d1_non (d1s_cons (d1_ref (i := 3) rfl (hvk _)) d1s_nil)))) (d1s_cons (d1_tup (d1s_cons d1_str d1s_nil)) (d1s_cons (d1_tup (d1s_cons d1_str (d1s_cons d1_int (d1s_cons (d1_ref (i := 3) rfl (hvk _)) d1s_nil)))) (d1s_cons (d1_tup (d1s_cons d1_str (d1s_cons d1_int d1s_nil))) d1s_nil))))) (by simp only [List.length_cons, List.length_nil]; decide) rfl d2 (by simp only [List.length_append, List.length_cons, List.length_nil]; decide) fun x3 H4 u3 d3 => ?_
    have t4 := t3.trans u3
    try dsimp only [gName]
    refine seq_asg ?_
    refine d1_moreL 3 (i := 4) t4 (d1s_cons (d1_tup (d1s_cons d1_str (d1s_cons (d1_tup (d1s_cons d1_str (d1s_cons d1_bl d1s_nil))) d1s_nil))) (d1s_cons (d1_tup (d1s_cons d1_str (d1s_cons (d1_neg d1_int) (d1s_cons (d1_ref (i := 3) rfl (hvk _)) d1s_nil)))) (d1s_cons (d1_tup (d1s_cons d1_str (d1s_cons (d1_sub (d1_neg d1_int) (d1_var (i := 2) rfl)) (d1s_cons (d1_ref (i := 3) rfl (hvk _)) d1s_nil)))) (d1s_cons (d1_tup (d1s_cons d1_str (d1s_cons d1_bl (d1s_cons (d1_ref (i := 3) rfl (hvk _)) d1s_nil)))) d1s_nil)))) (by simp only [List.length_cons, List.length_nil]; decide) rfl d3 (by simp only [List.length_append, List.length_cons, List.length_nil]; decide) fun x4 H5 u4 d4 => ?_
    have t5 := t4.trans u4
    try dsimp only [gName]
    refine seq_asg ?_
    refine d1_moreL 3 (i := 4) t5 (d1s_cons (d1_tup (d1s_cons d1_str (d1s_cons d1_int d1s_nil))) (d1s_cons (d1_tup (d1s_cons d1_str (d1s_cons d1_int (d1s_cons (d1_tup (d1s_cons d1_str (d1s_cons d1_int d1s_nil))) d1s_nil)))) (d1s_cons (d1_tup (d1s_cons d1_str (d1s_cons d1_str (d1s_cons (d1_ref (i := 3) rfl (hvk _)) d1s_nil)))) (d1s_cons (d1_tup (d1s_cons d1_str d1s_nil)) (d1s_cons (d1_tup (d1s_cons d1_str (d1s_cons (d1_tup (d1s_cons (d1_ref (i := 3) rfl (hvk _)) d1s_nil)) d1s_nil))) d1s_nil))))) (by simp only [List.length_cons, List.length_nil]; decide) rfl d4 (by simp only [List.length_append, List.length_cons, List.length_nil]; decide) fun x5 H6 u5 d5 => ?_
    have t6 := t5.trans u5
    try dsimp only [gName]
    refine seq_asg ?_
    refine d1_moreL 3 (i := 4) t6 (d1s_cons (d1_tup (d1s_cons d1_str (d1s_cons d1_str d1s_nil))) (d1s_cons (d1_tup (d1s_cons d1_str (d1s_cons (d1_ref (i := 3) rfl (hvk _)) (d1s_cons (d1_ref (i := 3) rfl (hvk _)) d1s_nil)))) (d1s_cons (d1_tup (d1s_cons d1_str (d1s_cons (d1_ref (i := 3) rfl (hvk _)) (d1s_cons (d1_ref (i := 3) rfl (hvk _)) (d1s_cons d1_int d1s_nil))))) (d1s_cons (d1_tup (d1s_cons d1_str (d1s_cons (d1_ref (i := 3) rfl (hvk _)) (d1s_cons (d1_ref (i := 3) rfl (hvk _)) (d1s_cons d1_int d1s_nil))))) d1s_nil)))) (by simp only [List.length_cons, List.length_nil]; decide) rfl d5 (by simp only [List.length_append, List.length_cons, List.length_nil]; decide) fun x6 H7 u6 d6 => ?_
    have t7 := t6.trans u6
    try dsimp only [gName]
    refine seq_asg ?_
    refine d1_moreL 3 (i := 4) t7 (d1s_cons (d1_tup (d1s_cons d1_str (d1s_cons (d1_ref (i := 3) rfl (hvk _)) (d1s_cons (d1_ref (i := 3) rfl (hvk _)) (d1s_cons (d1_ad d1_int (d1_var (i := 2) rfl)) d1s_nil))))) (d1s_cons (d1_tup (d1s_cons d1_str (d1s_cons (d1_ref (i := 3) rfl (hvk _)) (d1s_cons (d1_ref (i := 3) rfl (hvk _)) (d1s_cons (d1_neg d1_int) d1s_nil))))) (d1s_cons (d1_tup (d1s_cons d1_str (d1s_cons (d1_ref (i := 3) rfl (hvk _)) (d1s_cons (d1_ref (i := 3) rfl (hvk _)) (d1s_cons d1_bl d1s_nil))))) d1s_nil))) (by simp only [List.length_cons, List.length_nil]; decide) rfl d6 (by simp only [List.length_append, List.length_cons, List.length_nil]; decide) fun x7 H8 u7 d7 => ?_
    have t8 := t7.trans u7
    try dsimp only [gName]
    refine seq_asg ?_
    refine d1_moreL 3 (i := 4) t8 (d1s_cons (d1_tup (d1s_cons d1_str (d1s_cons (d1_ref (i := 3) rfl (hvk _)) (d1s_cons (d1_ref (i := 3) rfl (hvk _)) (d1s_cons d1_non d1s_nil))))) (d1s_cons (d1_tup (d1s_cons d1_str (d1s_cons (d1_ref (i := 3) rfl (hvk _)) (d1s_cons d1_int (d1s_cons d1_int d1s_nil))))) (d1s_cons (d1_tup (d1s_cons d1_str (d1s_cons d1_int (d1s_cons (d1_ref (i := 3) rfl (hvk _)) (d1s_cons d1_int d1s_nil))))) (d1s_cons (d1_tup (d1s_cons d1_str (d1s_cons (d1_ref (i := 3) rfl (hvk _)) (d1s_cons (d1_ref (i := 3) rfl (hvk _)) (d1s_cons d1_int (d1s_cons d1_int d1s_nil)))))) d1s_nil)))) (by simp only [List.length_cons, List.length_nil]; decide) rfl d7 (by simp only [List.length_append, List.length_cons, List.length_nil]; decide) fun x8 H9 u8 d8 => ?_
    have t9 := t8.trans u8
    try dsimp only [gName]
    refine seq_asg ?_
    refine d1_moreL 3 (i := 4) t9 (d1s_cons (d1_tup (d1s_cons d1_str (d1s_cons d1_int (d1s_cons (d1_ref (i := 3) rfl (hvk _)) d1s_nil)))) (d1s_cons (d1_tup (d1s_cons d1_str (d1s_cons (d1_ref (i := 3) rfl (hvk _)) d1s_nil))) (d1s_cons (d1_tup (d1s_cons (d1_tup (d1s_cons d1_str d1s_nil)) d1s_nil)) (d1s_cons (d1_tup (d1s_cons d1_int d1s_nil)) (d1s_cons (d1_tup (d1s_cons (d1_lst d1s_nil) d1s_nil)) (d1s_cons (d1_tup (d1s_cons d1_dict (d1s_cons d1_int d1s_nil))) d1s_nil)))))) (by simp only [List.length_cons, List.length_nil]; decide) rfl d8 (by simp only [List.length_append, List.length_cons, List.length_nil]; decide) fun x9 H10 u9 d9 => ?_
    have t10 := t9.trans u9
    try dsimp only [gName]
    try walk_at "rd"
    refine ⟨by decide, ?_⟩
    have hz0 : 0 ≤ z % 49 := Int.emod_nonneg _ (by decide)
    have hz1 : z % 49 < 49 := Int.emod_lt_of_pos _ (by decide)
    obtain ⟨j, hj⟩ := Int.eq_ofNat_of_zero_le hz0
    replace d9 : HD H10 4 x9 (.lst (nd0 m (z / 49 % 10 ^ Int.toNat 59) ++ nd1 m (z / 49 % 10 ^ Int.toNat 59) ++ nd2 m (z / 49 % 10 ^ Int.toNat 59) ++ nd3 m (z / 49 % 10 ^ Int.toNat 59) ++ nd4 m (z / 49 % 10 ^ Int.toNat 59) ++ nd5 m (z / 49 % 10 ^ Int.toNat 59) ++ nd6 m (z / 49 % 10 ^ Int.toNat 59) ++ nd7 m (z / 49 % 10 ^ Int.toNat 59) ++ nd8 m (z / 49 % 10 ^ Int.toNat 59) ++ nd9 m (z / 49 % 10 ^ Int.toNat 59))) := d9
    rw [hj]
    cases d9 with
    | @lst _ a xs _ ha la da =>
      rw [nd_len] at la
      have hjx : j < xs.length := by omega
      have hjd : j < (nd0 m (z / 49 % 10 ^ Int.toNat 59) ++ nd1 m (z / 49 % 10 ^ Int.toNat 59) ++ nd2 m (z / 49 % 10 ^ Int.toNat 59) ++ nd3 m (z / 49 % 10 ^ Int.toNat 59) ++ nd4 m (z / 49 % 10 ^ Int.toNat 59) ++ nd5 m (z / 49 % 10 ^ Int.toNat 59) ++ nd6 m (z / 49 % 10 ^ Int.toNat 59) ++ nd7 m (z / 49 % 10 ^ Int.toNat 59) ++ nd8 m (z / 49 % 10 ^ Int.toNat 59) ++ nd9 m (z / 49 % 10 ^ Int.toNat 59)).length := by rw [nd_len]; omega
      try walk_at "rd"
      refine ⟨xs, xs[j], .inl (SqL.of ha), atI_nat (List.getElem?_eq_getElem hjx), ?_⟩
      exact q _ _ _ (s0.trans t10) (da j _ _ (List.getElem?_eq_getElem hjx) (List.getElem?_eq_getElem hjd)) (nd_all hm1 hf _ (List.getElem_mem hjd))
end
end K14

set_option Elab.async false
set_option linter.all false
set_option maxRecDepth 100000
set_option maxHeartbeats 4000000
namespace K14
open PySem L2 DD
section
variable {P : Program} {w : World} {K : PySem.W.Frag} {mg : Str → Option Value} {base : Heap} {C F B : Addr} {c : Nat → Addr} {FD : List (Str × V)}
local macro_rules | `(tactic| walk_at "rd") => `(tactic| simp only [tVar, tC, tOp, tUn, rU, tTest, tB, tNot, tNotV, tAnd, tOr, tAndV, tOrV, tIf, tIfS, tSeq, tNext, tRet, tRetN, tAsg, gName, gSub, tCall, tCB, tCons, tNil, tTup, tLst, tDrop, tChain, uAdd_ii, uAdd_ss, uAdd_rr, uAd_ii, uAd_ss, uAd_rr, uSl_r, uAll_1, uAny_1, uSum1_1, uIsI_t, uIsI_r, uApp_r, uExt_r, uClr_r, uIns_r, uPop0_r, tSl, tNoPart, tPart, tFld, sFld, tMeth, tMake, tBM, tBM0, tCGet, sDelL, tAug, ipI, tNever, uIs_rn, uIs_nn, id_eq, iZip, iEnum, iSeq, iRng1, iRng2, iRng3, tPairs, ↓tLc_box, ↓tFor_box, ↓tWhile_box, ↓tDisp_box, ↓LcGoal_box, uI_ii, uI0_ii, uEq_ii, uEq_ss, uEq_rr, uNe_ii, uNe_ss, uNe_rr, uIs_bb, uIn_r, uIx_ri, uIx_rs, uIx_si, uIsi_t, uLen_1, uII_2, uTuple_1, uList_1, uSetL_ri, tNoTest, blk, some_join, cx_K, cxOf_K, nox_K, bCx_K, L2.start, List.map_cons, List.map_nil, List.length_cons, List.length_nil, List.cons_append, List.nil_append, List.replicate, List.getElem?_cons_zero, List.getElem?_cons_succ, List.append_nil, Option.some.injEq, exists_eq_left', exists_eq_left, V.int.injEq, V.bl.injEq, V.str.injEq, V.ref.injEq, List.cons.injEq, and_true, true_and, List.set_cons_zero, List.set_cons_succ, Nat.reduceSub, Nat.reduceAdd])
local macro_rules | `(tactic| walk_at "rt") => `(tactic| simp only [tVar, tC, tOp, tUn, rU, tTest, tB, tNot, tNotV, tAnd, tOr, tAndV, tOrV, tIf, tIfS, tSeq, tNext, tRet, tRetN, tAsg, gName, gSub, tCall, tCB, tCons, tNil, tTup, tLst, tDrop, tChain, uAdd_ii, uAdd_ss, uAdd_rr, uAd_ii, uAd_ss, uAd_rr, uSl_r, uAll_1, uAny_1, uSum1_1, uIsI_t, uIsI_r, uApp_r, uExt_r, uClr_r, uIns_r, uPop0_r, tSl, tNoPart, tPart, tFld, sFld, tMeth, tMake, tBM, tBM0, tCGet, sDelL, tAug, ipI, tNever, uIs_rn, uIs_nn, id_eq, iZip, iEnum, iSeq, iRng1, iRng2, iRng3, tPairs, ↓tLc_box, ↓tFor_box, ↓tWhile_box, ↓tDisp_box, ↓LcGoal_box, uI_ii, uI0_ii, uEq_ii, uEq_ss, uEq_rr, uNe_ii, uNe_ss, uNe_rr, uIs_bb, uIn_r, uIx_ri, uIx_rs, uIx_si, uIsi_t, uLen_1, uII_2, uList_1, uSetL_ri, tNoTest, blk, some_join, cx_K, cxOf_K, nox_K, bCx_K, L2.start, List.map_cons, List.map_nil, List.length_cons, List.length_nil, List.cons_append, List.nil_append, List.replicate, List.getElem?_cons_zero, List.getElem?_cons_succ, List.append_nil, Option.some.injEq, exists_eq_left', exists_eq_left, V.int.injEq, V.bl.injEq, V.str.injEq, V.ref.injEq, List.cons.injEq, and_true, true_and, List.set_cons_zero, List.set_cons_succ, Nat.reduceSub, Nat.reduceAdd])
local macro_rules | `(tactic| walk_at "go") => `(tactic| repeat (first
  | walk_at "rd"
  | refine ix_t (by assumption) (by first | rfl | exact atI_nat (j := 0) rfl | exact atI_nat (j := 1) rfl | exact atI_nat (j := 2) rfl | exact atI_nat (j := 3) rfl) ?_
  | refine ix_l (by assumption) (by first | rfl | exact atI_nat (j := 0) rfl | exact atI_nat (j := 1) rfl | assumption) ?_
  | rw [if_pos (by decide +kernel)]
  | rw [if_neg (by decide +kernel)]))

abbrev s_law_no_row : Stmt := top 51
theorem cpow48 : CPow 10 48 := ⟨by decide, by decide, by decide +kernel⟩
theorem pos48 : (0 : Int) < 10 ^ Int.toNat 48 := by decide +kernel
def norL (M far : Int) : List DV := [(DV.int M), (DV.int ((M + far))), (DV.int ((-(1)))), (DV.int (((-(1)) - far))), (DV.bl true), (DV.bl false), DV.non, (DV.str "0"), (DV.lst [(DV.int 0)]), (DV.tup [(DV.int 0)]), DV.dict]
theorem nor_all {M far : Int} (hf : 0 ≤ far) : ∀ d ∈ norL M far, inRD 0 M d = false := by
  intro d hd
  simp only [norL, List.mem_cons, List.not_mem_nil, or_false] at hd
  rcases hd with rfl | rfl | rfl | rfl | rfl | rfl | rfl | rfl | rfl | rfl | rfl <;> first
    | rfl
    | (simp only [inRD, Bool.and_eq_false_iff, decide_eq_false_iff_not]; omega)
theorem set_bad {lo hi M : Int} {ms : List DV} {j : Nat} {d : DV} (h : inRD 0 M d = false) (hj : j < ms.length) : countedD lo hi M (.lst (ms.set j d)) = false := by
  rw [countedD, allD]
  have e : ((ms.set j d).map (inRD 0 M)).all id = false := by
    rw [List.all_eq_false]
    exact ⟨false, List.mem_map.mpr ⟨d, List.mem_iff_getElem?.mpr ⟨j, by rw [List.getElem?_set_self hj]⟩, h⟩, by simp⟩
  rw [e, Bool.and_false]
theorem hd_ints {H : Hp} {n : Nat} {a : Addr} {ns : List Int} (e : H a = some (.lst (ns.map V.int))) : HD H (n + 1) (.ref a) (.lst (ns.map DV.int)) :=
  .lst e (by simp) fun i u d hu hd => by
    rw [List.getElem?_map] at hu hd
    cases h : ns[i]? with
    | none => rw [h] at hu; cases hu
    | some z => rw [h] at hu hd; cases hu; cases hd; exact .int z
def sp_nor : Sp := fun vs H Q _ => ∃ (z : Int) (g : Addr) (lo hi M : Int) (ns : List Int), vs = [.int z, .ref g, .int lo, .int hi, .int M] ∧ H g = some (.lst (ns.map V.int)) ∧ (lo = 1 ∧ 1 ≤ ns.length ∨ lo = 0) ∧ 1 ≤ hi ∧ hi ≤ 12 ∧ (ns.length : Int) ≤ hi ∧ ∀ x d H', Same H H' → HD H' 2 x d → countedD lo hi M d = false → Q x H'
theorem sc_law_no_row : FnScope ["_law_cell", "_law_good", "_law_least", "_law_most", "_law_modulus_here", "_law_at_here", "_law_far", "_law_rows", "_law_some", "_law_ill", "_law_found"] ["_law_cell", "_law_good", "_law_least", "_law_most", "_law_modulus_here"] (defScope s_law_no_row) := ⟨rfl, rfl, rfl, by decide +kernel, rfl, by decide +kernel, by decide +kernel⟩
theorem d_law_no_row (D : Top1 K mg "_law_no_row" "_law_no_row" s_law_no_row ["_law_cell", "_law_good", "_law_least", "_law_most", "_law_modulus_here"]) (T : Tx K mg C F FD) (TX : XTx K mg B c) : Def P w K mg base "_law_no_row" 1 ["_law_cell", "_law_good", "_law_least", "_law_most", "_law_modulus_here"] sp_nor := by
  have sc := sc_law_no_row
  refine D.ok sc (fun vs H Q E h => ?_) (fun f cdv A outer s H vs Q E hr h => ?_)
  · obtain ⟨z, g, lo, hi, M, ns, rfl, hg, hlo, hhi1, hhi12, hlen, q⟩ := h
    rfl
  · obtain ⟨z, g, lo, hi, M, ns, rfl, hg, hlo, hhi1, hhi12, hlen, q⟩ := h
    have hu := hr.units
    refine ⟨_, (pss_cons (ps_st (i := 5) sc.nd rfl (by first | exact Or.inl rfl | exact Or.inr rfl) (pe_op op_uMod (pe_op op_uFdiv (pv 0) pe_int) (pe_cB (call_umax rfl) rfl T.b_max PyProof.Rows.boot_max (pa_c pe_int (pa_c (pe_cB call_ulen rfl T.b_len PySem.boot_len (pa_c (pv 1) pa_nil)) pa_nil)))))
      (pss_cons (ps_st (i := 6) sc.nd rfl (by first | exact Or.inl rfl | exact Or.inr rfl) (pe_op op_uMod (pe_op op_uFdiv (pv 0) pe_int) (pe_op op_uPow pe_int pe_int)))
      (pss_cons (ps_st (i := 7) sc.nd rfl (by first | exact Or.inl rfl | exact Or.inr rfl) (pe_lst (pa_c pe_non (pa_c pe_int (pa_c pe_str (pa_c pe_str (pa_c pe_dnewK (pa_c pe_bl (pa_c (pe_op op_uAd (pv 1) (pe_op op_uMulL (pe_lst (pa_c pe_int pa_nil)) (pe_op op_uSub (pe_op op_uAd (pv 3) pe_int) (pe_cB call_ulen rfl T.b_len PySem.boot_len (pa_c (pv 1) pa_nil))))) pa_nil)))))))))
      (pss_cons (ps_if (pt_cmpR op_uLt (pe_op op_uMod (pv 0) pe_int) pe_int (nomark _)) (pss_one (ps_ret (pe_ixu hu (pv 7) (pe_op op_uMod (pv 0) pe_int)))) pss_nil)
      (pss_cons (ps_if (PW.pt (pw_and (pt_cmpR (op_uEq hu) (pe_op op_uMod (pv 0) pe_int) pe_int (nomark _)) (pw_and1 (pt_cmpR (op_uEq hu) (pv 2) pe_int (nomark _))))) (pss_one (ps_ret (pe_lst pa_nil))) pss_nil)
      (pss_cons (ps_st (i := 8) sc.nd rfl (by first | exact Or.inl rfl | exact Or.inr rfl) (pe_lst (pa_c (pv 4) (pa_c (pe_op op_uAd (pv 4) (pv 6)) (pa_c (pe_un un_neg pe_int) (pa_c (pe_op op_uSub (pe_un un_neg pe_int) (pv 6)) (pa_c pe_bl (pa_c pe_bl (pa_c pe_non (pa_c pe_str (pa_c (pe_lst (pa_c pe_int pa_nil)) (pa_c (pe_tup (pa_c pe_int pa_nil)) (pa_c pe_dnewK pa_nil)))))))))))))
      (pss_cons (ps_st (i := 9) sc.nd rfl (by first | exact Or.inl rfl | exact Or.inr rfl) (pe_ixu hu (pv 8) (pe_op op_uSub (pe_op op_uMod (pv 0) pe_int) pe_int)))
      (pss_cons (ps_st (i := 10) sc.nd rfl (by first | exact Or.inl rfl | exact Or.inr rfl) (pe_cT call_ulist rfl T.b_list PyProof.Rows.boot_list (pa_c (pv 1) pa_nil)))
      (pss_cons (ps_if (pt_cmpR (op_uEq hu) (pv 10) (pe_lst pa_nil) (nomark _)) (pss_one (ps_ex (pe_bm PySem.F.plainAttrs_list PySem.F.slot_list_append PySem.F.type_list_append mt_uapp (pv 10) (pa_c pe_int pa_nil)))) pss_nil)
      (pss_cons (ps_asg (pv 9) (pg_sub (pv 10) (pv 5) set_ulist))
      (pss_one (ps_ret (pv 10))))))))))))), ?_⟩
    have e19 : CDiv2 z 19 := ⟨by decide, by decide +kernel⟩
    try walk_at "rd"
    refine ⟨e19, ?_⟩
    have hln : ∀ {G : Hp}, Same H G → LenV K (.ref g) G (ns.map V.int).length := fun s => .inl ⟨_, SqL.of (s _ _ hg), rfl⟩
    refine ⟨_, hln (Same.refl H), by split <;> omega, ⟨by decide, by decide +kernel⟩, cpow48, pos48, ?_⟩
    have hf : 0 ≤ z / 190 % 10 ^ Int.toNat 48 := Int.emod_nonneg _ (by have := pos48; omega)
    generalize z / 190 % 10 ^ Int.toNat 48 = far at *
    have hz0 : 0 ≤ z % 19 := Int.emod_nonneg _ (by decide)
    have hz1 : z % 19 < 19 := Int.emod_lt_of_pos _ (by decide)
    have hat0 : 0 ≤ z / 19 % (if ((ns.map V.int).length : Int) > 1 then ((ns.map V.int).length : Int) else 1) := Int.emod_nonneg _ (by split <;> omega)
    have hat1 : z / 19 % (if ((ns.map V.int).length : Int) > 1 then ((ns.map V.int).length : Int) else 1) < (if ((ns.map V.int).length : Int) > 1 then ((ns.map V.int).length : Int) else 1) := Int.emod_lt_of_pos _ (by split <;> omega)
    generalize z / 19 % (if ((ns.map V.int).length : Int) > 1 then ((ns.map V.int).length : Int) else 1) = at_ at *
    rw [List.length_map] at hat1 hln
    generalize hzz : z % 19 = y at *
    intro pd hpd
    have s1 := Same.new (.dK []) hpd
    have ed1 : upd H pd (.dK []) pd = some (.dK []) := upd_same
    generalize hG1 : upd H pd (.dK []) = G1 at *
    refine ⟨by show 1 ≤ PySem.sizeLine; decide, fun pz hpz => ?_⟩
    have s2 := Same.new (.lst [.int 0]) hpz
    have ez2 : upd G1 pz (.lst [.int 0]) pz = some (.lst [.int 0]) := upd_same
    have s12 := s1.trans s2
    generalize hG2 : upd G1 pz (.lst [.int 0]) = G2 at *
    refine ⟨_, hln s12, .int 0, ez2, by omega, by omega, fun pm hpm => ?_⟩
    have s3 := Same.new (.lst (List.replicate (hi + 1 - (ns.length : Int)).toNat (.int 0))) hpm
    have em3 : upd G2 pm (.lst (List.replicate (hi + 1 - (ns.length : Int)).toNat (.int 0))) pm = some (.lst (List.replicate (hi + 1 - (ns.length : Int)).toNat (.int 0))) := upd_same
    have s13 := s12.trans s3
    generalize hG3 : upd G2 pm (.lst (List.replicate (hi + 1 - (ns.length : Int)).toNat (.int 0))) = G3 at *
    refine .inl ⟨_, _, s13 _ _ hg, em3, Nat.le_of_lt (small1000 (by simp; omega)), fun pa hpa => ?_⟩
    have s4 := Same.new (.lst (ns.map V.int ++ List.replicate (hi + 1 - (ns.length : Int)).toNat (.int 0))) hpa
    have ea4 : upd G3 pa (.lst (ns.map V.int ++ List.replicate (hi + 1 - (ns.length : Int)).toNat (.int 0))) pa = some (.lst (ns.map V.int ++ List.replicate (hi + 1 - (ns.length : Int)).toNat (.int 0))) := upd_same
    have s14 := s13.trans s4
    have ed4 := s4 _ _ (s3 _ _ (s2 _ _ ed1))
    generalize hG4 : upd G3 pa (.lst (ns.map V.int ++ List.replicate (hi + 1 - (ns.length : Int)).toNat (.int 0))) = G4 at *
    refine ⟨by show 7 ≤ PySem.sizeLine; decide, fun pr hpr => ?_⟩
    have s5 := Same.new (.lst [.non, .int 7, .str "0", .str "", .ref pd, .bl true, .ref pa]) hpr
    have er5 : upd G4 pr (.lst [.non, .int 7, .str "0", .str "", .ref pd, .bl true, .ref pa]) pr = some (.lst [.non, .int 7, .str "0", .str "", .ref pd, .bl true, .ref pa]) := upd_same
    have s15 := s14.trans s5
    have ea5 := s5 _ _ ea4
    have ed5 := s5 _ _ ed4
    generalize hG5 : upd G4 pr (.lst [.non, .int 7, .str "0", .str "", .ref pd, .bl true, .ref pa]) = G5 at *
    clear hG1 hG2 hG3 hG4 hG5 s1 s2 s12 s3 s13 s4 s14 s5 ez2 em3 ea4 ed4 ed1 hpd hpz hpm hpa hpr
    refine ⟨by decide, ?_⟩
    by_cases h7 : y < 7
    · rw [if_pos (by simpa using h7)]
      refine ⟨by decide, ?_⟩
      have hh : y = 0 ∨ y = 1 ∨ y = 2 ∨ y = 3 ∨ y = 4 ∨ y = 5 ∨ y = 6 := by omega
      rcases hh with rfl | rfl | rfl | rfl | rfl | rfl | rfl
      · exact ⟨_, _, .inl (SqL.of er5), rfl, q _ _ _ s15 .non rfl⟩
      · exact ⟨_, _, .inl (SqL.of er5), rfl, q _ _ _ s15 (.int 7) rfl⟩
      · exact ⟨_, _, .inl (SqL.of er5), rfl, q _ _ _ s15 (.str "0") rfl⟩
      · exact ⟨_, _, .inl (SqL.of er5), rfl, q _ _ _ s15 (.str "") rfl⟩
      · exact ⟨_, _, .inl (SqL.of er5), rfl, q _ _ _ s15 (.dict ed5) rfl⟩
      · exact ⟨_, _, .inl (SqL.of er5), rfl, q _ _ _ s15 (.bl true) rfl⟩
      · refine ⟨_, _, .inl (SqL.of er5), rfl, q _ _ _ s15 (hd_ints (n := 1) (ns := ns ++ List.replicate (hi + 1 - (ns.length : Int)).toNat 0) (by rw [List.map_append, List.map_replicate]; exact ea5)) ?_⟩
        rw [countedD, listD]
        have : ¬ (((((ns ++ List.replicate (hi + 1 - (ns.length : Int)).toNat 0).map DV.int).length : Nat) : Int) ≤ hi) := by simp; omega
        rw [decide_eq_false this]
        simp
    rw [if_neg (by simpa using h7)]
    refine ⟨by decide, ?_⟩
    by_cases h8 : y = 7 ∧ lo = 1
    · rw [if_pos (by simpa using h8.1), if_pos (by simpa using h8.2)]
      refine ⟨by decide, fun pe hpe => ?_⟩
      have s6 := Same.new (.lst []) hpe
      exact q _ _ _ (s15.trans s6) (hd_ints (n := 1) (ns := []) upd_same) (by rw [h8.2, countedD, listD]; rfl)
    by_cases hy7 : y = 7
    · rw [if_pos (by simpa using hy7), if_neg (by simpa using (fun hl => h8 ⟨hy7, hl⟩))]
      refine ⟨by show 1 ≤ PySem.sizeLine; decide, fun p0 hp0 => ?_⟩
      have s6 := Same.new (.lst [.int 0]) hp0
      have e06 : upd G5 p0 (.lst [.int 0]) p0 = some (.lst [.int 0]) := upd_same
      generalize hG6 : upd G5 p0 (.lst [.int 0]) = G6 at *
      refine ⟨by show 1 ≤ PySem.sizeLine; decide, fun p1 hp1 => ?_⟩
      have s7 := Same.new (.tup [.int 0]) hp1
      have e17 : upd G6 p1 (.tup [.int 0]) p1 = some (.tup [.int 0]) := upd_same
      generalize hG7 : upd G6 p1 (.tup [.int 0]) = G7 at *
      intro pd2 hpd2
      have s8 := Same.new (.dK []) hpd2
      have ed8 : upd G7 pd2 (.dK []) pd2 = some (.dK []) := upd_same
      generalize hG8 : upd G7 pd2 (.dK []) = G8 at *
      refine ⟨by show 11 ≤ PySem.sizeLine; decide, fun ps hps => ?_⟩
      have s9 := Same.new (.lst [.int M, .int (M + far), .int (-1), .int (-1 - far), .bl true, .bl false, .non, .str "0", .ref p0, .ref p1, .ref pd2]) hps
      have es9 : upd G8 ps (.lst [.int M, .int (M + far), .int (-1), .int (-1 - far), .bl true, .bl false, .non, .str "0", .ref p0, .ref p1, .ref pd2]) ps = some (.lst [.int M, .int (M + far), .int (-1), .int (-1 - far), .bl true, .bl false, .non, .str "0", .ref p0, .ref p1, .ref pd2]) := upd_same
      have s19 := s15.trans (s6.trans (s7.trans (s8.trans s9)))
      have e09 := (s7.trans (s8.trans s9)) _ _ e06
      have e19' := (s8.trans s9) _ _ e17
      have ed9 := s9 _ _ ed8
      generalize hG9 : upd G8 ps (.lst [.int M, .int (M + far), .int (-1), .int (-1 - far), .bl true, .bl false, .non, .str "0", .ref p0, .ref p1, .ref pd2]) = G9 at *
      clear hG6 hG7 hG8 hG9 s6 s7 s8 s9 e06 e17 ed8 hp0 hp1 hpd2 hps s15 er5 ea5 ed5
      refine ⟨by decide, ?_⟩
      have pick : ∃ v d, atI [V.int M, V.int (M + far), V.int (-1), V.int (-1 - far), V.bl true, V.bl false, V.non, V.str "0", V.ref p0, V.ref p1, V.ref pd2] (y - 8) = some v ∧ HD G9 1 v d ∧ inRD 0 M d = false := by
        have hh : y = 7 ∨ y = 8 ∨ y = 9 ∨ y = 10 ∨ y = 11 ∨ y = 12 ∨ y = 13 ∨ y = 14 ∨ y = 15 ∨ y = 16 ∨ y = 17 ∨ y = 18 := by omega
        rcases hh with rfl | rfl | rfl | rfl | rfl | rfl | rfl | rfl | rfl | rfl | rfl | rfl
        · exact ⟨_, _, rfl, .dict ed9, rfl⟩
        · exact ⟨_, _, rfl, .int _, by simp only [inRD, Bool.and_eq_false_iff, decide_eq_false_iff_not]; omega⟩
        · exact ⟨_, _, rfl, .int _, by simp only [inRD, Bool.and_eq_false_iff, decide_eq_false_iff_not]; omega⟩
        · exact ⟨_, _, rfl, .int _, by simp only [inRD, Bool.and_eq_false_iff, decide_eq_false_iff_not]; omega⟩
        · exact ⟨_, _, rfl, .int _, by simp only [inRD, Bool.and_eq_false_iff, decide_eq_false_iff_not]; omega⟩
        · exact ⟨_, _, rfl, .bl _, rfl⟩
        · exact ⟨_, _, rfl, .bl _, rfl⟩
        · exact ⟨_, _, rfl, .non, rfl⟩
        · exact ⟨_, _, rfl, .str _, rfl⟩
        · exact ⟨_, _, rfl, hd_ints (n := 0) (ns := [0]) e09, rfl⟩
        · exact ⟨_, _, rfl, .tup (ds := [.int 0]) e19' rfl (fun i u d hu hd => by
            match i, hu, hd with
            | 0, hu, hd => cases hu; cases hd; exact .int 0), rfl⟩
        · exact ⟨_, _, rfl, .dict ed9, rfl⟩
      obtain ⟨v, d, ev, hv, hvr⟩ := pick
      refine ⟨_, v, .inl (SqL.of es9), ev, _, .inl (SqL.of (s19 _ _ hg)), fun pf hpf => ?_⟩
      have s10 := Same.new (.lst (ns.map V.int)) hpf
      have ef10 : upd G9 pf (.lst (ns.map V.int)) pf = some (.lst (ns.map V.int)) := upd_same
      generalize hG10 : upd G9 pf (.lst (ns.map V.int)) = G10 at *
      refine ⟨by show 0 ≤ PySem.sizeLine; decide, fun pe hpe => ?_⟩
      have s11 := Same.new (.lst []) hpe
      have ee11 : upd G10 pe (.lst []) pe = some (.lst []) := upd_same
      have ef11 := s11 _ _ ef10
      have s910 := s10.trans s11
      have npf : ∀ b o, G9 b = some o → b ≠ pf := fun b o e => ne_of_none e hpf
      generalize hG11 : upd G10 pe (.lst []) = G11 at *
      have fin : ∀ (ms : List Int) (j : Nat) (G' : Hp), j < ms.length → Same G9 G' → G' pf = some (.lst ((ms.map V.int).set j v)) → Q (.ref pf) G' := fun ms j G' hj s' e' => q _ (.lst ((ms.map DV.int).set j d)) _ (s19.trans s') (.lst e' (by simp) fun i u dd hu hd => by
          rw [List.getElem?_set] at hu hd
          by_cases hij : j = i
          · rw [if_pos hij, if_pos (by simp; omega)] at hu hd
            cases hu; cases hd
            exact hv.same s'
          · rw [if_neg hij, List.getElem?_map] at hu hd
            cases hm : ms[i]? with
            | none => rw [hm] at hu; cases hu
            | some w => rw [hm] at hu hd; cases hu; cases hd; exact .int w) (set_bad hvr (by simpa using hj))
      cases hns : ns with
      | nil =>
        subst hns
        refine .inl ⟨.inr ⟨_, _, [], [], rfl, rfl, .inr ⟨SqL.of ef11, SqL.of ee11⟩, rfl, fun j u v hu hv => by simp at hu⟩, ?_⟩
        rw [if_pos trivial]
        have ha0 : at_ = 0 := by simp at hat1; omega
        subst ha0
        refine ⟨.inl ⟨rfl, _, SqL.of ef11⟩, _, ef11, by decide, _, 0, upd_same, rfl, ?_⟩
        refine fin [0] 0 _ (by decide) (fun b o e => by rw [upd_ne (npf b o e), upd_ne (npf b o e)]; exact s910 _ _ e) upd_same
      | cons n0 nr =>
        have hnl : 1 ≤ ns.length := by rw [hns]; simp
        rw [← hns] at *
        refine .inr ⟨⟨ns.map V.int, [], by rw [List.length_map]; show ns.length ≠ 0; omega, .inl ⟨SqL.of ef11, SqL.of ee11⟩⟩, ?_⟩
        rw [if_neg Bool.false_ne_true]
        obtain ⟨j, rfl⟩ := Int.eq_ofNat_of_zero_le hat0
        have hj : j < ns.length := by
          split at hat1 <;> omega
        refine ⟨_, j, ef11, by rw [List.length_map]; unfold ixN; rw [if_pos (by omega), if_pos (by omega)]; simp, ?_⟩
        refine fin ns j _ hj (fun b o e => by rw [upd_ne (npf b o e)]; exact s910 _ _ e) upd_same
    · rw [if_neg (by simpa using hy7)]
      refine ⟨by show 1 ≤ PySem.sizeLine; decide, fun p0 hp0 => ?_⟩
      have s6 := Same.new (.lst [.int 0]) hp0
      have e06 : upd G5 p0 (.lst [.int 0]) p0 = some (.lst [.int 0]) := upd_same
      generalize hG6 : upd G5 p0 (.lst [.int 0]) = G6 at *
      refine ⟨by show 1 ≤ PySem.sizeLine; decide, fun p1 hp1 => ?_⟩
      have s7 := Same.new (.tup [.int 0]) hp1
      have e17 : upd G6 p1 (.tup [.int 0]) p1 = some (.tup [.int 0]) := upd_same
      generalize hG7 : upd G6 p1 (.tup [.int 0]) = G7 at *
      intro pd2 hpd2
      have s8 := Same.new (.dK []) hpd2
      have ed8 : upd G7 pd2 (.dK []) pd2 = some (.dK []) := upd_same
      generalize hG8 : upd G7 pd2 (.dK []) = G8 at *
      refine ⟨by show 11 ≤ PySem.sizeLine; decide, fun ps hps => ?_⟩
      have s9 := Same.new (.lst [.int M, .int (M + far), .int (-1), .int (-1 - far), .bl true, .bl false, .non, .str "0", .ref p0, .ref p1, .ref pd2]) hps
      have es9 : upd G8 ps (.lst [.int M, .int (M + far), .int (-1), .int (-1 - far), .bl true, .bl false, .non, .str "0", .ref p0, .ref p1, .ref pd2]) ps = some (.lst [.int M, .int (M + far), .int (-1), .int (-1 - far), .bl true, .bl false, .non, .str "0", .ref p0, .ref p1, .ref pd2]) := upd_same
      have s19 := s15.trans (s6.trans (s7.trans (s8.trans s9)))
      have e09 := (s7.trans (s8.trans s9)) _ _ e06
      have e19' := (s8.trans s9) _ _ e17
      have ed9 := s9 _ _ ed8
      generalize hG9 : upd G8 ps (.lst [.int M, .int (M + far), .int (-1), .int (-1 - far), .bl true, .bl false, .non, .str "0", .ref p0, .ref p1, .ref pd2]) = G9 at *
      clear hG6 hG7 hG8 hG9 s6 s7 s8 s9 e06 e17 ed8 hp0 hp1 hpd2 hps s15 er5 ea5 ed5
      refine ⟨by decide, ?_⟩
      have pick : ∃ v d, atI [V.int M, V.int (M + far), V.int (-1), V.int (-1 - far), V.bl true, V.bl false, V.non, V.str "0", V.ref p0, V.ref p1, V.ref pd2] (y - 8) = some v ∧ HD G9 1 v d ∧ inRD 0 M d = false := by
        have hh : y = 7 ∨ y = 8 ∨ y = 9 ∨ y = 10 ∨ y = 11 ∨ y = 12 ∨ y = 13 ∨ y = 14 ∨ y = 15 ∨ y = 16 ∨ y = 17 ∨ y = 18 := by omega
        rcases hh with rfl | rfl | rfl | rfl | rfl | rfl | rfl | rfl | rfl | rfl | rfl | rfl
        · exact ⟨_, _, rfl, .dict ed9, rfl⟩
        · exact ⟨_, _, rfl, .int _, by simp only [inRD, Bool.and_eq_false_iff, decide_eq_false_iff_not]; omega⟩
        · exact ⟨_, _, rfl, .int _, by simp only [inRD, Bool.and_eq_false_iff, decide_eq_false_iff_not]; omega⟩
        · exact ⟨_, _, rfl, .int _, by simp only [inRD, Bool.and_eq_false_iff, decide_eq_false_iff_not]; omega⟩
        · exact ⟨_, _, rfl, .int _, by simp only [inRD, Bool.and_eq_false_iff, decide_eq_false_iff_not]; omega⟩
        · exact ⟨_, _, rfl, .bl _, rfl⟩
        · exact ⟨_, _, rfl, .bl _, rfl⟩
        · exact ⟨_, _, rfl, .non, rfl⟩
        · exact ⟨_, _, rfl, .str _, rfl⟩
        · exact ⟨_, _, rfl, hd_ints (n := 0) (ns := [0]) e09, rfl⟩
        · exact ⟨_, _, rfl, .tup (ds := [.int 0]) e19' rfl (fun i u d hu hd => by
            match i, hu, hd with
            | 0, hu, hd => cases hu; cases hd; exact .int 0), rfl⟩
        · exact ⟨_, _, rfl, .dict ed9, rfl⟩
      obtain ⟨v, d, ev, hv, hvr⟩ := pick
      refine ⟨_, v, .inl (SqL.of es9), ev, _, .inl (SqL.of (s19 _ _ hg)), fun pf hpf => ?_⟩
      have s10 := Same.new (.lst (ns.map V.int)) hpf
      have ef10 : upd G9 pf (.lst (ns.map V.int)) pf = some (.lst (ns.map V.int)) := upd_same
      generalize hG10 : upd G9 pf (.lst (ns.map V.int)) = G10 at *
      refine ⟨by show 0 ≤ PySem.sizeLine; decide, fun pe hpe => ?_⟩
      have s11 := Same.new (.lst []) hpe
      have ee11 : upd G10 pe (.lst []) pe = some (.lst []) := upd_same
      have ef11 := s11 _ _ ef10
      have s910 := s10.trans s11
      have npf : ∀ b o, G9 b = some o → b ≠ pf := fun b o e => ne_of_none e hpf
      generalize hG11 : upd G10 pe (.lst []) = G11 at *
      have fin : ∀ (ms : List Int) (j : Nat) (G' : Hp), j < ms.length → Same G9 G' → G' pf = some (.lst ((ms.map V.int).set j v)) → Q (.ref pf) G' := fun ms j G' hj s' e' => q _ (.lst ((ms.map DV.int).set j d)) _ (s19.trans s') (.lst e' (by simp) fun i u dd hu hd => by
          rw [List.getElem?_set] at hu hd
          by_cases hij : j = i
          · rw [if_pos hij, if_pos (by simp; omega)] at hu hd
            cases hu; cases hd
            exact hv.same s'
          · rw [if_neg hij, List.getElem?_map] at hu hd
            cases hm : ms[i]? with
            | none => rw [hm] at hu; cases hu
            | some w => rw [hm] at hu hd; cases hu; cases hd; exact .int w) (set_bad hvr (by simpa using hj))
      cases hns : ns with
      | nil =>
        subst hns
        refine .inl ⟨.inr ⟨_, _, [], [], rfl, rfl, .inr ⟨SqL.of ef11, SqL.of ee11⟩, rfl, fun j u v hu hv => by simp at hu⟩, ?_⟩
        rw [if_pos trivial]
        have ha0 : at_ = 0 := by simp at hat1; omega
        subst ha0
        refine ⟨.inl ⟨rfl, _, SqL.of ef11⟩, _, ef11, by decide, _, 0, upd_same, rfl, ?_⟩
        refine fin [0] 0 _ (by decide) (fun b o e => by rw [upd_ne (npf b o e), upd_ne (npf b o e)]; exact s910 _ _ e) upd_same
      | cons n0 nr =>
        have hnl : 1 ≤ ns.length := by rw [hns]; simp
        rw [← hns] at *
        refine .inr ⟨⟨ns.map V.int, [], by rw [List.length_map]; show ns.length ≠ 0; omega, .inl ⟨SqL.of ef11, SqL.of ee11⟩⟩, ?_⟩
        rw [if_neg Bool.false_ne_true]
        obtain ⟨j, rfl⟩ := Int.eq_ofNat_of_zero_le hat0
        have hj : j < ns.length := by
          split at hat1 <;> omega
        refine ⟨_, j, ef11, by rw [List.length_map]; unfold ixN; rw [if_pos (by omega), if_pos (by omega)]; simp, ?_⟩
        refine fin ns j _ hj (fun b o e => by rw [upd_ne (npf b o e)]; exact s910 _ _ e) upd_same
end
end K14

set_option Elab.async false
set_option linter.all false
set_option maxRecDepth 100000
set_option maxHeartbeats 4000000
namespace L2
open PySem
theorem seq_gen {t u : TS} {D : Ends} {σ : St} {H : Hp} (h : ∀ N : St → Hp → Prop, N = u D → t { D with nx := N } σ H) : tSeq t u D σ H := h _ rfl
theorem ifs_gen {c : TT} {t u : TS} {D : Ends} {σ : St} {H : Hp} (h : ∀ T U : St → Hp → Prop, T = t D → U = u D → c σ H fun b H1 => if b = true then T σ H1 else U σ H1) : tIfS c t u D σ H := h _ _ rfl rfl
theorem g_name {i : Nat} {v : V} {σ : St} {H : Hp} {Q : St → Hp → Prop} (h : Q (σ.set i (some v)) H) : gName i v σ H Q := h
theorem use_eq {N M : St → Hp → Prop} {σ : St} {H : Hp} (e : N = M) (h : M σ H) : N σ H := e ▸ h
end L2
namespace K14
open PySem L2 DD
section
variable {P : Program} {w : World} {K : PySem.W.Frag} {mg : Str → Option Value} {base : Heap} {C F B : Addr} {c : Nat → Addr} {FD : List (Str × V)}
local macro_rules | `(tactic| walk_at "rd") => `(tactic| simp only [tVar, tC, tOp, tUn, rU, tTest, tB, tNot, tNotV, tAnd, tOr, tAndV, tOrV, tIf, tIfS, tSeq, tNext, tRet, tRetN, tAsg, gName, gSub, tCall, tCB, tCons, tNil, tTup, tLst, tDrop, tChain, uAdd_ii, uAdd_ss, uAdd_rr, uAd_ii, uAd_ss, uAd_rr, uSl_r, uAll_1, uAny_1, uSum1_1, uIsI_t, uIsI_r, uApp_r, uExt_r, uClr_r, uIns_r, uPop0_r, tSl, tNoPart, tPart, tFld, sFld, tMeth, tMake, tBM, tBM0, tCGet, sDelL, tAug, ipI, tNever, uIs_rn, uIs_nn, id_eq, iZip, iEnum, iSeq, iRng1, iRng2, iRng3, tPairs, ↓tLc_box, ↓tFor_box, ↓tWhile_box, ↓tDisp_box, ↓LcGoal_box, uI_ii, uI0_ii, uEq_ii, uEq_ss, uEq_rr, uNe_ii, uNe_ss, uNe_rr, uIs_bb, uIn_r, uIx_ri, uIx_rs, uIx_si, uIsi_t, uLen_1, uII_2, uTuple_1, uList_1, uSetL_ri, tNoTest, blk, some_join, cx_K, cxOf_K, nox_K, bCx_K, L2.start, List.map_cons, List.map_nil, List.length_cons, List.length_nil, List.cons_append, List.nil_append, List.replicate, List.getElem?_cons_zero, List.getElem?_cons_succ, List.append_nil, Option.some.injEq, exists_eq_left', exists_eq_left, V.int.injEq, V.bl.injEq, V.str.injEq, V.ref.injEq, List.cons.injEq, and_true, true_and, List.set_cons_zero, List.set_cons_succ, Nat.reduceSub, Nat.reduceAdd])
local macro_rules | `(tactic| walk_at "rt") => `(tactic| simp only [tVar, tC, tOp, tUn, rU, tTest, tB, tNot, tNotV, tAnd, tOr, tAndV, tOrV, tIf, tIfS, tSeq, tNext, tRet, tRetN, tAsg, gName, gSub, tCall, tCB, tCons, tNil, tTup, tLst, tDrop, tChain, uAdd_ii, uAdd_ss, uAdd_rr, uAd_ii, uAd_ss, uAd_rr, uSl_r, uAll_1, uAny_1, uSum1_1, uIsI_t, uIsI_r, uApp_r, uExt_r, uClr_r, uIns_r, uPop0_r, tSl, tNoPart, tPart, tFld, sFld, tMeth, tMake, tBM, tBM0, tCGet, sDelL, tAug, ipI, tNever, uIs_rn, uIs_nn, id_eq, iZip, iEnum, iSeq, iRng1, iRng2, iRng3, tPairs, ↓tLc_box, ↓tFor_box, ↓tWhile_box, ↓tDisp_box, ↓LcGoal_box, uI_ii, uI0_ii, uEq_ii, uEq_ss, uEq_rr, uNe_ii, uNe_ss, uNe_rr, uIs_bb, uIn_r, uIx_ri, uIx_rs, uIx_si, uIsi_t, uLen_1, uII_2, uList_1, uSetL_ri, tNoTest, blk, some_join, cx_K, cxOf_K, nox_K, bCx_K, L2.start, List.map_cons, List.map_nil, List.length_cons, List.length_nil, List.cons_append, List.nil_append, List.replicate, List.getElem?_cons_zero, List.getElem?_cons_succ, List.append_nil, Option.some.injEq, exists_eq_left', exists_eq_left, V.int.injEq, V.bl.injEq, V.str.injEq, V.ref.injEq, List.cons.injEq, and_true, true_and, List.set_cons_zero, List.set_cons_succ, Nat.reduceSub, Nat.reduceAdd])
local macro_rules | `(tactic| walk_at "go") => `(tactic| repeat (first
  | walk_at "rd"
  | refine ix_t (by assumption) (by first | rfl | exact atI_nat (j := 0) rfl | exact atI_nat (j := 1) rfl | exact atI_nat (j := 2) rfl | exact atI_nat (j := 3) rfl) ?_
  | refine ix_l (by assumption) (by first | rfl | exact atI_nat (j := 0) rfl | exact atI_nat (j := 1) rfl | assumption) ?_
  | rw [if_pos (by decide +kernel)]
  | rw [if_neg (by decide +kernel)]))
local macro_rules | `(tactic| walk_at "rs") => `(tactic| simp only [tVar, tC, tOp, tUn, rU, tTest, tB, tNot, tNotV, tAnd, tOr, tAndV, tOrV, tIf, tIfS, tSeq, tNext, tRet, tRetN, tAsg, gName, gSub, tCall, tCB, tCons, tNil, tTup, tLst, tDrop, tChain, uAdd_ii, uAdd_ss, uAdd_rr, uAd_ii, uAd_ss, uSl_r, uAll_1, uAny_1, uSum1_1, uIsI_t, uIsI_r, uApp_r, uExt_r, uClr_r, uIns_r, uPop0_r, tSl, tNoPart, tPart, tFld, sFld, tMeth, tMake, tBM, tBM0, tCGet, sDelL, tAug, ipI, tNever, uIs_rn, uIs_nn, id_eq, iZip, iEnum, iSeq, iRng1, iRng2, iRng3, tPairs, ↓tLc_box, ↓tFor_box, ↓tWhile_box, ↓tDisp_box, ↓LcGoal_box, uI_ii, uI0_ii, uEq_ii, uEq_ss, uEq_rr, uNe_ii, uNe_ss, uNe_rr, uIs_bb, uIn_r, uIx_ri, uIx_rs, uIx_si, uIsi_t, uLen_1, uII_2, uTuple_1, uList_1, uSetL_ri, tNoTest, blk, some_join, cx_K, cxOf_K, nox_K, bCx_K, L2.start, List.map_cons, List.map_nil, List.length_cons, List.length_nil, List.cons_append, List.nil_append, List.replicate, List.getElem?_cons_zero, List.getElem?_cons_succ, List.append_nil, Option.some.injEq, exists_eq_left', exists_eq_left, V.int.injEq, V.bl.injEq, V.str.injEq, V.ref.injEq, List.cons.injEq, and_true, true_and, List.set_cons_zero, List.set_cons_succ, Nat.reduceSub, Nat.reduceAdd])

abbrev s_law_spoiled_deeds : Stmt := top 56
theorem hd_app {H : Hp} {n : Nat} {a b : Addr} {ds es : List DV} {Q : VK} (ha : HD H (n + 1) (.ref a) (.lst ds)) (hb : HD H (n + 1) (.ref b) (.lst es)) (hl : ds.length + es.length ≤ 1000) (q : ∀ p H', Same H H' → HD H' (n + 1) (.ref p) (.lst (ds ++ es)) → Q (.ref p) H') : uAd (.ref a) (.ref b) H Q := by
  cases ha with
  | @lst _ _ xs _ ea la da =>
    cases hb with
    | @lst _ _ zs _ eb lb db =>
      refine .inl ⟨xs, zs, ea, eb, Nat.le_of_lt (small1000 (by omega)), fun p hp => q _ _ (Same.new _ hp) (.lst upd_same (by simp [la, lb]) fun j u e hu he => ?_)⟩
      by_cases hj : j < xs.length
      · rw [List.getElem?_append_left hj] at hu
        rw [List.getElem?_append_left (by omega)] at he
        exact (da j u e hu he).same (Same.new _ hp)
      · rw [List.getElem?_append_right (by omega)] at hu
        rw [List.getElem?_append_right (by omega), ← la] at he
        exact (db _ u e hu he).same (Same.new _ hp)
theorem hd_mul {H : Hp} {n : Nat} {b : Addr} {v : V} {d : DV} {k : Int} {Q : VK} (hb : H b = some (.lst [v])) (hv : HD H n v d) (h0 : -1000 ≤ k) (h1 : k ≤ 1000) (q : ∀ p H', Same H H' → HD H' (n + 1) (.ref p) (.lst (List.replicate k.toNat d)) → Q (.ref p) H') : uMulL (.ref b) (.int k) H Q := by
  refine ⟨v, hb, h0, h1, fun p hp => q p _ (Same.new _ hp) (.lst upd_same (by simp) fun j u e hu he => ?_)⟩
  rw [List.getElem?_replicate] at hu he
  split at hu
  · rw [if_pos (by assumption)] at he
    cases hu; cases he
    exact hv.same (Same.new _ hp)
  · cases hu
theorem hd_one {H : Hp} {n : Nat} {b : Addr} {v : V} {d : DV} (hb : H b = some (.lst [v])) (hv : HD H n v d) : HD H (n + 1) (.ref b) (.lst [d]) :=
  .lst hb rfl fun j u e hu he => by
    match j, hu, he with
    | 0, hu, he => cases hu; cases he; exact hv
theorem cut_to {xs : List V} {k : Nat} : cutV xs none (some (k : Int)) = xs.take k := by
  unfold cutV
  have e0 : HT.sIx xs.length 0 none = 0 := rfl
  have e1 : HT.sIx xs.length xs.length (some (k : Int)) = min k xs.length := by
    show (if (k : Int) < 0 then ((k : Int) + (xs.length : Int)).toNat else min (k : Int).toNat xs.length) = _
    rw [if_neg (by omega)]; rfl
  rw [e0, e1, List.drop_zero, Nat.sub_zero]
  by_cases h : k ≤ xs.length
  · rw [Nat.min_eq_left h]
  · rw [Nat.min_eq_right (by omega), List.take_of_length_le (Nat.le_refl _), List.take_of_length_le (by omega)]
theorem cut_from {xs : List V} {k : Nat} : cutV xs (some (k : Int)) none = xs.drop k := by
  unfold cutV
  have e0 : HT.sIx xs.length xs.length none = xs.length := rfl
  have e1 : HT.sIx xs.length 0 (some (k : Int)) = min k xs.length := by
    show (if (k : Int) < 0 then ((k : Int) + (xs.length : Int)).toNat else min (k : Int).toNat xs.length) = _
    rw [if_neg (by omega)]; rfl
  rw [e0, e1]
  by_cases h : k ≤ xs.length
  · rw [Nat.min_eq_left h, List.take_of_length_le (by simp)]
  · rw [Nat.min_eq_right (by omega), List.drop_of_length_le (Nat.le_refl _), List.drop_of_length_le (l := xs) (i := k) (by omega)]; simp
theorem hd_take {H : Hp} {n : Nat} {p : Addr} {xs : List V} {ds : List DV} {k : Nat} (l : xs.length = ds.length) (i : ∀ (j : Nat) u e, xs[j]? = some u → ds[j]? = some e → HD H n u e) (e : H p = some (.lst (xs.take k))) : HD H (n + 1) (.ref p) (.lst (ds.take k)) :=
  .lst e (by simp [l]) fun j u d hu hd => by
    rw [List.getElem?_take] at hu hd
    split at hu
    · rw [if_pos (by assumption)] at hd
      exact i j u d hu hd
    · cases hu
theorem hd_drop {H : Hp} {n : Nat} {p : Addr} {xs : List V} {ds : List DV} {k : Nat} (l : xs.length = ds.length) (i : ∀ (j : Nat) u e, xs[j]? = some u → ds[j]? = some e → HD H n u e) (e : H p = some (.lst (xs.drop k))) : HD H (n + 1) (.ref p) (.lst (ds.drop k)) :=
  .lst e (by simp [l]) fun j u d hu hd => by
    rw [List.getElem?_drop] at hu hd
    exact i _ u d hu hd
theorem fb_ill {m : Int} {di : DV} {rest : List DV} (hb : deedD m di = false) : ∀ (ds : List DV) (i : Nat), (∀ d ∈ ds, deedD m d = true) → i ≤ 24 → firstBad m i (ds ++ di :: rest) = some (min (i + ds.length) 24)
  | [], i, _, hi => by
    rw [List.nil_append, firstBad, if_pos (by simp [hb])]
    congr 1
    simp; omega
  | d :: ds, i, h, hi => by
    rw [List.cons_append, firstBad]
    by_cases h24 : i = 24
    · rw [if_pos (by simp [h24])]
      congr 1
      simp; omega
    · rw [if_neg (by simp [h24, h d (by simp)]), fb_ill hb ds (i + 1) (fun d' h' => h d' (by simp [h'])) (by omega)]
      congr 1
      simp; omega
theorem fb_good {m : Int} : ∀ (ds : List DV) (i : Nat), (∀ d ∈ ds, deedD m d = true) → i ≤ 24 → firstBad m i ds = if i + ds.length ≤ 24 then none else some 24
  | [], i, _, hi => by rw [firstBad, if_pos (by simpa using hi)]
  | d :: ds, i, h, hi => by
    rw [firstBad]
    by_cases h24 : i = 24
    · rw [if_pos (by simp [h24]), if_neg (by simp; omega), h24]
    · rw [if_neg (by simp [h24, h d (by simp)]), fb_good ds (i + 1) (fun d' h' => h d' (by simp [h'])) (by omega)]
      have e : i + 1 + ds.length = i + (d :: ds).length := by simp; omega
      rw [e]
def dueD : Option Nat → DV
  | none => .str "made"
  | some k => .tup [.str "deed", .int k]
theorem due_mk {H : Hp} {a : Addr} {k : Nat} (e : H a = some (.tup [.str "deed", .int k])) : HT H 1 (.ref a) (dueD (some k)) :=
  .tup e rfl fun i u e hu he => by
    match i, hu, he with
    | 0, hu, he => cases hu; cases he; exact .str _
    | 1, hu, he => cases hu; cases he; exact .int _
def sp_spo : Sp := fun vs H Q _ => ∃ (z : Int) (a : Addr) (ds : List DV) (m : Int), vs = [.int z, .ref a, .int m] ∧ HD H 4 (.ref a) (.lst ds) ∧ 1 ≤ m ∧ ds.length ≤ 24 ∧ (∀ d ∈ ds, deedD m d = true) ∧
  ∀ p xd xu dd H', Same H H' → H' p = some (.tup [.ref xd, xu]) → HD H' 4 (.ref xd) (.lst dd) → dd.length ≤ 60 → HT H' 1 xu (dueD (firstBad m 0 dd)) → Q (.ref p) H'
theorem sc_law_spoiled_deeds : FnScope ["_law_cell", "_law_deeds", "_law_many", "_law_way", "_law_due", "_law_ill", "_law_at_here"] ["_law_cell", "_law_deeds", "_law_many"] (defScope s_law_spoiled_deeds) := ⟨rfl, rfl, rfl, by decide +kernel, rfl, by decide +kernel, by decide +kernel⟩
theorem d_law_spoiled_deeds (D : Top1 K mg "_law_spoiled_deeds" "_law_spoiled_deeds" s_law_spoiled_deeds ["_law_cell", "_law_deeds", "_law_many"]) (T : Tx K mg C F FD) (TX : XTx K mg B c) (D_law_no_deed : Def P w K mg base "_law_no_deed" 1 ["_law_cell", "_law_many"] sp_nod) (D_is_deed : Def P w K mg base "is_deed" 5 ["thing", "many"] sp_isd) : Def P w K mg base "_law_spoiled_deeds" 6 ["_law_cell", "_law_deeds", "_law_many"] sp_spo := by
  have sc := sc_law_spoiled_deeds
  refine D.ok sc (fun vs H Q E h => ?_) (fun f cdv A outer s H vs Q E hr h => ?_)
  · obtain ⟨z, a, ds, m, rfl, hx, hm1, hlen, hgood, q⟩ := h
    rfl
  · obtain ⟨z, a, ds, m, rfl, hx, hm1, hlen, hgood, q⟩ := h
    have hu := hr.units
    refine ⟨_, (pss_cons (ps_st (i := 3) sc.nd rfl (by first | exact Or.inl rfl | exact Or.inr rfl) (pe_op op_uMod (pv 0) pe_int))
      (pss_cons (ps_st (i := 4) sc.nd rfl (by first | exact Or.inl rfl | exact Or.inr rfl) pe_str)
      (pss_cons (ps_st (i := 5) sc.nd rfl (by first | exact Or.inl rfl | exact Or.inr rfl) (pe_cf D_law_no_deed hr (pa_c (pe_op op_uFdiv (pv 0) pe_int) (pa_c (pv 2) pa_nil))))
      (pss_cons (ps_if (pt_cmpR (op_uEq hu) (pv 3) pe_int (nomark _)) (pss_cons (ps_st (i := 1) sc.nd rfl (by first | exact Or.inl rfl | exact Or.inr rfl) (pe_op op_uAd (pv 1) (pe_op op_uMulL (pe_lst (pa_c (pe_tup (pa_c pe_str pa_nil)) pa_nil)) (pe_op op_uSub pe_int (pe_cB call_ulen rfl T.b_len PySem.boot_len (pa_c (pv 1) pa_nil))))))
      (pss_one (ps_st (i := 4) sc.nd rfl (by first | exact Or.inl rfl | exact Or.inr rfl) (pe_tup (pa_c pe_str (pa_c pe_int pa_nil)))))) pss_nil)
      (pss_cons (ps_if (PW.pt (pw_or (PW.pt (pw_and (pt_cmpR op_uGt (pv 3) pe_int (nomark _)) (pw_and1 (pt_cmpR (op_uEq hu) (pe_op op_uMod (pe_op op_uFdiv (pv 0) pe_int) pe_int) pe_int (nomark _))))) (pw_or1 (pt_cmpR (op_uEq hu) (pv 3) pe_int (nomark _))))) (pss_cons (ps_st (i := 6) sc.nd rfl (by first | exact Or.inl rfl | exact Or.inr rfl) (pe_op op_uMod (pe_op op_uFdiv (pv 0) pe_int) (pe_op op_uAd (pe_cB call_ulen rfl T.b_len PySem.boot_len (pa_c (pv 1) pa_nil)) pe_int)))
      (pss_cons (ps_st (i := 1) sc.nd rfl (by first | exact Or.inl rfl | exact Or.inr rfl) (pe_op op_uAd (pe_op op_uAd (pe_slu (pv 1) po_none (po_some (pv 6))) (pe_lst (pa_c (pv 5) pa_nil))) (pe_slu (pv 1) (po_some (pv 6)) po_none)))
      (pss_cons (ps_st (i := 1) sc.nd rfl (by first | exact Or.inl rfl | exact Or.inr rfl) (pe_op op_uAd (pv 1) (pe_slu (pe_lst (pa_c (pv 5) pa_nil)) po_none (po_some (pe_op op_uMod (pe_op op_uFdiv (pv 0) pe_int) pe_int)))))
      (pss_one (ps_st (i := 4) sc.nd rfl (by first | exact Or.inl rfl | exact Or.inr rfl) (pe_tup (pa_c pe_str (pa_c (pe_cB (call_umin rfl) rfl T.b_min PyProof.Rows.boot_min (pa_c (pv 6) (pa_c pe_int pa_nil))) pa_nil)))))))) pss_nil)
      (pss_cons (ps_if (pt_cmpR op_uIsNot (pe_cf D_is_deed hr (pa_c (pv 5) (pa_c (pv 2) pa_nil))) pe_bl (nomark _)) (pss_one (ps_st (i := 4) sc.nd rfl (by first | exact Or.inl rfl | exact Or.inr rfl) pe_str)) pss_nil)
      (pss_one (ps_ret (pe_tup (pa_c (pv 1) (pa_c (pv 4) pa_nil))))))))))), ?_⟩
    have hxs := hx
    generalize hway : z % 8 = way at *
    refine L2.seq_gen fun N1 h1 => ?_
    try walk_at "rs"
    refine ⟨by decide, ?_⟩
    refine L2.use_eq h1 ?_
    clear h1
    refine L2.seq_gen fun N2 h2 => ?_
    try walk_at "rs"
    refine L2.use_eq h2 ?_
    clear h2
    refine L2.seq_gen fun N3 h3 => ?_
    try walk_at "rs"
    refine ⟨⟨by decide, by decide⟩, _, _, rfl, hm1, fun xi di H1 s1 hi hbad => ?_⟩
    refine L2.use_eq h3 ?_
    clear h3
    refine L2.seq_gen fun N4 h4 => ?_
    have main4 : ∀ (xd : Addr) (dd : List DV) (xu : V) (H' : Hp), Same H1 H' → HD H' 4 (.ref xd) (.lst dd) → (∀ d ∈ dd, deedD m d = true) → dd.length ≤ 25 → HT H' 1 xu (dueD (firstBad m 0 dd)) → N4 [some (.int z), some (.ref xd), some (.int m), some (.int (z % 8)), some xu, some xi, none] H' := by
      intro xd dd xu H' s' hd' hg' hl' hu'
      refine L2.use_eq h4 ?_
      refine L2.seq_gen fun N5 h5 => ?_
      have main5 : ∀ (xd : Addr) (dd : List DV) (xu : V) (z6 : Option V) (H' : Hp), Same H1 H' → HD H' 4 (.ref xd) (.lst dd) → dd.length ≤ 60 → HT H' 1 xu (dueD (firstBad m 0 dd)) → N5 [some (.int z), some (.ref xd), some (.int m), some (.int (z % 8)), some xu, some xi, z6] H' := by
        intro xd dd xu z6 H' s' hd' hl' hu'
        refine L2.use_eq h5 ?_
        refine L2.seq_gen fun N6 h6 => ?_
        try walk_at "rs"
        refine ⟨xi, m, 3, di, rfl, hi.same s', fun H2 s2 => ?_⟩
        rw [hbad]
        try walk_at "rs"
        try first | rw [if_neg Bool.false_ne_true] | rw [if_neg (by decide)]
        try walk_at "rs"
        refine L2.use_eq h6 ?_
        try walk_at "rs"
        refine ⟨two_le, fun p hp => ?_⟩
        have s3 := Same.new (.tup [.ref xd, xu]) hp
        exact q p xd xu dd _ (s1.trans (s'.trans (s2.trans s3))) upd_same (hd'.same (s2.trans s3)) hl' (hu'.stay (s2.trans s3).tups)
      clear h5
      refine L2.ifs_gen fun T U hT hU => ?_
      have hU' : U [some (.int z), some (.ref xd), some (.int m), some (.int (z % 8)), some xu, some xi, none] H' := by
        refine L2.use_eq hU ?_
        try walk_at "rs"
        exact main5 xd dd xu none H' s' hd' (by omega) hu'
      have hT' : T [some (.int z), some (.ref xd), some (.int m), some (.int (z % 8)), some xu, some xi, none] H' := by
        refine L2.use_eq hT ?_
        have hd2 := hd'
        cases hd2 with
        | @lst _ _ xs _ ex lx ix =>
        refine L2.seq_gen fun N7 h7 => ?_
        try walk_at "rs"
        refine ⟨⟨by decide, by decide⟩, _, .inl ⟨_, SqL.of ex, rfl⟩, by omega, ?_⟩
        refine L2.use_eq h7 ?_
        clear h7
        have hk0 : 0 ≤ z / 16 % ((xs.length : Int) + 1) := Int.emod_nonneg _ (by omega)
        have hk1 : z / 16 % ((xs.length : Int) + 1) < (xs.length : Int) + 1 := Int.emod_lt_of_pos _ (by omega)
        generalize z / 16 % ((xs.length : Int) + 1) = kk at *
        obtain ⟨k, rfl⟩ := Int.eq_ofNat_of_zero_le hk0
        refine L2.seq_gen fun N8 h8 => ?_
        try walk_at "rs"
        refine .inl ⟨xs, ex, fun p1 hp1 => ?_⟩
        rw [cut_to]
        have u1 := Same.new (.lst (xs.take k)) hp1
        have e1 : HD (upd H' p1 (.lst (xs.take k))) 4 (.ref p1) (.lst (dd.take k)) := hd_take lx (fun j u e a b => (ix j u e a b).same u1) upd_same
        generalize hG1 : upd H' p1 (.lst (xs.take k)) = G1 at *
        try walk_at "rs"
        refine ⟨by show 1 ≤ PySem.sizeLine; decide, fun p2 hp2 => ?_⟩
        have u2 := Same.new (.lst [xi]) hp2
        have e2 : HD (upd G1 p2 (.lst [xi])) 4 (.ref p2) (.lst [di]) := hd_one upd_same (hi.same (s'.trans (u1.trans u2)))
        generalize hG2 : upd G1 p2 (.lst [xi]) = G2 at *
        try walk_at "rs"
        refine hd_app (e1.same u2) e2 (by simp; omega) fun p3 H3 u3 e3 => ?_
        try walk_at "rs"
        refine .inl ⟨xs, (u1.trans (u2.trans u3)) _ _ ex, fun p4 hp4 => ?_⟩
        rw [cut_from]
        have u4 := Same.new (.lst (xs.drop k)) hp4
        have e4 : HD (upd H3 p4 (.lst (xs.drop k))) 4 (.ref p4) (.lst (dd.drop k)) := hd_drop lx (fun j u e a b => (ix j u e a b).same (u1.trans (u2.trans (u3.trans u4)))) upd_same
        generalize hG4 : upd H3 p4 (.lst (xs.drop k)) = G4 at *
        try walk_at "rs"
        refine hd_app (e3.same u4) e4 (by simp; omega) fun p5 H5 u5 e5 => ?_
        have u15 := u1.trans (u2.trans (u3.trans (u4.trans u5)))
        try walk_at "rs"
        refine L2.use_eq h8 ?_
        clear h8
        refine L2.seq_gen fun N9 h9 => ?_
        try walk_at "rs"
        refine ⟨by show 1 ≤ PySem.sizeLine; decide, fun p6 hp6 => ?_⟩
        have u6 := Same.new (.lst [xi]) hp6
        have ee6 : upd H5 p6 (.lst [xi]) p6 = some (.lst [xi]) := upd_same
        generalize hG6 : upd H5 p6 (.lst [xi]) = G6 at *
        try walk_at "rs"
        refine ⟨⟨by decide, by decide⟩, by decide, ?_⟩
        have hc0 : 0 ≤ z / 48 % 2 := Int.emod_nonneg _ (by decide)
        generalize z / 48 % 2 = cc at *
        obtain ⟨c1, rfl⟩ := Int.eq_ofNat_of_zero_le hc0
        try walk_at "rs"
        refine .inl ⟨[xi], ee6, fun p7 hp7 => ?_⟩
        rw [cut_to]
        have u7 := Same.new (.lst ([xi].take c1)) hp7
        have e7 : HD (upd G6 p7 (.lst ([xi].take c1))) 4 (.ref p7) (.lst ([di].take c1)) := hd_take rfl (fun j u e a b => by
          match j, a, b with
          | 0, a, b => cases a; cases b; exact hi.same (s'.trans (u15.trans (u6.trans u7)))) upd_same
        generalize hG7 : upd G6 p7 (.lst ([xi].take c1)) = G7 at *
        try walk_at "rs"
        refine hd_app (e5.same (u6.trans u7)) e7 (by simp; omega) fun p8 H8 u8 e8 => ?_
        try walk_at "rs"
        refine L2.use_eq h9 ?_
        clear h9
        try walk_at "rs"
        refine ⟨two_le, fun p9 hp9 => ?_⟩
        have u9 := Same.new (.tup [.str "deed", .int (if (24 : Int) < (k : Int) then 24 else (k : Int))]) hp9
        have e10 : upd H8 p9 (.tup [.str "deed", .int (if (24 : Int) < (k : Int) then 24 else (k : Int))]) p9 = some (.tup [.str "deed", .int (if (24 : Int) < (k : Int) then 24 else (k : Int))]) := upd_same
        refine main5 p8 _ _ _ _ (s'.trans (u15.trans (u6.trans (u7.trans (u8.trans u9))))) (e8.same u9) (by simp; omega) ?_
        have hkd : k ≤ dd.length := by omega
        have efb : firstBad m 0 (dd.take k ++ [di] ++ dd.drop k ++ [di].take c1) = some (min k 24) := by
          rw [List.append_assoc, List.append_assoc]
          show firstBad m 0 (dd.take k ++ di :: _) = _
          rw [fb_ill hbad _ 0 (fun d hd => hg' d (List.mem_of_mem_take hd)) (by omega)]
          congr 1
          simp; omega
        rw [efb]
        have ek : (if (24 : Int) < (k : Int) then 24 else (k : Int)) = ((min k 24 : Nat) : Int) := by split <;> omega
        rw [ek] at e10 ⊢
        exact due_mk e10
      try walk_at "rs"
      split
      · refine ⟨⟨by decide, by decide⟩, by decide, ?_⟩
        split
        · exact hT'
        · split
          · exact hT'
          · exact hU'
      · rw [if_neg Bool.false_ne_true]
        split
        · exact hT'
        · exact hU'
    clear h4
    refine L2.ifs_gen fun T U hT hU => ?_
    try walk_at "rs"
    by_cases h6 : z % 8 = 6
    · rw [if_pos (by simpa using h6)]
      refine L2.use_eq hT ?_
      refine L2.seq_gen fun N7 h7 => ?_
      try walk_at "rs"
      refine ⟨by show 1 ≤ PySem.sizeLine; decide, fun p1 hp1 => ?_⟩
      have u1 := Same.new (.tup [.str "drop"]) hp1
      have e1 : HD (upd H1 p1 (.tup [.str "drop"])) 3 (.ref p1) (.tup [.str "drop"]) := .tup upd_same rfl fun j u e a b => by
        match j, a, b with
        | 0, a, b => cases a; cases b; exact .str _
      generalize hG1 : upd H1 p1 (.tup [.str "drop"]) = G1 at *
      refine ⟨by show 1 ≤ PySem.sizeLine; decide, fun p2 hp2 => ?_⟩
      have u2 := Same.new (.lst [.ref p1]) hp2
      have e2 : upd G1 p2 (.lst [.ref p1]) p2 = some (.lst [.ref p1]) := upd_same
      generalize hG2 : upd G1 p2 (.lst [.ref p1]) = G2 at *
      have hx2 := hx.same (s1.trans (u1.trans u2))
      have hx3 := hx2
      cases hx3 with
      | @lst _ _ xs _ ex lx ix =>
      try walk_at "rs"
      refine ⟨_, .inl ⟨_, SqL.of ex, rfl⟩, ?_⟩
      refine hd_mul e2 (e1.same u2) (by omega) (by omega) fun p3 H3 u3 e3 => ?_
      try walk_at "rs"
      refine hd_app (hx2.same u3) e3 (by simp; omega) fun p4 H4 u4 e4 => ?_
      try walk_at "rs"
      refine L2.use_eq h7 ?_
      try walk_at "rs"
      refine ⟨two_le, fun p5 hp5 => ?_⟩
      have u5 := Same.new (.tup [.str "deed", .int 24]) hp5
      have hgd : ∀ d ∈ ds ++ List.replicate ((25 : Int) - (xs.length : Int)).toNat (DV.tup [.str "drop"]), deedD m d = true := fun d hd => by
        rcases List.mem_append.mp hd with h | h
        · exact hgood d h
        · rw [List.eq_of_mem_replicate h]; rfl
      have hl25 : (ds ++ List.replicate ((25 : Int) - (xs.length : Int)).toNat (DV.tup [.str "drop"])).length = 25 := by simp; omega
      refine main4 p4 _ _ _ (u1.trans (u2.trans (u3.trans (u4.trans u5)))) (e4.same u5) hgd (by omega) ?_
      rw [fb_good _ 0 hgd (by omega), if_neg (by omega)]
      exact due_mk (k := 24) upd_same
    · rw [if_neg (by simpa using h6)]
      refine L2.use_eq hU ?_
      try walk_at "rs"
      exact main4 a ds _ _ (Same.refl _) (hx.same s1) hgood (by omega) (by rw [fb_good ds 0 hgood (by omega), if_pos (by omega)]; exact .str _)
end
end K14

set_option Elab.async false
set_option linter.all false
set_option maxRecDepth 100000
set_option maxHeartbeats 4000000
namespace L2
open PySem
theorem asg_ {te : TE} {g : TG} {D : Ends} {σ : St} {H : Hp} (h : te σ H fun v H1 => g v σ H1 D.nx) : tAsg te g D σ H := h
end L2
namespace K14
open PySem L2 DD
section
variable {P : Program} {w : World} {K : PySem.W.Frag} {mg : Str → Option Value} {base : Heap} {C F B : Addr} {c : Nat → Addr} {FD : List (Str × V)}
local macro_rules | `(tactic| walk_at "rd") => `(tactic| simp only [tVar, tC, tOp, tUn, rU, tTest, tB, tNot, tNotV, tAnd, tOr, tAndV, tOrV, tIf, tIfS, tSeq, tNext, tRet, tRetN, tAsg, gName, gSub, tCall, tCB, tCons, tNil, tTup, tLst, tDrop, tChain, uAdd_ii, uAdd_ss, uAdd_rr, uAd_ii, uAd_ss, uAd_rr, uSl_r, uAll_1, uAny_1, uSum1_1, uIsI_t, uIsI_r, uApp_r, uExt_r, uClr_r, uIns_r, uPop0_r, tSl, tNoPart, tPart, tFld, sFld, tMeth, tMake, tBM, tBM0, tCGet, sDelL, tAug, ipI, tNever, uIs_rn, uIs_nn, id_eq, iZip, iEnum, iSeq, iRng1, iRng2, iRng3, tPairs, ↓tLc_box, ↓tFor_box, ↓tWhile_box, ↓tDisp_box, ↓LcGoal_box, uI_ii, uI0_ii, uEq_ii, uEq_ss, uEq_rr, uNe_ii, uNe_ss, uNe_rr, uIs_bb, uIn_r, uIx_ri, uIx_rs, uIx_si, uIsi_t, uLen_1, uII_2, uTuple_1, uList_1, uSetL_ri, tNoTest, blk, some_join, cx_K, cxOf_K, nox_K, bCx_K, L2.start, List.map_cons, List.map_nil, List.length_cons, List.length_nil, List.cons_append, List.nil_append, List.replicate, List.getElem?_cons_zero, List.getElem?_cons_succ, List.append_nil, Option.some.injEq, exists_eq_left', exists_eq_left, V.int.injEq, V.bl.injEq, V.str.injEq, V.ref.injEq, List.cons.injEq, and_true, true_and, List.set_cons_zero, List.set_cons_succ, Nat.reduceSub, Nat.reduceAdd])
local macro_rules | `(tactic| walk_at "rt") => `(tactic| simp only [tVar, tC, tOp, tUn, rU, tTest, tB, tNot, tNotV, tAnd, tOr, tAndV, tOrV, tIf, tIfS, tSeq, tNext, tRet, tRetN, tAsg, gName, gSub, tCall, tCB, tCons, tNil, tTup, tLst, tDrop, tChain, uAdd_ii, uAdd_ss, uAdd_rr, uAd_ii, uAd_ss, uAd_rr, uSl_r, uAll_1, uAny_1, uSum1_1, uIsI_t, uIsI_r, uApp_r, uExt_r, uClr_r, uIns_r, uPop0_r, tSl, tNoPart, tPart, tFld, sFld, tMeth, tMake, tBM, tBM0, tCGet, sDelL, tAug, ipI, tNever, uIs_rn, uIs_nn, id_eq, iZip, iEnum, iSeq, iRng1, iRng2, iRng3, tPairs, ↓tLc_box, ↓tFor_box, ↓tWhile_box, ↓tDisp_box, ↓LcGoal_box, uI_ii, uI0_ii, uEq_ii, uEq_ss, uEq_rr, uNe_ii, uNe_ss, uNe_rr, uIs_bb, uIn_r, uIx_ri, uIx_rs, uIx_si, uIsi_t, uLen_1, uII_2, uList_1, uSetL_ri, tNoTest, blk, some_join, cx_K, cxOf_K, nox_K, bCx_K, L2.start, List.map_cons, List.map_nil, List.length_cons, List.length_nil, List.cons_append, List.nil_append, List.replicate, List.getElem?_cons_zero, List.getElem?_cons_succ, List.append_nil, Option.some.injEq, exists_eq_left', exists_eq_left, V.int.injEq, V.bl.injEq, V.str.injEq, V.ref.injEq, List.cons.injEq, and_true, true_and, List.set_cons_zero, List.set_cons_succ, Nat.reduceSub, Nat.reduceAdd])
local macro_rules | `(tactic| walk_at "go") => `(tactic| repeat (first
  | walk_at "rd"
  | refine ix_t (by assumption) (by first | rfl | exact atI_nat (j := 0) rfl | exact atI_nat (j := 1) rfl | exact atI_nat (j := 2) rfl | exact atI_nat (j := 3) rfl) ?_
  | refine ix_l (by assumption) (by first | rfl | exact atI_nat (j := 0) rfl | exact atI_nat (j := 1) rfl | assumption) ?_
  | rw [if_pos (by decide +kernel)]
  | rw [if_neg (by decide +kernel)]))
local macro_rules | `(tactic| walk_at "rs") => `(tactic| simp only [tVar, tC, tOp, tUn, rU, tTest, tB, tNot, tNotV, tAnd, tOr, tAndV, tOrV, tIf, tIfS, tSeq, tNext, tRet, tRetN, tAsg, gName, gSub, tCall, tCB, tCons, tNil, tTup, tLst, tDrop, tChain, uAdd_ii, uAdd_ss, uAdd_rr, uAd_ii, uAd_ss, uSl_r, uAll_1, uAny_1, uSum1_1, uIsI_t, uIsI_r, uApp_r, uExt_r, uClr_r, uIns_r, uPop0_r, tSl, tNoPart, tPart, tFld, sFld, tMeth, tMake, tBM, tBM0, tCGet, sDelL, tAug, ipI, tNever, uIs_rn, uIs_nn, id_eq, iZip, iEnum, iSeq, iRng1, iRng2, iRng3, tPairs, ↓tLc_box, ↓tFor_box, ↓tWhile_box, ↓tDisp_box, ↓LcGoal_box, uI_ii, uI0_ii, uEq_ii, uEq_ss, uEq_rr, uNe_ii, uNe_ss, uNe_rr, uIs_bb, uIn_r, uIx_ri, uIx_rs, uIx_si, uIsi_t, uLen_1, uII_2, uTuple_1, uList_1, uSetL_ri, tNoTest, blk, some_join, cx_K, cxOf_K, nox_K, bCx_K, L2.start, List.map_cons, List.map_nil, List.length_cons, List.length_nil, List.cons_append, List.nil_append, List.replicate, List.getElem?_cons_zero, List.getElem?_cons_succ, List.append_nil, Option.some.injEq, exists_eq_left', exists_eq_left, V.int.injEq, V.bl.injEq, V.str.injEq, V.ref.injEq, List.cons.injEq, and_true, true_and, List.set_cons_zero, List.set_cons_succ, Nat.reduceSub, Nat.reduceAdd])

abbrev s_law_case : Stmt := top 57
theorem log12 {m : Int} (h0 : 0 ≤ m) (h : m ≤ 1000000000000) : m.natAbs.log2 < 9000 := by
  have h1 : m.natAbs < 2 ^ 41 := by omega
  by_cases hz : m.natAbs = 0
  · rw [hz]; decide
  · have := (Nat.log2_lt hz).mpr h1
    omega
theorem step_put {p l : Addr} {H H' : Hp} {o : HO} (hl : H l = none) (ne : l ≠ p) (st : L2.Step p H H') : L2.Step p H (upd H' l o) :=
  ⟨let ⟨a, b, e⟩ := st.pot; ⟨a, b, by rw [upd_ne (Ne.symm ne)]; exact e⟩, fun b o' e n => by
    rw [upd_ne (ne_of_none e hl)]; exact st.rest b o' e n⟩
theorem HD.up {H : Hp} {n : Nat} {x : V} {d : DV} (h : HD H n x d) : ∀ {k : Nat}, n ≤ k → HD H k x d := by
  induction h with
  | non => exact fun _ => .non
  | bl b => exact fun _ => .bl b
  | int i => exact fun _ => .int i
  | str z => exact fun _ => .str z
  | dict e => exact fun _ => .dict e
  | tup e l _ ih =>
    intro k hk
    cases k with
    | zero => omega
    | succ k => exact .tup e l fun i u d hu hd => ih i u d hu hd (by omega)
  | lst e l _ ih =>
    intro k hk
    cases k with
    | zero => omega
    | succ k => exact .lst e l fun i u d hu hd => ih i u d hu hd (by omega)
theorem counted_good {lo hi M : Int} {ns : List Int} (h1 : lo ≤ (ns.length : Int)) (h2 : (ns.length : Int) ≤ hi) (hb : ∀ z ∈ ns, 0 ≤ z ∧ z < M) : countedD lo hi M (.lst (ns.map DV.int)) = true := by
  rw [countedD, listD, allD, List.length_map, decide_eq_true h1, decide_eq_true h2, List.map_map]
  simp only [Bool.true_and, List.all_map, List.all_eq_true]
  intro z hz
  obtain ⟨a, b⟩ := hb z hz
  simp [inRD, a, b]
theorem ok_deedD {m : Int} {d : Deed} (h : d.ok m) : deedD m d.dv = true := by
  cases d with
  | set i v => obtain ⟨a, b, c⟩ := h; simp [Deed.dv, dd_set, partsD, pd_number, pd_value, val_ok c, inRD, a, b]
  | add i v => obtain ⟨a, b, c⟩ := h; simp [Deed.dv, dd_add, partsD, pd_number, pd_value, val_ok c, inRD, a, b]
  | times i v => obtain ⟨a, b, c⟩ := h; simp [Deed.dv, dd_times, partsD, pd_number, pd_value, val_ok c, inRD, a, b]
  | put v => have c : v.ok m := h; simp [Deed.dv, dd_put, partsD, pd_value, val_ok c]
  | drop => rfl
  | send j v => obtain ⟨a, c⟩ := h; simp [Deed.dv, dd_send, partsD, pd_way, pd_value, val_ok c, wayD, a]
  | say v => have c : v.ok m := h; simp [Deed.dv, dd_say, partsD, pd_value, val_ok c]
  | skip v w k => obtain ⟨a, b, c, d⟩ := h; simp [Deed.dv, dd_skip, partsD, pd_many, pd_value, val_ok a, val_ok b, inRD, c, d]
theorem bad_m {dm dn dr dd : DV} (h : inRD 2 1000000000001 dm = false) : machD dm dn dr dd = false := by rw [machD, h]; rfl
theorem bad_n {M : Int} {dn dr dd : DV} (h : countedD 1 4 M dn = false) : machD (.int M) dn dr dd = false := by rw [machD]; simp [countM, h]
theorem bad_r {M : Int} {dn dr dd : DV} (h : countedD 0 12 M dr = false) : machD (.int M) dn dr dd = false := by rw [machD]; simp [countM, h]
theorem in3 {y : Int} (h1 : ¬ y = 1) (h2 : ¬ y = 2) (h3 : ¬ y = 3) : (if false = true then !inV (V.int y) [V.int 1, V.int 2, V.int 3] else inV (V.int y) [V.int 1, V.int 2, V.int 3]) = false := by
  simp [inV, eqV]; omega
def sp_case : Sp := fun vs H Q _ => ∃ (p : Addr) (z : Int), vs = [.ref p, .int z] ∧ PotAt H p ∧ ∀ (t : Addr) (xm xn xr xd xu : V) (dm dn dr dd du : DV) (H' : Hp), L2.Step p H H' → H' t = some (.tup [xm, xn, xr, xd, xu]) → HD H' 1 xm dm → HD H' 2 xn dn → HD H' 2 xr dr → HD H' 4 xd dd → HT H' 1 xu du → saidD dm dn dr dd = du → Q (.ref t) H'
theorem sc_law_case : FnScope ["_law_pot_here", "_law_cell", "_law_modulus_here", "_law_many", "_law_numbers", "_law_size", "_law_row", "_law_some", "_law_deeds", "_law_due", "_law_way"] ["_law_pot_here", "_law_cell"] (defScope s_law_case) := ⟨rfl, rfl, rfl, by decide +kernel, rfl, by decide +kernel, by decide +kernel⟩
theorem d_law_case (D : Top1 K mg "_law_case" "_law_case" s_law_case ["_law_pot_here", "_law_cell"]) (T : Tx K mg C F FD) (TX : XTx K mg B c) (D_law_deed : Def P w K mg base "_law_deed" 4 ["_law_pot_here", "_law_many"] sp_ldeed) (D_law_digit : Def P w K mg base "_law_digit" 2 ["_law_pot_here", "_law_many"] sp_digit) (D_law_modulus : Def P w K mg base "_law_modulus" 3 ["_law_pot_here"] sp_modulus) (D_law_no_modulus : Def P w K mg base "_law_no_modulus" 1 ["_law_cell"] sp_nom) (D_law_no_row : Def P w K mg base "_law_no_row" 1 ["_law_cell", "_law_good", "_law_least", "_law_most", "_law_modulus_here"] sp_nor) (D_law_spoiled_deeds : Def P w K mg base "_law_spoiled_deeds" 6 ["_law_cell", "_law_deeds", "_law_many"] sp_spo) : Def P w K mg base "_law_case" 7 ["_law_pot_here", "_law_cell"] sp_case := by
  have sc := sc_law_case
  refine D.ok sc (fun vs H Q E h => ?_) (fun f cdv A outer s H vs Q E hr h => ?_)
  · obtain ⟨p, z, rfl, hp, q⟩ := h
    rfl
  · obtain ⟨p, z, rfl, hp, q⟩ := h
    have hu := hr.units
    refine ⟨_, (pss_cons (ps_st (i := 2) sc.nd rfl (by first | exact Or.inl rfl | exact Or.inr rfl) (pe_cf D_law_modulus hr (pa_c (pv 0) pa_nil)))
      (pss_cons (ps_st (i := 3) sc.nd rfl (by first | exact Or.inl rfl | exact Or.inr rfl) (pe_op op_uAd pe_int (pe_cf D_law_digit hr (pa_c (pv 0) (pa_c pe_int pa_nil)))))
      (pss_cons (ps_setLc (i := 4) sc.nd rfl (by first | exact Or.inl rfl | exact Or.inr rfl) (N' := ["_law_j", "_law_pot_here", "_law_modulus_here"]) (ix := [none, some 0, some 2]) rfl (by kernel_rfl) rfl (by kernel_rfl) (pi_range1 rfl T.b_range (pa_c (pv 3) pa_nil)) (fun _ _ _ _ => (pg_name (i := 0) (show (["_law_j", "_law_pot_here", "_law_modulus_here"] : List PySem.Str).Nodup by decide +kernel) rfl (by first | exact Or.inl rfl | exact Or.inr rfl))) (fun _ _ _ _ => pts_nil) (fun _ _ _ _ => (pe_cf D_law_digit hr (pa_c (pv 1) (pa_c (pv 2) pa_nil)))))
      (pss_cons (ps_st (i := 5) sc.nd rfl (by first | exact Or.inl rfl | exact Or.inr rfl) (pe_cf D_law_digit hr (pa_c (pv 0) (pa_c pe_int pa_nil))))
      (pss_cons (ps_setLc (i := 6) sc.nd rfl (by first | exact Or.inl rfl | exact Or.inr rfl) (N' := ["_law_j", "_law_pot_here", "_law_modulus_here"]) (ix := [none, some 0, some 2]) rfl (by kernel_rfl) rfl (by kernel_rfl) (pi_range1 rfl T.b_range (pa_c (pv 5) pa_nil)) (fun _ _ _ _ => (pg_name (i := 0) (show (["_law_j", "_law_pot_here", "_law_modulus_here"] : List PySem.Str).Nodup by decide +kernel) rfl (by first | exact Or.inl rfl | exact Or.inr rfl))) (fun _ _ _ _ => pts_nil) (fun _ _ _ _ => (pe_cf D_law_digit hr (pa_c (pv 1) (pa_c (pv 2) pa_nil)))))
      (pss_cons (ps_st (i := 5) sc.nd rfl (by first | exact Or.inl rfl | exact Or.inr rfl) (pe_cf D_law_digit hr (pa_c (pv 0) (pa_c pe_int pa_nil))))
      (pss_cons (ps_setLc (i := 7) sc.nd rfl (by first | exact Or.inl rfl | exact Or.inr rfl) (N' := ["_law_j", "_law_pot_here", "_law_many"]) (ix := [none, some 0, some 3]) rfl (by kernel_rfl) rfl (by kernel_rfl) (pi_range1 rfl T.b_range (pa_c (pv 5) pa_nil)) (fun _ _ _ _ => (pg_name (i := 0) (show (["_law_j", "_law_pot_here", "_law_many"] : List PySem.Str).Nodup by decide +kernel) rfl (by first | exact Or.inl rfl | exact Or.inr rfl))) (fun _ _ _ _ => pts_nil) (fun _ _ _ _ => (pe_cf D_law_deed hr (pa_c (pv 1) (pa_c (pv 2) pa_nil)))))
      (pss_cons (ps_asg (pe_cf D_law_spoiled_deeds hr (pa_c (pv 1) (pa_c (pv 7) (pa_c (pv 3) pa_nil)))) (pg_two (i := 8) (j := 9) rfl sc.nd rfl rfl (by first | exact Or.inl rfl | exact Or.inr rfl) (by first | exact Or.inl rfl | exact Or.inr rfl)))
      (pss_cons (ps_st (i := 10) sc.nd rfl (by first | exact Or.inl rfl | exact Or.inr rfl) (pe_op op_uMod (pv 1) pe_int))
      (pss_cons (ps_if (pt_cmpR (op_uEq hu) (pv 10) pe_int (nomark _)) (pss_one (ps_st (i := 2) sc.nd rfl (by first | exact Or.inl rfl | exact Or.inr rfl) (pe_cf D_law_no_modulus hr (pa_c (pe_op op_uFdiv (pv 1) pe_int) pa_nil)))) pss_nil)
      (pss_cons (ps_if (pt_cmpR (op_uEq hu) (pv 10) pe_int (nomark _)) (pss_one (ps_st (i := 4) sc.nd rfl (by first | exact Or.inl rfl | exact Or.inr rfl) (pe_cf D_law_no_row hr (pa_c (pe_op op_uFdiv (pv 1) pe_int) (pa_c (pv 4) (pa_c pe_int (pa_c pe_int (pa_c (pv 2) pa_nil)))))))) pss_nil)
      (pss_cons (ps_if (pt_cmpR (op_uEq hu) (pv 10) pe_int (nomark _)) (pss_one (ps_st (i := 6) sc.nd rfl (by first | exact Or.inl rfl | exact Or.inr rfl) (pe_cf D_law_no_row hr (pa_c (pe_op op_uFdiv (pv 1) pe_int) (pa_c (pv 6) (pa_c pe_int (pa_c pe_int (pa_c (pv 2) pa_nil)))))))) pss_nil)
      (pss_cons (ps_if (pt_cmpR (op_uEq hu) (pv 10) pe_int (nomark _)) (pss_cons (ps_st (i := 8) sc.nd rfl (by first | exact Or.inl rfl | exact Or.inr rfl) (pe_ixu hu (pe_lst (pa_c pe_non (pa_c pe_int (pa_c pe_str (pa_c pe_str (pa_c pe_dnewK (pa_c pe_bl (pa_c (pe_tup (pa_c pe_str pa_nil)) (pa_c (pe_lst (pa_c pe_str pa_nil)) pa_nil))))))))) (pe_op op_uMod (pe_op op_uFdiv (pv 1) pe_int) pe_int)))
      (pss_one (ps_st (i := 9) sc.nd rfl (by first | exact Or.inl rfl | exact Or.inr rfl) (pe_ixu hu (pe_lst (pa_c pe_str (pa_c (pe_tup (pa_c pe_str (pa_c pe_int pa_nil))) pa_nil))) (pe_cT call_int1 rfl T.b_int PyProof.Rows.boot_int (pa_c (pe_cmpR op_uGt (pe_op op_uMod (pe_op op_uFdiv (pv 1) pe_int) pe_int) pe_int (nomark _)) pa_nil)))))) pss_nil)
      (pss_cons (ps_if (pt_cmpR op_uIn (pv 10) (pe_tup (pa_c pe_int (pa_c pe_int (pa_c pe_int pa_nil)))) (by with_unfolding_all rfl)) (pss_cons (ps_st (i := 9) sc.nd rfl (by first | exact Or.inl rfl | exact Or.inr rfl) pe_str)
      (pss_one (ps_st (i := 8) sc.nd rfl (by first | exact Or.inl rfl | exact Or.inr rfl) (pe_op op_uAd (pv 8) (pe_slu (pe_lst (pa_c pe_int pa_nil)) po_none (po_some (pe_op op_uMod (pe_op op_uFdiv (pv 1) pe_int) pe_int))))))) pss_nil)
      (pss_one (ps_ret (pe_tup (pa_c (pv 2) (pa_c (pv 4) (pa_c (pv 6) (pa_c (pv 8) (pa_c (pv 9) pa_nil)))))))))))))))))))))), ?_⟩
    refine L2.seq_gen fun N1 h1 => ?_
    try walk_at "rs"
    refine ⟨p, rfl, hp, fun M H1 hM2 hM12 st1 => ?_⟩
    refine L2.use_eq h1 ?_
    clear h1
    refine L2.seq_gen fun N2 h2 => ?_
    try walk_at "rs"
    refine dig st1.pot (by decide) (by decide +kernel) fun d2 H2 h20 h21 st2 => ?_
    have st02 := st1.trans st2
    try walk_at "rs"
    refine L2.use_eq h2 ?_
    clear h2
    refine L2.seq_gen fun N3 h3 => ?_
    refine L2.asg_ ?_
    refine do_tLc ?_
    refine ⟨.int (1 + d2), rfl, 1 + d2, rfl, by omega, by omega, fun ln hD3 => ?_⟩
    have hDp3 : ln ≠ p := Step.ne st02.pot hD3
    refine lc_turns (J := Itr 0 ((1 + d2).toNat)) (n := (1 + d2).toNat) (fun i ys H' => ∃ ns : List Int, ys = ns.map V.int ∧ ns.length = i ∧ L2.Step p H2 H' ∧ (∀ z ∈ ns, 0 ≤ z ∧ z < M)) (by rw [PySem.sizeLine_eq]; omega) ⟨[], rfl, rfl, (Step.refl st02.pot).new hD3, fun z hz => by simp at hz⟩ (fun i ys H' hi _ => hi) (fun ys H' _ => Nat.le_refl _) ?_ ?_
    · rintro i ys H' hi hys hl ⟨ns, rfl, hn, st, hb⟩ x H3 ⟨rfl, rfl⟩
      refine ⟨Ext.set (Ext.refl _) rfl, ?_⟩
      try walk_at "rs"
      rw [if_pos trivial]
      refine dig st.pot (by omega) (log12 (by omega) hM12) fun d H4 h3 h4 st4 => ?_
      refine lc_put (st4.rest _ _ hys hDp3) hl hi (by rw [PySem.sizeLine_eq]; omega) ⟨ns ++ [d], by simp, by simp [hn], step_put hD3 hDp3 (st.trans st4), fun z hz => ?_⟩
      rcases List.mem_append.mp hz with z1 | z1
      · exact hb z z1
      · simp at z1; subst z1; exact ⟨h3, h4⟩
    rintro ysn H3 hysn _ ⟨ns, rfl, hnn, st3, hbn⟩
    have st03 := st02.trans st3
    refine L2.g_name ?_
    refine L2.use_eq h3 ?_
    clear h3
    refine L2.seq_gen fun N4 h4 => ?_
    try walk_at "rs"
    refine dig st03.pot (by decide) (by decide +kernel) fun d4 H4 h40 h41 st4 => ?_
    have hysn4 := st4.rest _ _ hysn hDp3
    have st04 := st03.trans st4
    try walk_at "rs"
    refine L2.use_eq h4 ?_
    clear h4
    refine L2.seq_gen fun N5 h5 => ?_
    refine L2.asg_ ?_
    refine do_tLc ?_
    refine ⟨.int d4, rfl, d4, rfl, by omega, by omega, fun lr hD5 => ?_⟩
    have hDp5 : lr ≠ p := Step.ne st04.pot hD5
    refine lc_turns (J := Itr 0 (d4.toNat)) (n := d4.toNat) (fun i ys H' => ∃ ns : List Int, ys = ns.map V.int ∧ ns.length = i ∧ L2.Step p H4 H' ∧ (∀ z ∈ ns, 0 ≤ z ∧ z < M)) (by rw [PySem.sizeLine_eq]; omega) ⟨[], rfl, rfl, (Step.refl st04.pot).new hD5, fun z hz => by simp at hz⟩ (fun i ys H' hi _ => hi) (fun ys H' _ => Nat.le_refl _) ?_ ?_
    · rintro i ys H' hi hys hl ⟨ns, rfl, hn, st, hb⟩ x H3 ⟨rfl, rfl⟩
      refine ⟨Ext.set (Ext.refl _) rfl, ?_⟩
      try walk_at "rs"
      rw [if_pos trivial]
      refine dig st.pot (by omega) (log12 (by omega) hM12) fun d H4 h3 h4 st4 => ?_
      refine lc_put (st4.rest _ _ hys hDp5) hl hi (by rw [PySem.sizeLine_eq]; omega) ⟨ns ++ [d], by simp, by simp [hn], step_put hD5 hDp5 (st.trans st4), fun z hz => ?_⟩
      rcases List.mem_append.mp hz with z1 | z1
      · exact hb z z1
      · simp at z1; subst z1; exact ⟨h3, h4⟩
    rintro ysr H5 hysr _ ⟨rs, rfl, hnr, st5, hbr⟩
    have hysn5 := st5.rest _ _ hysn4 hDp3
    have st05 := st04.trans st5
    refine L2.g_name ?_
    refine L2.use_eq h5 ?_
    clear h5
    refine L2.seq_gen fun N6 h6 => ?_
    try walk_at "rs"
    refine dig st05.pot (by decide) (by decide +kernel) fun d6 H6 h60 h61 st6 => ?_
    have hysn6 := st6.rest _ _ hysn5 hDp3
    have hysr6 := st6.rest _ _ hysr hDp5
    have st06 := st05.trans st6
    try walk_at "rs"
    refine L2.use_eq h6 ?_
    clear h6
    refine L2.seq_gen fun N7 h7 => ?_
    refine L2.asg_ ?_
    refine do_tLc ?_
    refine ⟨.int d6, rfl, d6, rfl, by omega, by omega, fun ld hD7 => ?_⟩
    have hDp7 : ld ≠ p := Step.ne st06.pot hD7
    refine lc_turns (J := Itr 0 (d6.toNat)) (n := d6.toNat) (fun i ys H' => ∃ ds : List Deed, ys.length = ds.length ∧ ds.length = i ∧ L2.Step p H6 H' ∧ (∀ d ∈ ds, d.ok (1 + d2)) ∧ ∀ (j : Nat) u d, ys[j]? = some u → ds[j]? = some d → HT H' 2 u (Deed.dv d)) (by rw [PySem.sizeLine_eq]; omega) ⟨[], rfl, rfl, (Step.refl st06.pot).new hD7, (fun z hz => by simp at hz), fun j u d hu => by simp at hu⟩ (fun i ys H' hi _ => hi) (fun ys H' _ => Nat.le_refl _) ?_ ?_
    · rintro i ys H' hi hys hl ⟨ds, hl1, hn, st, hok, hdl⟩ x H3 ⟨rfl, rfl⟩
      refine ⟨Ext.set (Ext.refl _) rfl, ?_⟩
      try walk_at "rs"
      rw [if_pos trivial]
      refine ⟨p, 1 + d2, rfl, st.pot, by omega, by omega, fun dx dd H4 st4 hdx hddok => ?_⟩
      have tD : Tups H4 (upd H4 ld (.lst (ys ++ [dx]))) := (Tups.refl H4).upd fun zs e => by rw [st4.rest _ _ hys hDp7] at e; cases e
      refine lc_put (st4.rest _ _ hys hDp7) hl hi (by rw [PySem.sizeLine_eq]; omega) ⟨ds ++ [dd], by simp [hl1], by simp [hn], step_put hD7 hDp7 (st.trans st4), fun d' hd' => ?_, fun j u d' hu hd' => ?_⟩
      · rcases List.mem_append.mp hd' with z | z
        · exact hok d' z
        · simp at z; subst z; exact hddok
      · by_cases hj : j < ys.length
        · rw [List.getElem?_append_left hj] at hu
          rw [List.getElem?_append_left (by omega)] at hd'
          exact (hdl j u d' hu hd').stay ((st4.tups st.pot).trans tD)
        · rw [List.getElem?_append_right (by omega)] at hu
          rw [List.getElem?_append_right (by omega), ← hl1] at hd'
          cases hk : j - ys.length with
          | zero => rw [hk] at hu hd'; cases hu; cases hd'; exact hdx.stay tD
          | succ k => rw [hk] at hu; simp at hu
    rintro ysd H7 hysd _ ⟨ds, hld, hnd, st7, hokd, hdl⟩
    have hysn7 := st7.rest _ _ hysn6 hDp3
    have hysr7 := st7.rest _ _ hysr6 hDp5
    have st07 := st06.trans st7
    refine L2.g_name ?_
    refine L2.use_eq h7 ?_
    clear h7 hD3 hD5 hD7 st06 st6 st05 st5 st04 st4 st03 st3 st02 st2 st1 st7 hysn hysn4 hysn5 hysn6 hysr hysr6
    have hdn : HD H7 2 (.ref ln) (.lst (ns.map DV.int)) := hd_ints (n := 1) hysn7
    have hdr : HD H7 2 (.ref lr) (.lst (rs.map DV.int)) := hd_ints (n := 1) hysr7
    have hdd : HD H7 4 (.ref ld) (.lst (ds.map Deed.dv)) := .lst hysd (by simpa using hld) fun j u d hu hd => by
      rw [List.getElem?_map] at hd
      obtain ⟨d', e1, rfl⟩ := Option.map_eq_some_iff.mp hd
      exact HD.up (hdl j u d' hu e1).hd (by decide)
    have hgn : countedD 1 4 M (.lst (ns.map DV.int)) = true := counted_good (by omega) (by omega) hbn
    have hgr : countedD 0 12 M (.lst (rs.map DV.int)) = true := counted_good (by omega) (by omega) hbr
    have hgm : inRD 2 1000000000001 (.int M) = true := by simp [inRD]; omega
    have hmany : (1 : Int) + d2 = (ns.length : Int) := by omega
    have hgd : ∀ d ∈ ds.map Deed.dv, deedD (1 + d2) d = true := fun d hd => by
      obtain ⟨d', h, rfl⟩ := List.mem_map.mp hd
      exact ok_deedD (hokd d' h)
    refine L2.seq_gen fun N8 h8 => ?_
    try walk_at "rs"
    refine ⟨z, ld, _, 1 + d2, rfl, hdd, by omega, by simp; omega, hgd, fun pt xd xu dd H8 s8 ept hxd hdl60 hxu => ?_⟩
    have st08 := st07.same s8
    try walk_at "rs"
    refine ⟨pt, _, rfl, SqT.of ept, rfl, _, _, rfl, _, _, rfl, rfl, ?_⟩
    refine L2.use_eq h8 ?_
    clear h8
    have hdn8 := hdn.same s8
    have hdr8 := hdr.same s8
    have hysn8 := s8 _ _ hysn7
    have hysr8 := s8 _ _ hysr7
    have hmgood : machD (.int M) (.lst (ns.map DV.int)) (.lst (rs.map DV.int)) (.lst dd) = true := by
      rw [machD, hgm]; simp [countM, hgn, hgr, seqD]
    refine L2.seq_gen fun N9 h9 => ?_
    try walk_at "rs"
    refine ⟨by decide, ?_⟩
    refine L2.use_eq h9 ?_
    clear h9
    try dsimp only [List.set]
    by_cases h1 : z % 8 = 1
    · refine L2.seq_gen fun N10 h10 => ?_
      refine L2.ifs_gen fun T U hT hU => ?_
      try walk_at "rs"
      rw [if_pos (by simp [h1])]
      refine L2.use_eq hT ?_
      try walk_at "rs"
      refine ⟨⟨by decide, by decide⟩, _, rfl, fun xm dm Hc s9 hxm hbad => ?_⟩
      try walk_at "rs"
      refine L2.use_eq h10 ?_
      clear h10 hT hU
      refine L2.seq_gen fun N11 h11 => ?_
      refine L2.ifs_gen fun T U hT hU => ?_
      try walk_at "rs"
      rw [if_neg (by simp [h1])]
      refine L2.use_eq hU ?_
      try walk_at "rs"
      refine L2.use_eq h11 ?_
      clear h11 hT hU
      refine L2.seq_gen fun N12 h12 => ?_
      refine L2.ifs_gen fun T U hT hU => ?_
      try walk_at "rs"
      rw [if_neg (by simp [h1])]
      refine L2.use_eq hU ?_
      try walk_at "rs"
      refine L2.use_eq h12 ?_
      clear h12 hT hU
      refine L2.seq_gen fun N13 h13 => ?_
      refine L2.ifs_gen fun T U hT hU => ?_
      try walk_at "rs"
      rw [if_neg (by simp [h1])]
      refine L2.use_eq hU ?_
      try walk_at "rs"
      refine L2.use_eq h13 ?_
      clear h13 hT hU
      refine L2.seq_gen fun N14 h14 => ?_
      refine L2.ifs_gen fun T U hT hU => ?_
      try walk_at "rs"
      refine ⟨by show 3 ≤ PySem.sizeLine; decide, fun pw hpw => ?_⟩
      have s14 := Same.new (.tup [.int 1, .int 2, .int 3]) hpw
      try walk_at "rs"
      refine ⟨_, .inr (SqT.of upd_same), rfl, rfl, ?_⟩
      rw [if_pos (by rw [h1]; rfl)]
      refine L2.use_eq hT ?_
      refine L2.seq_gen fun N18 h18 => ?_
      try walk_at "rs"
      refine L2.use_eq h18 ?_
      clear h18
      generalize hGw : upd Hc pw (.tup [.int 1, .int 2, .int 3]) = Gw at *
      try walk_at "rs"
      refine ⟨by show 1 ≤ PySem.sizeLine; decide, fun p7 hp7 => ?_⟩
      have u7 := Same.new (.lst [.int 7]) hp7
      have e7 : upd Gw p7 (.lst [.int 7]) p7 = some (.lst [.int 7]) := upd_same
      generalize hG7 : upd Gw p7 (.lst [.int 7]) = G7 at *
      refine ⟨⟨by decide, by decide⟩, by decide, ?_⟩
      have hc0 : 0 ≤ z / 7 % 2 := Int.emod_nonneg _ (by decide)
      generalize z / 7 % 2 = cc at *
      obtain ⟨c1, rfl⟩ := Int.eq_ofNat_of_zero_le hc0
      try walk_at "rs"
      refine .inl ⟨[.int 7], e7, fun p8 hp8 => ?_⟩
      rw [cut_to]
      have u8 := Same.new (.lst ([V.int 7].take c1)) hp8
      have e8 : HD (upd G7 p8 (.lst ([V.int 7].take c1))) 4 (.ref p8) (.lst ([DV.int 7].take c1)) := hd_take rfl (fun j u e a b => by
        match j, a, b with
        | 0, a, b => cases a; cases b; exact .int 7) upd_same
      generalize hG8 : upd G7 p8 (.lst ([V.int 7].take c1)) = G8 at *
      have sw : Same H8 G8 := s9.trans (s14.trans (u7.trans u8))
      try walk_at "rs"
      refine hd_app (hxd.same sw) e8 (by simp; omega) fun p9 H9 u9 e9 => ?_
      try walk_at "rs"
      refine L2.use_eq h14 ?_
      clear h14 hT hU
      try walk_at "rs"
      refine ⟨by show 5 ≤ PySem.sizeLine; decide, fun t ht => ?_⟩
      have s15 := Same.new (.tup [xm, .ref ln, .ref lr, .ref p9, .str "machine"]) ht
      have sF : Same Hc (upd H9 t (.tup [xm, .ref ln, .ref lr, .ref p9, .str "machine"])) := s14.trans (u7.trans (u8.trans (u9.trans s15)))
      have sE : Same H8 (upd H9 t (.tup [xm, .ref ln, .ref lr, .ref p9, .str "machine"])) := s9.trans sF
      exact q t _ _ _ _ _ _ _ _ _ _ _ (st08.same sE) upd_same (hxm.same sF) (hdn8.same sE) (hdr8.same sE) (e9.same s15) (.str "machine") (by rw [saidD, if_neg (by rw [bad_m hbad]; decide)])

    by_cases h2 : z % 8 = 2
    · refine L2.seq_gen fun N10 h10 => ?_
      refine L2.ifs_gen fun T U hT hU => ?_
      try walk_at "rs"
      rw [if_neg (by simp [h2])]
      refine L2.use_eq hU ?_
      try walk_at "rs"
      refine L2.use_eq h10 ?_
      clear h10 hT hU
      refine L2.seq_gen fun N11 h11 => ?_
      refine L2.ifs_gen fun T U hT hU => ?_
      try walk_at "rs"
      rw [if_pos (by simp [h2])]
      refine L2.use_eq hT ?_
      try walk_at "rs"
      refine ⟨⟨by decide, by decide⟩, _, ln, 1, 4, M, ns, rfl, hysn8, .inl ⟨rfl, by omega⟩, by decide, by decide, by omega, fun xn dn Hc s9 hxn hbad => ?_⟩
      try walk_at "rs"
      refine L2.use_eq h11 ?_
      clear h11 hT hU
      refine L2.seq_gen fun N12 h12 => ?_
      refine L2.ifs_gen fun T U hT hU => ?_
      try walk_at "rs"
      rw [if_neg (by simp [h2])]
      refine L2.use_eq hU ?_
      try walk_at "rs"
      refine L2.use_eq h12 ?_
      clear h12 hT hU
      refine L2.seq_gen fun N13 h13 => ?_
      refine L2.ifs_gen fun T U hT hU => ?_
      try walk_at "rs"
      rw [if_neg (by simp [h2])]
      refine L2.use_eq hU ?_
      try walk_at "rs"
      refine L2.use_eq h13 ?_
      clear h13 hT hU
      refine L2.seq_gen fun N14 h14 => ?_
      refine L2.ifs_gen fun T U hT hU => ?_
      try walk_at "rs"
      refine ⟨by show 3 ≤ PySem.sizeLine; decide, fun pw hpw => ?_⟩
      have s14 := Same.new (.tup [.int 1, .int 2, .int 3]) hpw
      try walk_at "rs"
      refine ⟨_, .inr (SqT.of upd_same), rfl, rfl, ?_⟩
      rw [if_pos (by rw [h2]; rfl)]
      refine L2.use_eq hT ?_
      refine L2.seq_gen fun N18 h18 => ?_
      try walk_at "rs"
      refine L2.use_eq h18 ?_
      clear h18
      generalize hGw : upd Hc pw (.tup [.int 1, .int 2, .int 3]) = Gw at *
      try walk_at "rs"
      refine ⟨by show 1 ≤ PySem.sizeLine; decide, fun p7 hp7 => ?_⟩
      have u7 := Same.new (.lst [.int 7]) hp7
      have e7 : upd Gw p7 (.lst [.int 7]) p7 = some (.lst [.int 7]) := upd_same
      generalize hG7 : upd Gw p7 (.lst [.int 7]) = G7 at *
      refine ⟨⟨by decide, by decide⟩, by decide, ?_⟩
      have hc0 : 0 ≤ z / 7 % 2 := Int.emod_nonneg _ (by decide)
      generalize z / 7 % 2 = cc at *
      obtain ⟨c1, rfl⟩ := Int.eq_ofNat_of_zero_le hc0
      try walk_at "rs"
      refine .inl ⟨[.int 7], e7, fun p8 hp8 => ?_⟩
      rw [cut_to]
      have u8 := Same.new (.lst ([V.int 7].take c1)) hp8
      have e8 : HD (upd G7 p8 (.lst ([V.int 7].take c1))) 4 (.ref p8) (.lst ([DV.int 7].take c1)) := hd_take rfl (fun j u e a b => by
        match j, a, b with
        | 0, a, b => cases a; cases b; exact .int 7) upd_same
      generalize hG8 : upd G7 p8 (.lst ([V.int 7].take c1)) = G8 at *
      have sw : Same H8 G8 := s9.trans (s14.trans (u7.trans u8))
      try walk_at "rs"
      refine hd_app (hxd.same sw) e8 (by simp; omega) fun p9 H9 u9 e9 => ?_
      try walk_at "rs"
      refine L2.use_eq h14 ?_
      clear h14 hT hU
      try walk_at "rs"
      refine ⟨by show 5 ≤ PySem.sizeLine; decide, fun t ht => ?_⟩
      have s15 := Same.new (.tup [.int M, xn, .ref lr, .ref p9, .str "machine"]) ht
      have sF : Same Hc (upd H9 t (.tup [.int M, xn, .ref lr, .ref p9, .str "machine"])) := s14.trans (u7.trans (u8.trans (u9.trans s15)))
      have sE : Same H8 (upd H9 t (.tup [.int M, xn, .ref lr, .ref p9, .str "machine"])) := s9.trans sF
      exact q t _ _ _ _ _ _ _ _ _ _ _ (st08.same sE) upd_same (.int M) (hxn.same sF) (hdr8.same sE) (e9.same s15) (.str "machine") (by rw [saidD, if_neg (by rw [bad_n hbad]; decide)])

    by_cases h3 : z % 8 = 3
    · refine L2.seq_gen fun N10 h10 => ?_
      refine L2.ifs_gen fun T U hT hU => ?_
      try walk_at "rs"
      rw [if_neg (by simp [h3])]
      refine L2.use_eq hU ?_
      try walk_at "rs"
      refine L2.use_eq h10 ?_
      clear h10 hT hU
      refine L2.seq_gen fun N11 h11 => ?_
      refine L2.ifs_gen fun T U hT hU => ?_
      try walk_at "rs"
      rw [if_neg (by simp [h3])]
      refine L2.use_eq hU ?_
      try walk_at "rs"
      refine L2.use_eq h11 ?_
      clear h11 hT hU
      refine L2.seq_gen fun N12 h12 => ?_
      refine L2.ifs_gen fun T U hT hU => ?_
      try walk_at "rs"
      rw [if_pos (by simp [h3])]
      refine L2.use_eq hT ?_
      try walk_at "rs"
      refine ⟨⟨by decide, by decide⟩, _, lr, 0, 12, M, rs, rfl, hysr8, .inr rfl, by decide, by decide, by omega, fun xr dr Hc s9 hxr hbad => ?_⟩
      try walk_at "rs"
      refine L2.use_eq h12 ?_
      clear h12 hT hU
      refine L2.seq_gen fun N13 h13 => ?_
      refine L2.ifs_gen fun T U hT hU => ?_
      try walk_at "rs"
      rw [if_neg (by simp [h3])]
      refine L2.use_eq hU ?_
      try walk_at "rs"
      refine L2.use_eq h13 ?_
      clear h13 hT hU
      refine L2.seq_gen fun N14 h14 => ?_
      refine L2.ifs_gen fun T U hT hU => ?_
      try walk_at "rs"
      refine ⟨by show 3 ≤ PySem.sizeLine; decide, fun pw hpw => ?_⟩
      have s14 := Same.new (.tup [.int 1, .int 2, .int 3]) hpw
      try walk_at "rs"
      refine ⟨_, .inr (SqT.of upd_same), rfl, rfl, ?_⟩
      rw [if_pos (by rw [h3]; rfl)]
      refine L2.use_eq hT ?_
      refine L2.seq_gen fun N18 h18 => ?_
      try walk_at "rs"
      refine L2.use_eq h18 ?_
      clear h18
      generalize hGw : upd Hc pw (.tup [.int 1, .int 2, .int 3]) = Gw at *
      try walk_at "rs"
      refine ⟨by show 1 ≤ PySem.sizeLine; decide, fun p7 hp7 => ?_⟩
      have u7 := Same.new (.lst [.int 7]) hp7
      have e7 : upd Gw p7 (.lst [.int 7]) p7 = some (.lst [.int 7]) := upd_same
      generalize hG7 : upd Gw p7 (.lst [.int 7]) = G7 at *
      refine ⟨⟨by decide, by decide⟩, by decide, ?_⟩
      have hc0 : 0 ≤ z / 7 % 2 := Int.emod_nonneg _ (by decide)
      generalize z / 7 % 2 = cc at *
      obtain ⟨c1, rfl⟩ := Int.eq_ofNat_of_zero_le hc0
      try walk_at "rs"
      refine .inl ⟨[.int 7], e7, fun p8 hp8 => ?_⟩
      rw [cut_to]
      have u8 := Same.new (.lst ([V.int 7].take c1)) hp8
      have e8 : HD (upd G7 p8 (.lst ([V.int 7].take c1))) 4 (.ref p8) (.lst ([DV.int 7].take c1)) := hd_take rfl (fun j u e a b => by
        match j, a, b with
        | 0, a, b => cases a; cases b; exact .int 7) upd_same
      generalize hG8 : upd G7 p8 (.lst ([V.int 7].take c1)) = G8 at *
      have sw : Same H8 G8 := s9.trans (s14.trans (u7.trans u8))
      try walk_at "rs"
      refine hd_app (hxd.same sw) e8 (by simp; omega) fun p9 H9 u9 e9 => ?_
      try walk_at "rs"
      refine L2.use_eq h14 ?_
      clear h14 hT hU
      try walk_at "rs"
      refine ⟨by show 5 ≤ PySem.sizeLine; decide, fun t ht => ?_⟩
      have s15 := Same.new (.tup [.int M, .ref ln, xr, .ref p9, .str "machine"]) ht
      have sF : Same Hc (upd H9 t (.tup [.int M, .ref ln, xr, .ref p9, .str "machine"])) := s14.trans (u7.trans (u8.trans (u9.trans s15)))
      have sE : Same H8 (upd H9 t (.tup [.int M, .ref ln, xr, .ref p9, .str "machine"])) := s9.trans sF
      exact q t _ _ _ _ _ _ _ _ _ _ _ (st08.same sE) upd_same (.int M) (hdn8.same sE) (hxr.same sF) (e9.same s15) (.str "machine") (by rw [saidD, if_neg (by rw [bad_r hbad]; decide)])

    by_cases h4 : z % 8 = 4
    · refine L2.seq_gen fun N10 h10 => ?_
      refine L2.ifs_gen fun T U hT hU => ?_
      try walk_at "rs"
      rw [if_neg (by simp [h4])]
      refine L2.use_eq hU ?_
      try walk_at "rs"
      refine L2.use_eq h10 ?_
      clear h10 hT hU
      refine L2.seq_gen fun N11 h11 => ?_
      refine L2.ifs_gen fun T U hT hU => ?_
      try walk_at "rs"
      rw [if_neg (by simp [h4])]
      refine L2.use_eq hU ?_
      try walk_at "rs"
      refine L2.use_eq h11 ?_
      clear h11 hT hU
      refine L2.seq_gen fun N12 h12 => ?_
      refine L2.ifs_gen fun T U hT hU => ?_
      try walk_at "rs"
      rw [if_neg (by simp [h4])]
      refine L2.use_eq hU ?_
      try walk_at "rs"
      refine L2.use_eq h12 ?_
      clear h12 hT hU
      refine L2.seq_gen fun N13 h13 => ?_
      refine L2.ifs_gen fun T U hT hU => ?_
      try walk_at "rs"
      rw [if_pos (by simp [h4])]
      refine L2.use_eq hT ?_
      refine L2.seq_gen fun N17 h17 => ?_
      try walk_at "rs"
      intro pd hpd
      have u1 := Same.new (.dK []) hpd
      have e1 : upd H8 pd (.dK []) pd = some (.dK []) := upd_same
      generalize hG1 : upd H8 pd (.dK []) = G1 at *
      refine ⟨by show 1 ≤ PySem.sizeLine; decide, fun p2 hp2 => ?_⟩
      have u2 := Same.new (.tup [.str "drop"]) hp2
      have e2 : upd G1 p2 (.tup [.str "drop"]) p2 = some (.tup [.str "drop"]) := upd_same
      generalize hG2 : upd G1 p2 (.tup [.str "drop"]) = G2 at *
      refine ⟨by show 1 ≤ PySem.sizeLine; decide, fun p3 hp3 => ?_⟩
      have u3 := Same.new (.lst [.str "drop"]) hp3
      have e3 : upd G2 p3 (.lst [.str "drop"]) p3 = some (.lst [.str "drop"]) := upd_same
      generalize hG3 : upd G2 p3 (.lst [.str "drop"]) = G3 at *
      refine ⟨by show 8 ≤ PySem.sizeLine; decide, fun p4 hp4 => ?_⟩
      have u4 := Same.new (.lst [.non, .int 7, .str "deeds", .str "", .ref pd, .bl true, .ref p2, .ref p3]) hp4
      have e4 : upd G3 p4 (.lst [.non, .int 7, .str "deeds", .str "", .ref pd, .bl true, .ref p2, .ref p3]) p4 = some (.lst [.non, .int 7, .str "deeds", .str "", .ref pd, .bl true, .ref p2, .ref p3]) := upd_same
      have u14 := u1.trans (u2.trans (u3.trans u4))
      have e14 := (u2.trans (u3.trans u4)) _ _ e1
      have e24 := (u3.trans u4) _ _ e2
      have e34 := u4 _ _ e3
      generalize hG4 : upd G3 p4 (.lst [.non, .int 7, .str "deeds", .str "", .ref pd, .bl true, .ref p2, .ref p3]) = G4 at *
      refine ⟨⟨by decide, by decide⟩, by decide, ?_⟩
      have hy0 : 0 ≤ z / 8 % 8 := Int.emod_nonneg _ (by decide)
      have hy1 : z / 8 % 8 < 8 := Int.emod_lt_of_pos _ (by decide)
      generalize hyy : z / 8 % 8 = y at *
      have pick : ∃ v d, atI [V.non, V.int 7, V.str "deeds", V.str "", V.ref pd, V.bl true, V.ref p2, V.ref p3] y = some v ∧ HD G4 4 v d ∧ ((y ≤ 5 ∧ seqD d = false) ∨ (5 < y ∧ seqD d = true ∧ seqL d = [.str "drop"])) := by
        have hh : y = 0 ∨ y = 1 ∨ y = 2 ∨ y = 3 ∨ y = 4 ∨ y = 5 ∨ y = 6 ∨ y = 7 := by omega
        rcases hh with rfl | rfl | rfl | rfl | rfl | rfl | rfl | rfl
        · exact ⟨_, _, rfl, .non, .inl ⟨by decide, rfl⟩⟩
        · exact ⟨_, _, rfl, .int 7, .inl ⟨by decide, rfl⟩⟩
        · exact ⟨_, _, rfl, .str _, .inl ⟨by decide, rfl⟩⟩
        · exact ⟨_, _, rfl, .str _, .inl ⟨by decide, rfl⟩⟩
        · exact ⟨_, _, rfl, .dict e14, .inl ⟨by decide, rfl⟩⟩
        · exact ⟨_, _, rfl, .bl _, .inl ⟨by decide, rfl⟩⟩
        · exact ⟨_, .tup [.str "drop"], rfl, .tup e24 rfl (fun j u d hu hd => by
            match j, hu, hd with
            | 0, hu, hd => cases hu; cases hd; exact .str _), .inr ⟨by decide, rfl, rfl⟩⟩
        · exact ⟨_, .lst [.str "drop"], rfl, .lst e34 rfl (fun j u d hu hd => by
            match j, hu, hd with
            | 0, hu, hd => cases hu; cases hd; exact .str _), .inr ⟨by decide, rfl, rfl⟩⟩
      obtain ⟨v, dv, ev, hv, hcase⟩ := pick
      refine ⟨_, v, .inl (SqL.of e4), ev, ?_⟩
      refine L2.use_eq h17 ?_
      clear h17
      try walk_at "rs"
      refine ⟨two_le, fun p5 hp5 => ?_⟩
      have u5 := Same.new (.tup [.str "deed", .int 0]) hp5
      have e5 : upd G4 p5 (.tup [.str "deed", .int 0]) p5 = some (.tup [.str "deed", .int 0]) := upd_same
      generalize hG5 : upd G4 p5 (.tup [.str "deed", .int 0]) = G5 at *
      refine ⟨two_le, fun p6 hp6 => ?_⟩
      have u6 := Same.new (.lst [.str "machine", .ref p5]) hp6
      have e6 : upd G5 p6 (.lst [.str "machine", .ref p5]) p6 = some (.lst [.str "machine", .ref p5]) := upd_same
      have e56 := u6 _ _ e5
      generalize hG6 : upd G5 p6 (.lst [.str "machine", .ref p5]) = G6 at *
      refine ⟨⟨by decide, by decide⟩, by decide, .inr ?_⟩
      rw [hyy]
      rcases hcase with ⟨hy5, hsd⟩ | ⟨hy5, hsd, hsl⟩
      · refine ⟨_, .str "machine", .inl (SqL.of e6), by rw [if_neg (by simp; omega)]; rfl, ?_⟩
        refine L2.use_eq h13 ?_
        clear h13 hT hU
        refine L2.seq_gen fun N14 h14 => ?_
        refine L2.ifs_gen fun T U hT hU => ?_
        try walk_at "rs"
        refine ⟨by show 3 ≤ PySem.sizeLine; decide, fun pw hpw => ?_⟩
        have s14 := Same.new (.tup [.int 1, .int 2, .int 3]) hpw
        try walk_at "rs"
        refine ⟨_, .inr (SqT.of upd_same), rfl, rfl, ?_⟩
        rw [if_neg (by rw [h4]; decide)]
        refine L2.use_eq hU ?_
        try walk_at "rs"
        refine L2.use_eq h14 ?_
        clear h14 hT hU
        try walk_at "rs"
        refine ⟨by show 5 ≤ PySem.sizeLine; decide, fun t ht => ?_⟩
        have s15 := Same.new (.tup [.int M, .ref ln, .ref lr, v, .str "machine"]) ht
        have sF := s14.trans s15
        have sE := u14.trans (u5.trans (u6.trans sF))
        refine q t _ _ _ _ _ _ _ _ _ _ _ (st08.same sE) upd_same (.int M) (hdn8.same sE) (hdr8.same sE) (hv.same (u5.trans (u6.trans sF))) (.str "machine") ?_
        rw [saidD, if_neg (by rw [machD, hsd]; simp)]

      · refine ⟨_, .ref p5, .inl (SqL.of e6), by rw [if_pos (by simpa using hy5)]; rfl, ?_⟩
        refine L2.use_eq h13 ?_
        clear h13 hT hU
        refine L2.seq_gen fun N14 h14 => ?_
        refine L2.ifs_gen fun T U hT hU => ?_
        try walk_at "rs"
        refine ⟨by show 3 ≤ PySem.sizeLine; decide, fun pw hpw => ?_⟩
        have s14 := Same.new (.tup [.int 1, .int 2, .int 3]) hpw
        try walk_at "rs"
        refine ⟨_, .inr (SqT.of upd_same), rfl, rfl, ?_⟩
        rw [if_neg (by rw [h4]; decide)]
        refine L2.use_eq hU ?_
        try walk_at "rs"
        refine L2.use_eq h14 ?_
        clear h14 hT hU
        try walk_at "rs"
        refine ⟨by show 5 ≤ PySem.sizeLine; decide, fun t ht => ?_⟩
        have s15 := Same.new (.tup [.int M, .ref ln, .ref lr, v, .ref p5]) ht
        have sF := s14.trans s15
        have sE := u14.trans (u5.trans (u6.trans sF))
        refine q t _ _ _ _ _ _ _ _ _ _ _ (st08.same sE) upd_same (.int M) (hdn8.same sE) (hdr8.same sE) (hv.same (u5.trans (u6.trans sF))) (due_mk (k := 0) (sF _ _ e56)) ?_
        rw [saidD, if_pos (by rw [machD, hgm, hsd]; simp [countM, hgn, hgr]), hsl]
        rfl

    refine L2.seq_gen fun N10 h10 => ?_
    refine L2.ifs_gen fun T U hT hU => ?_
    try walk_at "rs"
    rw [if_neg (by simp; omega)]
    refine L2.use_eq hU ?_
    try walk_at "rs"
    refine L2.use_eq h10 ?_
    clear h10 hT hU
    refine L2.seq_gen fun N11 h11 => ?_
    refine L2.ifs_gen fun T U hT hU => ?_
    try walk_at "rs"
    rw [if_neg (by simp; omega)]
    refine L2.use_eq hU ?_
    try walk_at "rs"
    refine L2.use_eq h11 ?_
    clear h11 hT hU
    refine L2.seq_gen fun N12 h12 => ?_
    refine L2.ifs_gen fun T U hT hU => ?_
    try walk_at "rs"
    rw [if_neg (by simp; omega)]
    refine L2.use_eq hU ?_
    try walk_at "rs"
    refine L2.use_eq h12 ?_
    clear h12 hT hU
    refine L2.seq_gen fun N13 h13 => ?_
    refine L2.ifs_gen fun T U hT hU => ?_
    try walk_at "rs"
    rw [if_neg (by simp; omega)]
    refine L2.use_eq hU ?_
    try walk_at "rs"
    refine L2.use_eq h13 ?_
    clear h13 hT hU
    refine L2.seq_gen fun N14 h14 => ?_
    refine L2.ifs_gen fun T U hT hU => ?_
    try walk_at "rs"
    refine ⟨by show 3 ≤ PySem.sizeLine; decide, fun pw hpw => ?_⟩
    have s14 := Same.new (.tup [.int 1, .int 2, .int 3]) hpw
    try walk_at "rs"
    refine ⟨_, .inr (SqT.of upd_same), rfl, rfl, ?_⟩
    rw [if_neg (by rw [in3 h1 h2 h3]; decide)]
    refine L2.use_eq hU ?_
    try walk_at "rs"
    refine L2.use_eq h14 ?_
    clear h14 hT hU
    try walk_at "rs"
    refine ⟨by show 5 ≤ PySem.sizeLine; decide, fun t ht => ?_⟩
    have s15 := Same.new (.tup [.int M, .ref ln, .ref lr, .ref xd, xu]) ht
    have sF := s14.trans s15
    refine q t _ _ _ _ _ _ _ _ _ _ _ (st08.same sF) upd_same (.int M) (hdn8.same sF) (hdr8.same sF) (hxd.same sF) (hxu.stay sF.tups) ?_
    rw [saidD, if_pos hmgood]
    show (match firstBad (((ns.map DV.int).length : Nat) : Int) 0 dd with | none => DV.str "made" | some k => .tup [.str "deed", .int k]) = _
    rw [List.length_map, ← hmany]
    cases firstBad (1 + d2) 0 dd <;> rfl
end
end K14

set_option Elab.async false
set_option linter.all false
set_option maxRecDepth 100000
set_option maxHeartbeats 4000000
namespace K14
open PySem L2 DD
section
variable {P : Program} {w : World} {K : PySem.W.Frag} {mg : Str → Option Value} {base : Heap} {C F B : Addr} {c : Nat → Addr} {FD : List (Str × V)}
local macro_rules | `(tactic| walk_at "rd") => `(tactic| simp only [tVar, tC, tOp, tUn, rU, tTest, tB, tNot, tNotV, tAnd, tOr, tAndV, tOrV, tIf, tIfS, tSeq, tNext, tRet, tRetN, tAsg, gName, gSub, tCall, tCB, tCons, tNil, tTup, tLst, tDrop, tChain, uAdd_ii, uAdd_ss, uAdd_rr, uAd_ii, uAd_ss, uAd_rr, uSl_r, uAll_1, uAny_1, uSum1_1, uIsI_t, uIsI_r, uApp_r, uExt_r, uClr_r, uIns_r, uPop0_r, tSl, tNoPart, tPart, tFld, sFld, tMeth, tMake, tBM, tBM0, tCGet, sDelL, tAug, ipI, tNever, uIs_rn, uIs_nn, id_eq, iZip, iEnum, iSeq, iRng1, iRng2, iRng3, tPairs, ↓tLc_box, ↓tFor_box, ↓tWhile_box, ↓tDisp_box, ↓LcGoal_box, uI_ii, uI0_ii, uEq_ii, uEq_ss, uEq_rr, uNe_ii, uNe_ss, uNe_rr, uIs_bb, uIn_r, uIx_ri, uIx_rs, uIx_si, uIsi_t, uLen_1, uII_2, uTuple_1, uList_1, uSetL_ri, tNoTest, blk, some_join, cx_K, cxOf_K, nox_K, bCx_K, L2.start, List.map_cons, List.map_nil, List.length_cons, List.length_nil, List.cons_append, List.nil_append, List.replicate, List.getElem?_cons_zero, List.getElem?_cons_succ, List.append_nil, Option.some.injEq, exists_eq_left', exists_eq_left, V.int.injEq, V.bl.injEq, V.str.injEq, V.ref.injEq, List.cons.injEq, and_true, true_and, List.set_cons_zero, List.set_cons_succ, Nat.reduceSub, Nat.reduceAdd])
local macro_rules | `(tactic| walk_at "rt") => `(tactic| simp only [tVar, tC, tOp, tUn, rU, tTest, tB, tNot, tNotV, tAnd, tOr, tAndV, tOrV, tIf, tIfS, tSeq, tNext, tRet, tRetN, tAsg, gName, gSub, tCall, tCB, tCons, tNil, tTup, tLst, tDrop, tChain, uAdd_ii, uAdd_ss, uAdd_rr, uAd_ii, uAd_ss, uAd_rr, uSl_r, uAll_1, uAny_1, uSum1_1, uIsI_t, uIsI_r, uApp_r, uExt_r, uClr_r, uIns_r, uPop0_r, tSl, tNoPart, tPart, tFld, sFld, tMeth, tMake, tBM, tBM0, tCGet, sDelL, tAug, ipI, tNever, uIs_rn, uIs_nn, id_eq, iZip, iEnum, iSeq, iRng1, iRng2, iRng3, tPairs, ↓tLc_box, ↓tFor_box, ↓tWhile_box, ↓tDisp_box, ↓LcGoal_box, uI_ii, uI0_ii, uEq_ii, uEq_ss, uEq_rr, uNe_ii, uNe_ss, uNe_rr, uIs_bb, uIn_r, uIx_ri, uIx_rs, uIx_si, uIsi_t, uLen_1, uII_2, uList_1, uSetL_ri, tNoTest, blk, some_join, cx_K, cxOf_K, nox_K, bCx_K, L2.start, List.map_cons, List.map_nil, List.length_cons, List.length_nil, List.cons_append, List.nil_append, List.replicate, List.getElem?_cons_zero, List.getElem?_cons_succ, List.append_nil, Option.some.injEq, exists_eq_left', exists_eq_left, V.int.injEq, V.bl.injEq, V.str.injEq, V.ref.injEq, List.cons.injEq, and_true, true_and, List.set_cons_zero, List.set_cons_succ, Nat.reduceSub, Nat.reduceAdd])
local macro_rules | `(tactic| walk_at "go") => `(tactic| repeat (first
  | walk_at "rd"
  | refine ix_t (by assumption) (by first | rfl | exact atI_nat (j := 0) rfl | exact atI_nat (j := 1) rfl | exact atI_nat (j := 2) rfl | exact atI_nat (j := 3) rfl) ?_
  | refine ix_l (by assumption) (by first | rfl | exact atI_nat (j := 0) rfl | exact atI_nat (j := 1) rfl | assumption) ?_
  | rw [if_pos (by decide +kernel)]
  | rw [if_neg (by decide +kernel)]))
local macro_rules | `(tactic| walk_at "rs") => `(tactic| simp only [tVar, tC, tOp, tUn, rU, tTest, tB, tNot, tNotV, tAnd, tOr, tAndV, tOrV, tIf, tIfS, tSeq, tNext, tRet, tRetN, tAsg, gName, gSub, tCall, tCB, tCons, tNil, tTup, tLst, tDrop, tChain, uAdd_ii, uAdd_ss, uAdd_rr, uAd_ii, uAd_ss, uSl_r, uAll_1, uAny_1, uSum1_1, uIsI_t, uIsI_r, uApp_r, uExt_r, uClr_r, uIns_r, uPop0_r, tSl, tNoPart, tPart, tFld, sFld, tMeth, tMake, tBM, tBM0, tCGet, sDelL, tAug, ipI, tNever, uIs_rn, uIs_nn, id_eq, iZip, iEnum, iSeq, iRng1, iRng2, iRng3, tPairs, ↓tLc_box, ↓tFor_box, ↓tWhile_box, ↓tDisp_box, ↓LcGoal_box, uI_ii, uI0_ii, uEq_ii, uEq_ss, uEq_rr, uNe_ii, uNe_ss, uNe_rr, uIs_bb, uIn_r, uIx_ri, uIx_rs, uIx_si, uIsi_t, uLen_1, uII_2, uTuple_1, uList_1, uSetL_ri, tNoTest, blk, some_join, cx_K, cxOf_K, nox_K, bCx_K, L2.start, List.map_cons, List.map_nil, List.length_cons, List.length_nil, List.cons_append, List.nil_append, List.replicate, List.getElem?_cons_zero, List.getElem?_cons_succ, List.append_nil, Option.some.injEq, exists_eq_left', exists_eq_left, V.int.injEq, V.bl.injEq, V.str.injEq, V.ref.injEq, List.cons.injEq, and_true, true_and, List.set_cons_zero, List.set_cons_succ, Nat.reduceSub, Nat.reduceAdd])

abbrev s_law : Stmt := top 58
theorem small40 : ∀ n, n < 41 → Builtin.Range.small 0 (n : Nat) 2 = true := by decide +kernel
theorem small_b {b : Int} (h0 : 0 ≤ b) (h1 : b ≤ 40) : Builtin.Range.small 0 b 2 = true := by
  obtain ⟨n, rfl⟩ := Int.eq_ofNat_of_zero_le h0
  exact small40 n (by omega)
theorem hand_c {lo hi : Int} {dm d d' : DV} (h : d' = d ∨ ∃ ds, d = .lst ds ∧ d' = .tup ds) : countM lo hi dm d' = countM lo hi dm d ∧ seqL d' = seqL d := by
  rcases h with rfl | ⟨ds, rfl, rfl⟩
  · exact ⟨rfl, rfl⟩
  · constructor
    · cases dm <;> rfl
    · rfl
theorem said_hand {dm dn dr dd dn' dr' : DV} (h : dn' = dn ∨ ∃ ds, dn = .lst ds ∧ dn' = .tup ds) (h' : dr' = dr ∨ ∃ ds, dr = .lst ds ∧ dr' = .tup ds) : saidD dm dn' dr' dd = saidD dm dn dr dd := by
  unfold saidD machD
  rw [(hand_c h).1, (hand_c h').1, (hand_c (lo := 0) (hi := 0) (dm := dm) h).2]
def sp_law (K : PySem.W.Frag) : Sp := fun vs H Q _ => ∃ (a : Addr) (ns : List Int), vs = [.ref a] ∧ SqL K H a (ns.map V.int) ∧ ns.length ≤ 63 ∧ ∀ H', Q (.bl true) H'
theorem sc_law : FnScope ["_law_script", "_law_k", "_law_cell", "_law_pot_here", "_law_modulus_here", "_law_numbers", "_law_row", "_law_deeds", "_law_due"] ["_law_script"] (defScope s_law) := ⟨rfl, rfl, rfl, by decide +kernel, rfl, by decide +kernel, by decide +kernel⟩
theorem ok_law {f : Addr} {fd : FuncData} (D : Fun K "law" "law" s_law f fd) (T : Tx K mg C F FD) (TX : XTx K mg B c) (D_law_at : Def P w K mg base "_law_at" 1 ["_law_script", "_law_k"] (sp_at K)) (D_law_case : Def P w K mg base "_law_case" 7 ["_law_pot_here", "_law_cell"] sp_case) (D_law_handed : Def P w K mg base "_law_handed" 1 ["_law_row", "_law_way"] sp_hand) (D_law_pot : Def P w K mg base "_law_pot" 2 ["_law_cell"] sp_pot) (D_law_said : Def P w K mg base "_law_said" 9 ["_law_modulus_here", "_law_numbers", "_law_row", "_law_deeds"] sp_said) : FnOk P w K mg base CX0 10 f fd ["_law_script"] (sp_law K) := by
  have sc := sc_law
  refine D.ok sc (fun vs H Q E h => ?_) (fun cdv A outer s H vs Q E hr h => ?_)
  · obtain ⟨a, ns, rfl, hS, hlen, q⟩ := h
    rfl
  · obtain ⟨a, ns, rfl, hS, hlen, q⟩ := h
    have hu := hr.units
    refine ⟨_, (pss_cons (ps_for PassesOwn.never rfl (pi_range3 rfl T.b_range (pa_c pe_int (pa_c (pe_cB (call_umin rfl) rfl T.b_min PyProof.Rows.boot_min (pa_c (pe_cB (call_umax rfl) rfl T.b_max PyProof.Rows.boot_max (pa_c pe_int (pa_c (pe_cB call_ulen rfl T.b_len PySem.boot_len (pa_c (pv 0) pa_nil)) pa_nil))) (pa_c pe_int pa_nil))) (pa_c pe_int pa_nil)))) (pg_name (i := 1) sc.nd rfl (by first | exact Or.inl rfl | exact Or.inr rfl))
      (pss_cons (ps_st (i := 2) sc.nd rfl (by first | exact Or.inl rfl | exact Or.inr rfl) (pe_cf D_law_at hr (pa_c (pv 0) (pa_c (pe_op op_uAd (pv 1) pe_int) pa_nil))))
      (pss_cons (ps_st (i := 3) sc.nd rfl (by first | exact Or.inl rfl | exact Or.inr rfl) (pe_cf D_law_pot hr (pa_c (pe_cf D_law_at hr (pa_c (pv 0) (pa_c (pv 1) pa_nil))) pa_nil)))
      (pss_cons (ps_asg (pe_cf D_law_case hr (pa_c (pv 3) (pa_c (pv 2) pa_nil))) (pg_tup rfl (pgs_cons (pg_name (i := 4) sc.nd rfl (by first | exact Or.inl rfl | exact Or.inr rfl)) (pgs_cons (pg_name (i := 5) sc.nd rfl (by first | exact Or.inl rfl | exact Or.inr rfl)) (pgs_cons (pg_name (i := 6) sc.nd rfl (by first | exact Or.inl rfl | exact Or.inr rfl)) (pgs_cons (pg_name (i := 7) sc.nd rfl (by first | exact Or.inl rfl | exact Or.inr rfl)) (pgs_cons (pg_name (i := 8) sc.nd rfl (by first | exact Or.inl rfl | exact Or.inr rfl)) pgs_nil)))))))
      (pss_cons (ps_st (i := 5) sc.nd rfl (by first | exact Or.inl rfl | exact Or.inr rfl) (pe_cf D_law_handed hr (pa_c (pv 5) (pa_c (pe_op op_uFdiv (pv 2) pe_int) pa_nil))))
      (pss_cons (ps_st (i := 6) sc.nd rfl (by first | exact Or.inl rfl | exact Or.inr rfl) (pe_cf D_law_handed hr (pa_c (pv 6) (pa_c (pe_op op_uFdiv (pv 2) pe_int) pa_nil))))
      (pss_one (ps_if (pt_cmpR (op_uNe hu) (pe_cf D_law_said hr (pa_c (pv 4) (pa_c (pv 5) (pa_c (pv 6) (pa_c (pv 7) pa_nil))))) (pv 8) (nomark _)) (pss_one (ps_ret pe_bl)) pss_nil))))))))
      (pss_one (ps_ret pe_bl))), ?_⟩
    try walk_at "rd"
    have hb0 : (0 : Int) ≤ (if (40 : Int) < (if ((ns.map V.int).length : Int) > 1 then ((ns.map V.int).length : Int) else 1) then 40 else (if ((ns.map V.int).length : Int) > 1 then ((ns.map V.int).length : Int) else 1)) := by split <;> (try split) <;> omega
    have hb1 : (if (40 : Int) < (if ((ns.map V.int).length : Int) > 1 then ((ns.map V.int).length : Int) else 1) then 40 else (if ((ns.map V.int).length : Int) > 1 then ((ns.map V.int).length : Int) else 1)) ≤ 40 := by split <;> (try split) <;> omega
    refine L2.seq_gen fun N1 h1 => ?_
    refine ⟨_, rfl, _, .inl ⟨_, hS, rfl⟩, small_b hb0 hb1, by decide, by decide, for_its (fun i σ H' => Same H H' ∧ ∃ z1 z2 z3 z4 z5 z6 z7 z8, σ = [some (.ref a), z1, z2, z3, z4, z5, z6, z7, z8]) ?_ ?_ ?_⟩
    · exact ⟨Same.refl _, _, _, _, _, _, _, _, _, rfl⟩
    · rintro i σ H1 hi ⟨s1, z1, z2, z3, z4, z5, z6, z7, z8, rfl⟩
      have sq1 := s1.seq hS
      refine L2.g_name ?_
      try dsimp only [List.set]
      have hk0 : (0 : Int) ≤ 0 + (i : Int) * 2 := by omega
      generalize (0 : Int) + (i : Int) * 2 = kz at *
      refine L2.seq_gen fun N2 h2 => ?_
      try walk_at "rs"
      refine ⟨a, ns, _, rfl, sq1, by omega, fun c1 => ?_⟩
      refine L2.use_eq h2 ?_
      clear h2
      refine L2.seq_gen fun N3 h3 => ?_
      try walk_at "rs"
      refine ⟨a, ns, _, rfl, sq1, by omega, fun c0 => ?_⟩
      try walk_at "rs"
      refine ⟨c0, rfl, fun p a0 b0 hp => ?_⟩
      have s2 := Same.new (.lst [.int a0, .int b0]) hp
      have ep : PotAt (upd H1 p (.lst [.int a0, .int b0])) p := ⟨a0, b0, upd_same⟩
      generalize hG : upd H1 p (.lst [.int a0, .int b0]) = G at *
      refine L2.use_eq h3 ?_
      clear h3
      refine L2.seq_gen fun N4 h4 => ?_
      try walk_at "rs"
      refine ⟨p, c1, rfl, ep, fun t xm xn xr xd xu dm dn dr dd du H2 st2 et hm hn hrw hd hu' hsaid => ?_⟩
      have s12 : Same H1 H2 := fun b o e => st2.rest b o (s2 _ _ e) (ne_of_none e hp)
      try walk_at "rs"
      refine ⟨t, _, rfl, SqT.of et, rfl, _, _, rfl, _, _, rfl, _, _, rfl, _, _, rfl, _, _, rfl, rfl, ?_⟩
      refine L2.use_eq h4 ?_
      clear h4
      refine L2.seq_gen fun N5 h5 => ?_
      try walk_at "rs"
      refine ⟨⟨by decide, by decide⟩, xn, 2, dn, _, rfl, hn, fun yn dn' H3 s3 hn' on => ?_⟩
      refine L2.use_eq h5 ?_
      clear h5
      refine L2.seq_gen fun N6 h6 => ?_
      try walk_at "rs"
      refine ⟨⟨by decide, by decide⟩, xr, 2, dr, _, rfl, hrw.same s3, fun yr dr' H4 s4 hr' or_ => ?_⟩
      refine L2.use_eq h6 ?_
      clear h6
      refine L2.ifs_gen fun T U hT hU => ?_
      try walk_at "rs"
      have s34 := s3.trans s4
      refine ⟨xm, yn, yr, xd, 1, 2, 2, 4, dm, dn', dr', dd, rfl, hm.same s34, hn'.same s4, hr', hd.same s34, fun y H5 s5 hy => ?_⟩
      have hy' : HT H5 1 y du := by rw [← hsaid, ← said_hand on or_]; exact hy
      have hxu : HT H5 1 xu du := hu'.stay (s34.trans s5).tups
      have hsm := ht_same (K := K) (k := 20) hy' hxu (by decide)
      have stop : Same H H5 := s1.trans (s12.trans (s34.trans s5))
      have hU' : U [some (.ref a), some (.int kz), some (.int c1), some (.ref p), some xm, some yn, some yr, some xd, some xu] H5 := by
        refine L2.use_eq hU ?_
        exact ⟨stop, _, _, _, _, _, _, _, _, rfl⟩
      have two : (∃ w, y = .str w ∧ xu = .str w) ∨ ∃ a1 a2, y = .ref a1 ∧ xu = .ref a2 := by
        rw [← hsaid, saidD] at hy' hxu
        split at hy'
        · rw [if_pos (by assumption)] at hxu
          split at hy'
          · rename_i e; rw [e] at hxu; cases hy'; cases hxu; exact .inl ⟨_, rfl, rfl⟩
          · rename_i k e; rw [e] at hxu; cases hy'; cases hxu; exact .inr ⟨_, _, rfl, rfl⟩
        · rw [if_neg (by assumption)] at hxu
          cases hy'; cases hxu; exact .inl ⟨_, rfl, rfl⟩
      rcases two with ⟨w, rfl, rfl⟩ | ⟨a1, a2, rfl, rfl⟩
      · try walk_at "rs"
        try rw [if_neg (by simp)]
        exact hU'
      · try walk_at "rs"
        refine .inl ⟨hsm, ?_⟩
        try rw [if_neg (by simp)]
        exact hU'
    · rintro σ H1 ⟨s1, _⟩
      refine L2.use_eq h1 ?_
      try walk_at "rs"
      exact q _
end
end K14

set_option Elab.async false
set_option linter.all false
set_option maxRecDepth 100000
set_option maxHeartbeats 4000000
namespace K14
open PySem L2 DD
theorem xcls_mk {K : PySem.W.Frag} {C B : Addr} {nm q : Str} {N : Addr} {bs sub : List Value} {sn : List Str} {ab : Bool} {col : Option Bool} {dd : Option Addr} {k0 k1 k2 k3 k5 : Option Value}
    (ob : K.lookup C = some (excClassObj nm q C N bs (.ref B :: xbm) true sn sub ab col dd k0 k1 k2 k3 k5 "ValueError.__new__"))
    (ga : PySem.W.findIn K (.ref C) "__getattribute__" = some (some (.builtin "BaseException.__getattribute__"))) (gt : PySem.W.findIn K (.ref C) "__getattr__" = some none) (sa : PySem.W.findIn K (.ref C) "__setattr__" = some (some (.builtin "object.__setattr__"))) (cl : PySem.W.findIn K (.ref C) "__class__" = some (some (.builtin "object.__class__")))
    (cg : PySem.W.specialIn K (.builtin "object.__class__") "__get__" = some (some (.builtin "getset_descriptor.__get__"))) (ct : PySem.W.takesIn K (.builtin "object.__class__") = some true) (kp : PySem.W.keepIn K (.ref C) = true) : XCls K C B :=
  ⟨⟨_, _, _, _, _, _, _, _, _, _, _, _, _, _, ob⟩, ga, gt, sa, cl, cg, ct, kp⟩
theorem forms_no {w : Str} (e0 : ¬ w = "set") (e1 : ¬ w = "add") (e2 : ¬ w = "times") (e3 : ¬ w = "put") (e4 : ¬ w = "drop") (e5 : ¬ w = "send") (e6 : ¬ w = "say") (e7 : ¬ w = "skip") : formsT.lookup w = none := by
  simp [formsT, List.lookup, beq_eq_false_iff_ne.mpr e0, beq_eq_false_iff_ne.mpr e1, beq_eq_false_iff_ne.mpr e2, beq_eq_false_iff_ne.mpr e3, beq_eq_false_iff_ne.mpr e4, beq_eq_false_iff_ne.mpr e5, beq_eq_false_iff_ne.mpr e6, beq_eq_false_iff_ne.mpr e7]
theorem len0 {us : List Value} (h : us.length = 0) : us = [] := List.length_eq_zero_iff.mp h
theorem lenS {us : List Value} {n : Nat} (h : us.length = n + 1) : ∃ x r, us = x :: r ∧ r.length = n := by
  cases us with
  | nil => cases h
  | cons x r => exact ⟨x, r, rfl, Nat.succ.inj h⟩
theorem top1_mk {K : PySem.W.Frag} {h : Heap} {mg : Str → Option Value} (X : K.In h) (G : h.Ns mainGlobals mg) {x : Str} {st : Stmt} {f : Addr} {fd : FuncData} {ps : List Str} (F : Fun K x x st f fd) (a : PySem.W.nsIn K mainGlobals x = some (some (.ref f)))
    (b : ∀ (kV doc pm : Value) (an : Option Addr) (cdv ct : Value) (us : List Value), us.length = ps.length → bindArgs (PySem.W.fnOf x x (defArgs st) (defBody st) (defScope st) .none kV doc pm an cdv ct) ⟨us, []⟩ = pure (ps.zip us)) : Top1 K mg x x st ps :=
  ⟨_, _, F, PySem.W.mg_of X G a, F.binds b⟩
theorem xtop_mk {K : PySem.W.Frag} {h : Heap} {mg : Str → Option Value} (X : K.In h) (G : h.Ns mainGlobals mg) {x q : Str} {C B : Addr} {st : Stmt} {f : Addr} {fd : FuncData} {ps : List Str} (cl : XCls K C B) (i : PySem.W.findIn K (.ref C) "__init__" = some (some (.ref f))) (fn : PySem.W.isFn K (.ref f) = true)
    (F : Fun K "__init__" q st f fd) (a : PySem.W.nsIn K mainGlobals x = some (some (.ref C)))
    (b : ∀ (kV doc pm : Value) (an : Option Addr) (cdv ct : Value) (us : List Value), us.length = ps.length → bindArgs (PySem.W.fnOf "__init__" q (defArgs st) (defBody st) (defScope st) .none kV doc pm an cdv ct) ⟨us, []⟩ = pure (ps.zip us)) : XTop K mg x C B q st ps :=
  ⟨cl, ⟨_, _, i, fn, F, F.binds b⟩, PySem.W.mg_of X G a⟩
theorem b_is_whole (kV doc pm : Value) (an : Option Addr) (cdv ct : Value) (us : List Value) (hl : us.length = 1) : bindArgs (PySem.W.fnOf "is_whole" "is_whole" (defArgs s_is_whole) (defBody s_is_whole) (defScope s_is_whole) .none kV doc pm an cdv ct) ⟨us, []⟩ = pure ((["thing"] : List PySem.Str).zip us) := by
  obtain ⟨x0, u0, rfl, h0⟩ := lenS hl
  cases len0 h0
  rfl
theorem b_is_within (kV doc pm : Value) (an : Option Addr) (cdv ct : Value) (us : List Value) (hl : us.length = 3) : bindArgs (PySem.W.fnOf "is_within" "is_within" (defArgs s_is_within) (defBody s_is_within) (defScope s_is_within) .none kV doc pm an cdv ct) ⟨us, []⟩ = pure ((["thing", "low", "beyond"] : List PySem.Str).zip us) := by
  obtain ⟨x0, u0, rfl, h0⟩ := lenS hl
  obtain ⟨x1, u1, rfl, h1⟩ := lenS h0
  obtain ⟨x2, u2, rfl, h2⟩ := lenS h1
  cases len0 h2
  rfl
theorem b_is_list (kV doc pm : Value) (an : Option Addr) (cdv ct : Value) (us : List Value) (hl : us.length = 3) : bindArgs (PySem.W.fnOf "is_list" "is_list" (defArgs s_is_list) (defBody s_is_list) (defScope s_is_list) .none kV doc pm an cdv ct) ⟨us, []⟩ = pure ((["things", "least", "most"] : List PySem.Str).zip us) := by
  obtain ⟨x0, u0, rfl, h0⟩ := lenS hl
  obtain ⟨x1, u1, rfl, h1⟩ := lenS h0
  obtain ⟨x2, u2, rfl, h2⟩ := lenS h1
  cases len0 h2
  rfl
theorem b_is_value (kV doc pm : Value) (an : Option Addr) (cdv ct : Value) (us : List Value) (hl : us.length = 2) : bindArgs (PySem.W.fnOf "is_value" "is_value" (defArgs s_is_value) (defBody s_is_value) (defScope s_is_value) .none kV doc pm an cdv ct) ⟨us, []⟩ = pure ((["thing", "many"] : List PySem.Str).zip us) := by
  obtain ⟨x0, u0, rfl, h0⟩ := lenS hl
  obtain ⟨x1, u1, rfl, h1⟩ := lenS h0
  cases len0 h1
  rfl
theorem b_form_of (kV doc pm : Value) (an : Option Addr) (cdv ct : Value) (us : List Value) (hl : us.length = 1) : bindArgs (PySem.W.fnOf "form_of" "form_of" (defArgs s_form_of) (defBody s_form_of) (defScope s_form_of) .none kV doc pm an cdv ct) ⟨us, []⟩ = pure ((["word"] : List PySem.Str).zip us) := by
  obtain ⟨x0, u0, rfl, h0⟩ := lenS hl
  cases len0 h0
  rfl
theorem b_is_part (kV doc pm : Value) (an : Option Addr) (cdv ct : Value) (us : List Value) (hl : us.length = 3) : bindArgs (PySem.W.fnOf "is_part" "is_part" (defArgs s_is_part) (defBody s_is_part) (defScope s_is_part) .none kV doc pm an cdv ct) ⟨us, []⟩ = pure ((["thing", "sort", "many"] : List PySem.Str).zip us) := by
  obtain ⟨x0, u0, rfl, h0⟩ := lenS hl
  obtain ⟨x1, u1, rfl, h1⟩ := lenS h0
  obtain ⟨x2, u2, rfl, h2⟩ := lenS h1
  cases len0 h2
  rfl
theorem b_is_deed (kV doc pm : Value) (an : Option Addr) (cdv ct : Value) (us : List Value) (hl : us.length = 2) : bindArgs (PySem.W.fnOf "is_deed" "is_deed" (defArgs s_is_deed) (defBody s_is_deed) (defScope s_is_deed) .none kV doc pm an cdv ct) ⟨us, []⟩ = pure ((["thing", "many"] : List PySem.Str).zip us) := by
  obtain ⟨x0, u0, rfl, h0⟩ := lenS hl
  obtain ⟨x1, u1, rfl, h1⟩ := lenS h0
  cases len0 h1
  rfl
theorem b_are_counted (kV doc pm : Value) (an : Option Addr) (cdv ct : Value) (us : List Value) (hl : us.length = 4) : bindArgs (PySem.W.fnOf "are_counted" "are_counted" (defArgs s_are_counted) (defBody s_are_counted) (defScope s_are_counted) .none kV doc pm an cdv ct) ⟨us, []⟩ = pure ((["things", "least", "most", "modulus"] : List PySem.Str).zip us) := by
  obtain ⟨x0, u0, rfl, h0⟩ := lenS hl
  obtain ⟨x1, u1, rfl, h1⟩ := lenS h0
  obtain ⟨x2, u2, rfl, h2⟩ := lenS h1
  obtain ⟨x3, u3, rfl, h3⟩ := lenS h2
  cases len0 h3
  rfl
theorem b_refuse_machine (kV doc pm : Value) (an : Option Addr) (cdv ct : Value) (us : List Value) (hl : us.length = 4) : bindArgs (PySem.W.fnOf "refuse_machine" "refuse_machine" (defArgs s_refuse_machine) (defBody s_refuse_machine) (defScope s_refuse_machine) .none kV doc pm an cdv ct) ⟨us, []⟩ = pure ((["modulus", "numbers", "row", "deeds"] : List PySem.Str).zip us) := by
  obtain ⟨x0, u0, rfl, h0⟩ := lenS hl
  obtain ⟨x1, u1, rfl, h1⟩ := lenS h0
  obtain ⟨x2, u2, rfl, h2⟩ := lenS h1
  obtain ⟨x3, u3, rfl, h3⟩ := lenS h2
  cases len0 h3
  rfl
theorem b_refuse_deeds (kV doc pm : Value) (an : Option Addr) (cdv ct : Value) (us : List Value) (hl : us.length = 2) : bindArgs (PySem.W.fnOf "refuse_deeds" "refuse_deeds" (defArgs s_refuse_deeds) (defBody s_refuse_deeds) (defScope s_refuse_deeds) .none kV doc pm an cdv ct) ⟨us, []⟩ = pure ((["deeds", "many"] : List PySem.Str).zip us) := by
  obtain ⟨x0, u0, rfl, h0⟩ := lenS hl
  obtain ⟨x1, u1, rfl, h1⟩ := lenS h0
  cases len0 h1
  rfl
theorem b_law_at (kV doc pm : Value) (an : Option Addr) (cdv ct : Value) (us : List Value) (hl : us.length = 2) : bindArgs (PySem.W.fnOf "_law_at" "_law_at" (defArgs s_law_at) (defBody s_law_at) (defScope s_law_at) .none kV doc pm an cdv ct) ⟨us, []⟩ = pure ((["_law_script", "_law_k"] : List PySem.Str).zip us) := by
  obtain ⟨x0, u0, rfl, h0⟩ := lenS hl
  obtain ⟨x1, u1, rfl, h1⟩ := lenS h0
  cases len0 h1
  rfl
theorem b_law_mixed (kV doc pm : Value) (an : Option Addr) (cdv ct : Value) (us : List Value) (hl : us.length = 1) : bindArgs (PySem.W.fnOf "_law_mixed" "_law_mixed" (defArgs s_law_mixed) (defBody s_law_mixed) (defScope s_law_mixed) .none kV doc pm an cdv ct) ⟨us, []⟩ = pure ((["_law_seed"] : List PySem.Str).zip us) := by
  obtain ⟨x0, u0, rfl, h0⟩ := lenS hl
  cases len0 h0
  rfl
theorem b_law_pot (kV doc pm : Value) (an : Option Addr) (cdv ct : Value) (us : List Value) (hl : us.length = 1) : bindArgs (PySem.W.fnOf "_law_pot" "_law_pot" (defArgs s_law_pot) (defBody s_law_pot) (defScope s_law_pot) .none kV doc pm an cdv ct) ⟨us, []⟩ = pure ((["_law_cell"] : List PySem.Str).zip us) := by
  obtain ⟨x0, u0, rfl, h0⟩ := lenS hl
  cases len0 h0
  rfl
theorem b_law_digit (kV doc pm : Value) (an : Option Addr) (cdv ct : Value) (us : List Value) (hl : us.length = 2) : bindArgs (PySem.W.fnOf "_law_digit" "_law_digit" (defArgs s_law_digit) (defBody s_law_digit) (defScope s_law_digit) .none kV doc pm an cdv ct) ⟨us, []⟩ = pure ((["_law_pot_here", "_law_many"] : List PySem.Str).zip us) := by
  obtain ⟨x0, u0, rfl, h0⟩ := lenS hl
  obtain ⟨x1, u1, rfl, h1⟩ := lenS h0
  cases len0 h1
  rfl
theorem b_law_value (kV doc pm : Value) (an : Option Addr) (cdv ct : Value) (us : List Value) (hl : us.length = 2) : bindArgs (PySem.W.fnOf "_law_value" "_law_value" (defArgs s_law_value) (defBody s_law_value) (defScope s_law_value) .none kV doc pm an cdv ct) ⟨us, []⟩ = pure ((["_law_pot_here", "_law_many"] : List PySem.Str).zip us) := by
  obtain ⟨x0, u0, rfl, h0⟩ := lenS hl
  obtain ⟨x1, u1, rfl, h1⟩ := lenS h0
  cases len0 h1
  rfl
theorem b_law_deed (kV doc pm : Value) (an : Option Addr) (cdv ct : Value) (us : List Value) (hl : us.length = 2) : bindArgs (PySem.W.fnOf "_law_deed" "_law_deed" (defArgs s_law_deed) (defBody s_law_deed) (defScope s_law_deed) .none kV doc pm an cdv ct) ⟨us, []⟩ = pure ((["_law_pot_here", "_law_many"] : List PySem.Str).zip us) := by
  obtain ⟨x0, u0, rfl, h0⟩ := lenS hl
  obtain ⟨x1, u1, rfl, h1⟩ := lenS h0
  cases len0 h1
  rfl
theorem b_law_modulus (kV doc pm : Value) (an : Option Addr) (cdv ct : Value) (us : List Value) (hl : us.length = 1) : bindArgs (PySem.W.fnOf "_law_modulus" "_law_modulus" (defArgs s_law_modulus) (defBody s_law_modulus) (defScope s_law_modulus) .none kV doc pm an cdv ct) ⟨us, []⟩ = pure ((["_law_pot_here"] : List PySem.Str).zip us) := by
  obtain ⟨x0, u0, rfl, h0⟩ := lenS hl
  cases len0 h0
  rfl
theorem b_law_no_modulus (kV doc pm : Value) (an : Option Addr) (cdv ct : Value) (us : List Value) (hl : us.length = 1) : bindArgs (PySem.W.fnOf "_law_no_modulus" "_law_no_modulus" (defArgs s_law_no_modulus) (defBody s_law_no_modulus) (defScope s_law_no_modulus) .none kV doc pm an cdv ct) ⟨us, []⟩ = pure ((["_law_cell"] : List PySem.Str).zip us) := by
  obtain ⟨x0, u0, rfl, h0⟩ := lenS hl
  cases len0 h0
  rfl
theorem b_law_no_row (kV doc pm : Value) (an : Option Addr) (cdv ct : Value) (us : List Value) (hl : us.length = 5) : bindArgs (PySem.W.fnOf "_law_no_row" "_law_no_row" (defArgs s_law_no_row) (defBody s_law_no_row) (defScope s_law_no_row) .none kV doc pm an cdv ct) ⟨us, []⟩ = pure ((["_law_cell", "_law_good", "_law_least", "_law_most", "_law_modulus_here"] : List PySem.Str).zip us) := by
  obtain ⟨x0, u0, rfl, h0⟩ := lenS hl
  obtain ⟨x1, u1, rfl, h1⟩ := lenS h0
  obtain ⟨x2, u2, rfl, h2⟩ := lenS h1
  obtain ⟨x3, u3, rfl, h3⟩ := lenS h2
  obtain ⟨x4, u4, rfl, h4⟩ := lenS h3
  cases len0 h4
  rfl
theorem b_law_no_deed (kV doc pm : Value) (an : Option Addr) (cdv ct : Value) (us : List Value) (hl : us.length = 2) : bindArgs (PySem.W.fnOf "_law_no_deed" "_law_no_deed" (defArgs s_law_no_deed) (defBody s_law_no_deed) (defScope s_law_no_deed) .none kV doc pm an cdv ct) ⟨us, []⟩ = pure ((["_law_cell", "_law_many"] : List PySem.Str).zip us) := by
  obtain ⟨x0, u0, rfl, h0⟩ := lenS hl
  obtain ⟨x1, u1, rfl, h1⟩ := lenS h0
  cases len0 h1
  rfl
theorem b_law_others (kV doc pm : Value) (an : Option Addr) (cdv ct : Value) (us : List Value) (hl : us.length = 1) : bindArgs (PySem.W.fnOf "_law_others" "_law_others" (defArgs s_law_others) (defBody s_law_others) (defScope s_law_others) .none kV doc pm an cdv ct) ⟨us, []⟩ = pure ((["_law_e"] : List PySem.Str).zip us) := by
  obtain ⟨x0, u0, rfl, h0⟩ := lenS hl
  cases len0 h0
  rfl
theorem b_law_said (kV doc pm : Value) (an : Option Addr) (cdv ct : Value) (us : List Value) (hl : us.length = 4) : bindArgs (PySem.W.fnOf "_law_said" "_law_said" (defArgs s_law_said) (defBody s_law_said) (defScope s_law_said) .none kV doc pm an cdv ct) ⟨us, []⟩ = pure ((["_law_modulus_here", "_law_numbers", "_law_row", "_law_deeds"] : List PySem.Str).zip us) := by
  obtain ⟨x0, u0, rfl, h0⟩ := lenS hl
  obtain ⟨x1, u1, rfl, h1⟩ := lenS h0
  obtain ⟨x2, u2, rfl, h2⟩ := lenS h1
  obtain ⟨x3, u3, rfl, h3⟩ := lenS h2
  cases len0 h3
  rfl
theorem b_law_handed (kV doc pm : Value) (an : Option Addr) (cdv ct : Value) (us : List Value) (hl : us.length = 2) : bindArgs (PySem.W.fnOf "_law_handed" "_law_handed" (defArgs s_law_handed) (defBody s_law_handed) (defScope s_law_handed) .none kV doc pm an cdv ct) ⟨us, []⟩ = pure ((["_law_row", "_law_way"] : List PySem.Str).zip us) := by
  obtain ⟨x0, u0, rfl, h0⟩ := lenS hl
  obtain ⟨x1, u1, rfl, h1⟩ := lenS h0
  cases len0 h1
  rfl
theorem b_law_spoiled_deeds (kV doc pm : Value) (an : Option Addr) (cdv ct : Value) (us : List Value) (hl : us.length = 3) : bindArgs (PySem.W.fnOf "_law_spoiled_deeds" "_law_spoiled_deeds" (defArgs s_law_spoiled_deeds) (defBody s_law_spoiled_deeds) (defScope s_law_spoiled_deeds) .none kV doc pm an cdv ct) ⟨us, []⟩ = pure ((["_law_cell", "_law_deeds", "_law_many"] : List PySem.Str).zip us) := by
  obtain ⟨x0, u0, rfl, h0⟩ := lenS hl
  obtain ⟨x1, u1, rfl, h1⟩ := lenS h0
  obtain ⟨x2, u2, rfl, h2⟩ := lenS h1
  cases len0 h2
  rfl
theorem b_law_case (kV doc pm : Value) (an : Option Addr) (cdv ct : Value) (us : List Value) (hl : us.length = 2) : bindArgs (PySem.W.fnOf "_law_case" "_law_case" (defArgs s_law_case) (defBody s_law_case) (defScope s_law_case) .none kV doc pm an cdv ct) ⟨us, []⟩ = pure ((["_law_pot_here", "_law_cell"] : List PySem.Str).zip us) := by
  obtain ⟨x0, u0, rfl, h0⟩ := lenS hl
  obtain ⟨x1, u1, rfl, h1⟩ := lenS h0
  cases len0 h1
  rfl
theorem b_Machine (kV doc pm : Value) (an : Option Addr) (cdv ct : Value) (us : List Value) (hl : us.length = 5) : bindArgs (PySem.W.fnOf "__init__" "Machine.__init__" (defArgs s_Machine) (defBody s_Machine) (defScope s_Machine) .none kV doc pm an cdv ct) ⟨us, []⟩ = pure ((["self", "modulus", "numbers", "row", "deeds"] : List PySem.Str).zip us) := by
  obtain ⟨x0, u0, rfl, h0⟩ := lenS hl
  obtain ⟨x1, u1, rfl, h1⟩ := lenS h0
  obtain ⟨x2, u2, rfl, h2⟩ := lenS h1
  obtain ⟨x3, u3, rfl, h3⟩ := lenS h2
  obtain ⟨x4, u4, rfl, h4⟩ := lenS h3
  cases len0 h4
  rfl
theorem b_BadDeed (kV doc pm : Value) (an : Option Addr) (cdv ct : Value) (us : List Value) (hl : us.length = 2) : bindArgs (PySem.W.fnOf "__init__" "BadDeed.__init__" (defArgs s_BadDeed) (defBody s_BadDeed) (defScope s_BadDeed) .none kV doc pm an cdv ct) ⟨us, []⟩ = pure ((["self", "at"] : List PySem.Str).zip us) := by
  obtain ⟨x0, u0, rfl, h0⟩ := lenS hl
  obtain ⟨x1, u1, rfl, h1⟩ := lenS h0
  cases len0 h1
  rfl
theorem core {P : Program} {w : World} {K : PySem.W.Frag} {mg : Str → Option Value} {base : Heap} {C F B fa : Addr} {c : Nat → Addr} {FD : List (Str × V)} {fd : FuncData} (T : Tx K mg C F FD) (TX : XTx K mg B c) (Fl : Fun K "law" "law" s_law fa fd) (t_is_whole : Top1 K mg "is_whole" "is_whole" s_is_whole ["thing"]) (t_is_within : Top1 K mg "is_within" "is_within" s_is_within ["thing", "low", "beyond"]) (t_is_list : Top1 K mg "is_list" "is_list" s_is_list ["things", "least", "most"]) (t_is_value : Top1 K mg "is_value" "is_value" s_is_value ["thing", "many"]) (t_form_of : Top1 K mg "form_of" "form_of" s_form_of ["word"]) (t_is_part : Top1 K mg "is_part" "is_part" s_is_part ["thing", "sort", "many"]) (t_is_deed : Top1 K mg "is_deed" "is_deed" s_is_deed ["thing", "many"]) (t_are_counted : Top1 K mg "are_counted" "are_counted" s_are_counted ["things", "least", "most", "modulus"]) (t_refuse_machine : Top1 K mg "refuse_machine" "refuse_machine" s_refuse_machine ["modulus", "numbers", "row", "deeds"]) (t_refuse_deeds : Top1 K mg "refuse_deeds" "refuse_deeds" s_refuse_deeds ["deeds", "many"]) (t_law_at : Top1 K mg "_law_at" "_law_at" s_law_at ["_law_script", "_law_k"]) (t_law_mixed : Top1 K mg "_law_mixed" "_law_mixed" s_law_mixed ["_law_seed"]) (t_law_pot : Top1 K mg "_law_pot" "_law_pot" s_law_pot ["_law_cell"]) (t_law_digit : Top1 K mg "_law_digit" "_law_digit" s_law_digit ["_law_pot_here", "_law_many"]) (t_law_value : Top1 K mg "_law_value" "_law_value" s_law_value ["_law_pot_here", "_law_many"]) (t_law_deed : Top1 K mg "_law_deed" "_law_deed" s_law_deed ["_law_pot_here", "_law_many"]) (t_law_modulus : Top1 K mg "_law_modulus" "_law_modulus" s_law_modulus ["_law_pot_here"]) (t_law_no_modulus : Top1 K mg "_law_no_modulus" "_law_no_modulus" s_law_no_modulus ["_law_cell"]) (t_law_no_row : Top1 K mg "_law_no_row" "_law_no_row" s_law_no_row ["_law_cell", "_law_good", "_law_least", "_law_most", "_law_modulus_here"]) (t_law_no_deed : Top1 K mg "_law_no_deed" "_law_no_deed" s_law_no_deed ["_law_cell", "_law_many"]) (t_law_others : Top1 K mg "_law_others" "_law_others" s_law_others ["_law_e"]) (t_law_said : Top1 K mg "_law_said" "_law_said" s_law_said ["_law_modulus_here", "_law_numbers", "_law_row", "_law_deeds"]) (t_law_handed : Top1 K mg "_law_handed" "_law_handed" s_law_handed ["_law_row", "_law_way"]) (t_law_spoiled_deeds : Top1 K mg "_law_spoiled_deeds" "_law_spoiled_deeds" s_law_spoiled_deeds ["_law_cell", "_law_deeds", "_law_many"]) (t_law_case : Top1 K mg "_law_case" "_law_case" s_law_case ["_law_pot_here", "_law_cell"]) (t_Machine : TopI K mg "Machine" C "Machine.__init__" s_Machine ["self", "modulus", "numbers", "row", "deeds"]) (t_BadDeed : XTop K mg "BadDeed" (c 1) B "BadDeed.__init__" s_BadDeed ["self", "at"]) : FnOk P w K mg base CX0 10 fa fd ["_law_script"] (sp_law K) := by
  have D_is_whole := d_is_whole (P := P) (w := w) (base := base) t_is_whole T TX
  have D_is_within := d_is_within (P := P) (w := w) (base := base) t_is_within T TX D_is_whole
  have D_law_at := d_law_at (P := P) (w := w) (base := base) t_law_at T TX
  have D_law_mixed := d_law_mixed (P := P) (w := w) (base := base) t_law_mixed T TX
  have D_law_pot := d_law_pot (P := P) (w := w) (base := base) t_law_pot T TX D_law_mixed
  have D_law_digit := d_law_digit (P := P) (w := w) (base := base) t_law_digit T TX D_law_mixed
  have D_law_modulus := d_law_modulus (P := P) (w := w) (base := base) t_law_modulus T TX D_law_digit
  have D_law_value := d_law_value (P := P) (w := w) (base := base) t_law_value T TX D_law_digit
  have D_is_value := d_is_value (P := P) (w := w) (base := base) t_is_value T TX D_is_whole D_is_within
  have D_is_list := d_is_list (P := P) (w := w) (base := base) t_is_list T TX
  have D_form_of := d_form_of (P := P) (w := w) (base := base) t_form_of T TX
  have D_is_part := d_is_part (P := P) (w := w) (base := base) t_is_part T TX D_is_value D_is_whole D_is_within
  have D_is_deed := d_is_deed (P := P) (w := w) (base := base) t_is_deed T TX D_form_of D_is_part
  have D_are_counted := d_are_counted (P := P) (w := w) (base := base) t_are_counted T TX D_is_list D_is_within
  have D_refuse_machine := d_refuse_machine (P := P) (w := w) (base := base) t_refuse_machine T TX D_are_counted D_is_within
  have D_BadDeed := d_BadDeed (P := P) (w := w) (base := base) t_BadDeed T TX
  have D_refuse_deeds := d_refuse_deeds (P := P) (w := w) (base := base) t_refuse_deeds T TX D_is_deed D_BadDeed
  have D_Machine := d_Machine (P := P) (w := w) (base := base) t_Machine T TX D_refuse_deeds D_refuse_machine
  have D_law_others := d_law_others (P := P) (w := w) (base := base) t_law_others T TX
  have D_law_said := d_law_said (P := P) (w := w) (base := base) t_law_said T TX D_law_others D_Machine
  have D_law_deed := d_law_deed (P := P) (w := w) (base := base) t_law_deed T TX D_law_digit D_law_value
  have D_law_handed := d_law_handed (P := P) (w := w) (base := base) t_law_handed T TX
  have D_law_no_modulus := d_law_no_modulus (P := P) (w := w) (base := base) t_law_no_modulus T TX
  have D_law_no_deed := d_law_no_deed (P := P) (w := w) (base := base) t_law_no_deed T TX
  have D_law_no_row := d_law_no_row (P := P) (w := w) (base := base) t_law_no_row T TX
  have D_law_spoiled_deeds := d_law_spoiled_deeds (P := P) (w := w) (base := base) t_law_spoiled_deeds T TX D_law_no_deed D_is_deed
  have D_law_case := d_law_case (P := P) (w := w) (base := base) t_law_case T TX D_law_deed D_law_digit D_law_modulus D_law_no_modulus D_law_no_row D_law_spoiled_deeds
  exact ok_law Fl T TX D_law_at D_law_case D_law_handed D_law_pot D_law_said
theorem all_mk {l : PySem.W.OpenLaw} {w : World} {K : PySem.W.Frag} {h : Heap} {mg : Str → Option Value} {fa C F B f0 f1 f2 f3 f4 f5 f6 f7 f8 f9 f10 f11 f12 f13 f14 f15 f16 f17 f18 f19 f20 f21 f22 f23 f24 f25 f26 f27 C0 C1 C2 C3 C4 C5 C6 C7 C8 C9 C10 C11 C12 C13 C14 C15 C16 C17 C18 : Addr} (X : K.In h) (G : h.Ns mainGlobals mg) (hfa : mg "law" = some (.ref fa))
    {cdB : ClassData} (aB : PySem.W.nsIn K mainGlobals "NetError" = some (some (.ref B))) (isB : PySem.W.clsIn K B = some cdB) (tyB : PySem.W.typeIn K (.ref B) = some (.type "type"))
    {nm_B q_B : Str} {N_B : Addr} {bs_B sub_B : List Value} {sn_B : List Str} {ab_B : Bool} {col_B : Option Bool} {dd_B : Option Addr} {k0_B k1_B k2_B k3_B k5_B : Option Value}
    (lx_B : K.lookup B = some (excClassObj nm_B q_B B N_B bs_B xbm true sn_B sub_B ab_B col_B dd_B k0_B k1_B k2_B k3_B k5_B "ValueError.__new__"))
    (cg : PySem.W.specialIn K (.builtin "object.__class__") "__get__" = some (some (.builtin "getset_descriptor.__get__"))) (ct : PySem.W.takesIn K (.builtin "object.__class__") = some true)
    {nm_0 q_0 : Str} {N_0 : Addr} {bs_0 sub_0 : List Value} {sn_0 : List Str} {ab_0 : Bool} {col_0 : Option Bool} {dd_0 : Option Addr} {k0_0 k1_0 k2_0 k3_0 k5_0 : Option Value}
    (ax_0 : PySem.W.nsIn K mainGlobals "BadMachine" = some (some (.ref C0))) (lx_0 : K.lookup C0 = some (excClassObj nm_0 q_0 C0 N_0 bs_0 (.ref B :: xbm) true sn_0 sub_0 ab_0 col_0 dd_0 k0_0 k1_0 k2_0 k3_0 k5_0 "ValueError.__new__"))
    (ga_0 : PySem.W.findIn K (.ref C0) "__getattribute__" = some (some (.builtin "BaseException.__getattribute__"))) (gt_0 : PySem.W.findIn K (.ref C0) "__getattr__" = some none) (sa_0 : PySem.W.findIn K (.ref C0) "__setattr__" = some (some (.builtin "object.__setattr__"))) (cl_0 : PySem.W.findIn K (.ref C0) "__class__" = some (some (.builtin "object.__class__"))) (kp_0 : PySem.W.keepIn K (.ref C0) = true)
    (in_0 : PySem.W.findIn K (.ref C0) "__init__" = some (some (.builtin "ValueError.__init__")))
    {nm_1 q_1 : Str} {N_1 : Addr} {bs_1 sub_1 : List Value} {sn_1 : List Str} {ab_1 : Bool} {col_1 : Option Bool} {dd_1 : Option Addr} {k0_1 k1_1 k2_1 k3_1 k5_1 : Option Value}
    (ax_1 : PySem.W.nsIn K mainGlobals "BadDeed" = some (some (.ref C1))) (lx_1 : K.lookup C1 = some (excClassObj nm_1 q_1 C1 N_1 bs_1 (.ref B :: xbm) true sn_1 sub_1 ab_1 col_1 dd_1 k0_1 k1_1 k2_1 k3_1 k5_1 "ValueError.__new__"))
    (ga_1 : PySem.W.findIn K (.ref C1) "__getattribute__" = some (some (.builtin "BaseException.__getattribute__"))) (gt_1 : PySem.W.findIn K (.ref C1) "__getattr__" = some none) (sa_1 : PySem.W.findIn K (.ref C1) "__setattr__" = some (some (.builtin "object.__setattr__"))) (cl_1 : PySem.W.findIn K (.ref C1) "__class__" = some (some (.builtin "object.__class__"))) (kp_1 : PySem.W.keepIn K (.ref C1) = true)
    (n_BadDeed_at : PySem.W.findIn K (.ref C1) "at" = some none)
    {nm_2 q_2 : Str} {N_2 : Addr} {bs_2 sub_2 : List Value} {sn_2 : List Str} {ab_2 : Bool} {col_2 : Option Bool} {dd_2 : Option Addr} {k0_2 k1_2 k2_2 k3_2 k5_2 : Option Value}
    (ax_2 : PySem.W.nsIn K mainGlobals "NoText" = some (some (.ref C2))) (lx_2 : K.lookup C2 = some (excClassObj nm_2 q_2 C2 N_2 bs_2 (.ref B :: xbm) true sn_2 sub_2 ab_2 col_2 dd_2 k0_2 k1_2 k2_2 k3_2 k5_2 "ValueError.__new__"))
    (ga_2 : PySem.W.findIn K (.ref C2) "__getattribute__" = some (some (.builtin "BaseException.__getattribute__"))) (gt_2 : PySem.W.findIn K (.ref C2) "__getattr__" = some none) (sa_2 : PySem.W.findIn K (.ref C2) "__setattr__" = some (some (.builtin "object.__setattr__"))) (cl_2 : PySem.W.findIn K (.ref C2) "__class__" = some (some (.builtin "object.__class__"))) (kp_2 : PySem.W.keepIn K (.ref C2) = true)
    (in_2 : PySem.W.findIn K (.ref C2) "__init__" = some (some (.builtin "ValueError.__init__")))
    {nm_3 q_3 : Str} {N_3 : Addr} {bs_3 sub_3 : List Value} {sn_3 : List Str} {ab_3 : Bool} {col_3 : Option Bool} {dd_3 : Option Addr} {k0_3 k1_3 k2_3 k3_3 k5_3 : Option Value}
    (ax_3 : PySem.W.nsIn K mainGlobals "BadNet" = some (some (.ref C3))) (lx_3 : K.lookup C3 = some (excClassObj nm_3 q_3 C3 N_3 bs_3 (.ref B :: xbm) true sn_3 sub_3 ab_3 col_3 dd_3 k0_3 k1_3 k2_3 k3_3 k5_3 "ValueError.__new__"))
    (ga_3 : PySem.W.findIn K (.ref C3) "__getattribute__" = some (some (.builtin "BaseException.__getattribute__"))) (gt_3 : PySem.W.findIn K (.ref C3) "__getattr__" = some none) (sa_3 : PySem.W.findIn K (.ref C3) "__setattr__" = some (some (.builtin "object.__setattr__"))) (cl_3 : PySem.W.findIn K (.ref C3) "__class__" = some (some (.builtin "object.__class__"))) (kp_3 : PySem.W.keepIn K (.ref C3) = true)
    (in_3 : PySem.W.findIn K (.ref C3) "__init__" = some (some (.builtin "ValueError.__init__")))
    {nm_4 q_4 : Str} {N_4 : Addr} {bs_4 sub_4 : List Value} {sn_4 : List Str} {ab_4 : Bool} {col_4 : Option Bool} {dd_4 : Option Addr} {k0_4 k1_4 k2_4 k3_4 k5_4 : Option Value}
    (ax_4 : PySem.W.nsIn K mainGlobals "NoLetter" = some (some (.ref C4))) (lx_4 : K.lookup C4 = some (excClassObj nm_4 q_4 C4 N_4 bs_4 (.ref B :: xbm) true sn_4 sub_4 ab_4 col_4 dd_4 k0_4 k1_4 k2_4 k3_4 k5_4 "ValueError.__new__"))
    (ga_4 : PySem.W.findIn K (.ref C4) "__getattribute__" = some (some (.builtin "BaseException.__getattribute__"))) (gt_4 : PySem.W.findIn K (.ref C4) "__getattr__" = some none) (sa_4 : PySem.W.findIn K (.ref C4) "__setattr__" = some (some (.builtin "object.__setattr__"))) (cl_4 : PySem.W.findIn K (.ref C4) "__class__" = some (some (.builtin "object.__class__"))) (kp_4 : PySem.W.keepIn K (.ref C4) = true)
    (n_NoLetter_at : PySem.W.findIn K (.ref C4) "at" = some none)
    {nm_5 q_5 : Str} {N_5 : Addr} {bs_5 sub_5 : List Value} {sn_5 : List Str} {ab_5 : Bool} {col_5 : Option Bool} {dd_5 : Option Addr} {k0_5 k1_5 k2_5 k3_5 k5_5 : Option Value}
    (ax_5 : PySem.W.nsIn K mainGlobals "NotFirst" = some (some (.ref C5))) (lx_5 : K.lookup C5 = some (excClassObj nm_5 q_5 C5 N_5 bs_5 (.ref B :: xbm) true sn_5 sub_5 ab_5 col_5 dd_5 k0_5 k1_5 k2_5 k3_5 k5_5 "ValueError.__new__"))
    (ga_5 : PySem.W.findIn K (.ref C5) "__getattribute__" = some (some (.builtin "BaseException.__getattribute__"))) (gt_5 : PySem.W.findIn K (.ref C5) "__getattr__" = some none) (sa_5 : PySem.W.findIn K (.ref C5) "__setattr__" = some (some (.builtin "object.__setattr__"))) (cl_5 : PySem.W.findIn K (.ref C5) "__class__" = some (some (.builtin "object.__class__"))) (kp_5 : PySem.W.keepIn K (.ref C5) = true)
    (n_NotFirst_at : PySem.W.findIn K (.ref C5) "at" = some none)
    {nm_6 q_6 : Str} {N_6 : Addr} {bs_6 sub_6 : List Value} {sn_6 : List Str} {ab_6 : Bool} {col_6 : Option Bool} {dd_6 : Option Addr} {k0_6 k1_6 k2_6 k3_6 k5_6 : Option Value}
    (ax_6 : PySem.W.nsIn K mainGlobals "NoCount" = some (some (.ref C6))) (lx_6 : K.lookup C6 = some (excClassObj nm_6 q_6 C6 N_6 bs_6 (.ref B :: xbm) true sn_6 sub_6 ab_6 col_6 dd_6 k0_6 k1_6 k2_6 k3_6 k5_6 "ValueError.__new__"))
    (ga_6 : PySem.W.findIn K (.ref C6) "__getattribute__" = some (some (.builtin "BaseException.__getattribute__"))) (gt_6 : PySem.W.findIn K (.ref C6) "__getattr__" = some none) (sa_6 : PySem.W.findIn K (.ref C6) "__setattr__" = some (some (.builtin "object.__setattr__"))) (cl_6 : PySem.W.findIn K (.ref C6) "__class__" = some (some (.builtin "object.__class__"))) (kp_6 : PySem.W.keepIn K (.ref C6) = true)
    (in_6 : PySem.W.findIn K (.ref C6) "__init__" = some (some (.builtin "ValueError.__init__")))
    {nm_7 q_7 : Str} {N_7 : Addr} {bs_7 sub_7 : List Value} {sn_7 : List Str} {ab_7 : Bool} {col_7 : Option Bool} {dd_7 : Option Addr} {k0_7 k1_7 k2_7 k3_7 k5_7 : Option Value}
    (ax_7 : PySem.W.nsIn K mainGlobals "NoEvent" = some (some (.ref C7))) (lx_7 : K.lookup C7 = some (excClassObj nm_7 q_7 C7 N_7 bs_7 (.ref B :: xbm) true sn_7 sub_7 ab_7 col_7 dd_7 k0_7 k1_7 k2_7 k3_7 k5_7 "ValueError.__new__"))
    (ga_7 : PySem.W.findIn K (.ref C7) "__getattribute__" = some (some (.builtin "BaseException.__getattribute__"))) (gt_7 : PySem.W.findIn K (.ref C7) "__getattr__" = some none) (sa_7 : PySem.W.findIn K (.ref C7) "__setattr__" = some (some (.builtin "object.__setattr__"))) (cl_7 : PySem.W.findIn K (.ref C7) "__class__" = some (some (.builtin "object.__class__"))) (kp_7 : PySem.W.keepIn K (.ref C7) = true)
    (in_7 : PySem.W.findIn K (.ref C7) "__init__" = some (some (.builtin "ValueError.__init__")))
    {nm_8 q_8 : Str} {N_8 : Addr} {bs_8 sub_8 : List Value} {sn_8 : List Str} {ab_8 : Bool} {col_8 : Option Bool} {dd_8 : Option Addr} {k0_8 k1_8 k2_8 k3_8 k5_8 : Option Value}
    (ax_8 : PySem.W.nsIn K mainGlobals "Orphaned" = some (some (.ref C8))) (lx_8 : K.lookup C8 = some (excClassObj nm_8 q_8 C8 N_8 bs_8 (.ref B :: xbm) true sn_8 sub_8 ab_8 col_8 dd_8 k0_8 k1_8 k2_8 k3_8 k5_8 "ValueError.__new__"))
    (ga_8 : PySem.W.findIn K (.ref C8) "__getattribute__" = some (some (.builtin "BaseException.__getattribute__"))) (gt_8 : PySem.W.findIn K (.ref C8) "__getattr__" = some none) (sa_8 : PySem.W.findIn K (.ref C8) "__setattr__" = some (some (.builtin "object.__setattr__"))) (cl_8 : PySem.W.findIn K (.ref C8) "__class__" = some (some (.builtin "object.__class__"))) (kp_8 : PySem.W.keepIn K (.ref C8) = true)
    (n_Orphaned_letter : PySem.W.findIn K (.ref C8) "letter" = some none)
    {nm_9 q_9 : Str} {N_9 : Addr} {bs_9 sub_9 : List Value} {sn_9 : List Str} {ab_9 : Bool} {col_9 : Option Bool} {dd_9 : Option Addr} {k0_9 k1_9 k2_9 k3_9 k5_9 : Option Value}
    (ax_9 : PySem.W.nsIn K mainGlobals "TooMany" = some (some (.ref C9))) (lx_9 : K.lookup C9 = some (excClassObj nm_9 q_9 C9 N_9 bs_9 (.ref B :: xbm) true sn_9 sub_9 ab_9 col_9 dd_9 k0_9 k1_9 k2_9 k3_9 k5_9 "ValueError.__new__"))
    (ga_9 : PySem.W.findIn K (.ref C9) "__getattribute__" = some (some (.builtin "BaseException.__getattribute__"))) (gt_9 : PySem.W.findIn K (.ref C9) "__getattr__" = some none) (sa_9 : PySem.W.findIn K (.ref C9) "__setattr__" = some (some (.builtin "object.__setattr__"))) (cl_9 : PySem.W.findIn K (.ref C9) "__class__" = some (some (.builtin "object.__class__"))) (kp_9 : PySem.W.keepIn K (.ref C9) = true)
    (in_9 : PySem.W.findIn K (.ref C9) "__init__" = some (some (.builtin "ValueError.__init__")))
    {nm_10 q_10 : Str} {N_10 : Addr} {bs_10 sub_10 : List Value} {sn_10 : List Str} {ab_10 : Bool} {col_10 : Option Bool} {dd_10 : Option Addr} {k0_10 k1_10 k2_10 k3_10 k5_10 : Option Value}
    (ax_10 : PySem.W.nsIn K mainGlobals "NoLine" = some (some (.ref C10))) (lx_10 : K.lookup C10 = some (excClassObj nm_10 q_10 C10 N_10 bs_10 (.ref B :: xbm) true sn_10 sub_10 ab_10 col_10 dd_10 k0_10 k1_10 k2_10 k3_10 k5_10 "ValueError.__new__"))
    (ga_10 : PySem.W.findIn K (.ref C10) "__getattribute__" = some (some (.builtin "BaseException.__getattribute__"))) (gt_10 : PySem.W.findIn K (.ref C10) "__getattr__" = some none) (sa_10 : PySem.W.findIn K (.ref C10) "__setattr__" = some (some (.builtin "object.__setattr__"))) (cl_10 : PySem.W.findIn K (.ref C10) "__class__" = some (some (.builtin "object.__class__"))) (kp_10 : PySem.W.keepIn K (.ref C10) = true)
    (n_NoLine_falls : PySem.W.findIn K (.ref C10) "falls" = some none)
    (n_NoLine_letter : PySem.W.findIn K (.ref C10) "letter" = some none)
    {nm_11 q_11 : Str} {N_11 : Addr} {bs_11 sub_11 : List Value} {sn_11 : List Str} {ab_11 : Bool} {col_11 : Option Bool} {dd_11 : Option Addr} {k0_11 k1_11 k2_11 k3_11 k5_11 : Option Value}
    (ax_11 : PySem.W.nsIn K mainGlobals "NoMachine" = some (some (.ref C11))) (lx_11 : K.lookup C11 = some (excClassObj nm_11 q_11 C11 N_11 bs_11 (.ref B :: xbm) true sn_11 sub_11 ab_11 col_11 dd_11 k0_11 k1_11 k2_11 k3_11 k5_11 "ValueError.__new__"))
    (ga_11 : PySem.W.findIn K (.ref C11) "__getattribute__" = some (some (.builtin "BaseException.__getattribute__"))) (gt_11 : PySem.W.findIn K (.ref C11) "__getattr__" = some none) (sa_11 : PySem.W.findIn K (.ref C11) "__setattr__" = some (some (.builtin "object.__setattr__"))) (cl_11 : PySem.W.findIn K (.ref C11) "__class__" = some (some (.builtin "object.__class__"))) (kp_11 : PySem.W.keepIn K (.ref C11) = true)
    (in_11 : PySem.W.findIn K (.ref C11) "__init__" = some (some (.builtin "ValueError.__init__")))
    {nm_12 q_12 : Str} {N_12 : Addr} {bs_12 sub_12 : List Value} {sn_12 : List Str} {ab_12 : Bool} {col_12 : Option Bool} {dd_12 : Option Addr} {k0_12 k1_12 k2_12 k3_12 k5_12 : Option Value}
    (ax_12 : PySem.W.nsIn K mainGlobals "NotRow" = some (some (.ref C12))) (lx_12 : K.lookup C12 = some (excClassObj nm_12 q_12 C12 N_12 bs_12 (.ref B :: xbm) true sn_12 sub_12 ab_12 col_12 dd_12 k0_12 k1_12 k2_12 k3_12 k5_12 "ValueError.__new__"))
    (ga_12 : PySem.W.findIn K (.ref C12) "__getattribute__" = some (some (.builtin "BaseException.__getattribute__"))) (gt_12 : PySem.W.findIn K (.ref C12) "__getattr__" = some none) (sa_12 : PySem.W.findIn K (.ref C12) "__setattr__" = some (some (.builtin "object.__setattr__"))) (cl_12 : PySem.W.findIn K (.ref C12) "__class__" = some (some (.builtin "object.__class__"))) (kp_12 : PySem.W.keepIn K (.ref C12) = true)
    (n_NotRow_way : PySem.W.findIn K (.ref C12) "way" = some none)
    {nm_13 q_13 : Str} {N_13 : Addr} {bs_13 sub_13 : List Value} {sn_13 : List Str} {ab_13 : Bool} {col_13 : Option Bool} {dd_13 : Option Addr} {k0_13 k1_13 k2_13 k3_13 k5_13 : Option Value}
    (ax_13 : PySem.W.nsIn K mainGlobals "Busy" = some (some (.ref C13))) (lx_13 : K.lookup C13 = some (excClassObj nm_13 q_13 C13 N_13 bs_13 (.ref B :: xbm) true sn_13 sub_13 ab_13 col_13 dd_13 k0_13 k1_13 k2_13 k3_13 k5_13 "ValueError.__new__"))
    (ga_13 : PySem.W.findIn K (.ref C13) "__getattribute__" = some (some (.builtin "BaseException.__getattribute__"))) (gt_13 : PySem.W.findIn K (.ref C13) "__getattr__" = some none) (sa_13 : PySem.W.findIn K (.ref C13) "__setattr__" = some (some (.builtin "object.__setattr__"))) (cl_13 : PySem.W.findIn K (.ref C13) "__class__" = some (some (.builtin "object.__class__"))) (kp_13 : PySem.W.keepIn K (.ref C13) = true)
    (in_13 : PySem.W.findIn K (.ref C13) "__init__" = some (some (.builtin "ValueError.__init__")))
    {nm_14 q_14 : Str} {N_14 : Addr} {bs_14 sub_14 : List Value} {sn_14 : List Str} {ab_14 : Bool} {col_14 : Option Bool} {dd_14 : Option Addr} {k0_14 k1_14 k2_14 k3_14 k5_14 : Option Value}
    (ax_14 : PySem.W.nsIn K mainGlobals "NotReached" = some (some (.ref C14))) (lx_14 : K.lookup C14 = some (excClassObj nm_14 q_14 C14 N_14 bs_14 (.ref B :: xbm) true sn_14 sub_14 ab_14 col_14 dd_14 k0_14 k1_14 k2_14 k3_14 k5_14 "ValueError.__new__"))
    (ga_14 : PySem.W.findIn K (.ref C14) "__getattribute__" = some (some (.builtin "BaseException.__getattribute__"))) (gt_14 : PySem.W.findIn K (.ref C14) "__getattr__" = some none) (sa_14 : PySem.W.findIn K (.ref C14) "__setattr__" = some (some (.builtin "object.__setattr__"))) (cl_14 : PySem.W.findIn K (.ref C14) "__class__" = some (some (.builtin "object.__class__"))) (kp_14 : PySem.W.keepIn K (.ref C14) = true)
    (n_NotReached_machine : PySem.W.findIn K (.ref C14) "machine" = some none)
    {nm_15 q_15 : Str} {N_15 : Addr} {bs_15 sub_15 : List Value} {sn_15 : List Str} {ab_15 : Bool} {col_15 : Option Bool} {dd_15 : Option Addr} {k0_15 k1_15 k2_15 k3_15 k5_15 : Option Value}
    (ax_15 : PySem.W.nsIn K mainGlobals "NoMark" = some (some (.ref C15))) (lx_15 : K.lookup C15 = some (excClassObj nm_15 q_15 C15 N_15 bs_15 (.ref B :: xbm) true sn_15 sub_15 ab_15 col_15 dd_15 k0_15 k1_15 k2_15 k3_15 k5_15 "ValueError.__new__"))
    (ga_15 : PySem.W.findIn K (.ref C15) "__getattribute__" = some (some (.builtin "BaseException.__getattribute__"))) (gt_15 : PySem.W.findIn K (.ref C15) "__getattr__" = some none) (sa_15 : PySem.W.findIn K (.ref C15) "__setattr__" = some (some (.builtin "object.__setattr__"))) (cl_15 : PySem.W.findIn K (.ref C15) "__class__" = some (some (.builtin "object.__class__"))) (kp_15 : PySem.W.keepIn K (.ref C15) = true)
    (in_15 : PySem.W.findIn K (.ref C15) "__init__" = some (some (.builtin "ValueError.__init__")))
    {nm_16 q_16 : Str} {N_16 : Addr} {bs_16 sub_16 : List Value} {sn_16 : List Str} {ab_16 : Bool} {col_16 : Option Bool} {dd_16 : Option Addr} {k0_16 k1_16 k2_16 k3_16 k5_16 : Option Value}
    (ax_16 : PySem.W.nsIn K mainGlobals "NoRow" = some (some (.ref C16))) (lx_16 : K.lookup C16 = some (excClassObj nm_16 q_16 C16 N_16 bs_16 (.ref B :: xbm) true sn_16 sub_16 ab_16 col_16 dd_16 k0_16 k1_16 k2_16 k3_16 k5_16 "ValueError.__new__"))
    (ga_16 : PySem.W.findIn K (.ref C16) "__getattribute__" = some (some (.builtin "BaseException.__getattribute__"))) (gt_16 : PySem.W.findIn K (.ref C16) "__getattr__" = some none) (sa_16 : PySem.W.findIn K (.ref C16) "__setattr__" = some (some (.builtin "object.__setattr__"))) (cl_16 : PySem.W.findIn K (.ref C16) "__class__" = some (some (.builtin "object.__class__"))) (kp_16 : PySem.W.keepIn K (.ref C16) = true)
    (in_16 : PySem.W.findIn K (.ref C16) "__init__" = some (some (.builtin "ValueError.__init__")))
    {nm_17 q_17 : Str} {N_17 : Addr} {bs_17 sub_17 : List Value} {sn_17 : List Str} {ab_17 : Bool} {col_17 : Option Bool} {dd_17 : Option Addr} {k0_17 k1_17 k2_17 k3_17 k5_17 : Option Value}
    (ax_17 : PySem.W.nsIn K mainGlobals "NoName" = some (some (.ref C17))) (lx_17 : K.lookup C17 = some (excClassObj nm_17 q_17 C17 N_17 bs_17 (.ref B :: xbm) true sn_17 sub_17 ab_17 col_17 dd_17 k0_17 k1_17 k2_17 k3_17 k5_17 "ValueError.__new__"))
    (ga_17 : PySem.W.findIn K (.ref C17) "__getattribute__" = some (some (.builtin "BaseException.__getattribute__"))) (gt_17 : PySem.W.findIn K (.ref C17) "__getattr__" = some none) (sa_17 : PySem.W.findIn K (.ref C17) "__setattr__" = some (some (.builtin "object.__setattr__"))) (cl_17 : PySem.W.findIn K (.ref C17) "__class__" = some (some (.builtin "object.__class__"))) (kp_17 : PySem.W.keepIn K (.ref C17) = true)
    (in_17 : PySem.W.findIn K (.ref C17) "__init__" = some (some (.builtin "ValueError.__init__")))
    {nm_18 q_18 : Str} {N_18 : Addr} {bs_18 sub_18 : List Value} {sn_18 : List Str} {ab_18 : Bool} {col_18 : Option Bool} {dd_18 : Option Addr} {k0_18 k1_18 k2_18 k3_18 k5_18 : Option Value}
    (ax_18 : PySem.W.nsIn K mainGlobals "NoDeed" = some (some (.ref C18))) (lx_18 : K.lookup C18 = some (excClassObj nm_18 q_18 C18 N_18 bs_18 (.ref B :: xbm) true sn_18 sub_18 ab_18 col_18 dd_18 k0_18 k1_18 k2_18 k3_18 k5_18 "ValueError.__new__"))
    (ga_18 : PySem.W.findIn K (.ref C18) "__getattribute__" = some (some (.builtin "BaseException.__getattribute__"))) (gt_18 : PySem.W.findIn K (.ref C18) "__getattr__" = some none) (sa_18 : PySem.W.findIn K (.ref C18) "__setattr__" = some (some (.builtin "object.__setattr__"))) (cl_18 : PySem.W.findIn K (.ref C18) "__class__" = some (some (.builtin "object.__class__"))) (kp_18 : PySem.W.keepIn K (.ref C18) = true)
    (in_18 : PySem.W.findIn K (.ref C18) "__init__" = some (some (.builtin "ValueError.__init__")))
    (aC : PySem.W.nsIn K mainGlobals "Machine" = some (some (.ref C)))
    {od0 an0 : Option Addr} {sl0 : Array (Option Value)} {oc0 kV0 dc0 pm0 cd0 ct0 : Value}
    (a0 : PySem.W.nsIn K mainGlobals "is_whole" = some (some (.ref f0))) (l0 : K.lookup f0 = some ⟨oc0, od0, .func (PySem.W.fnOf "is_whole" "is_whole" (defArgs s_is_whole) (defBody s_is_whole) (defScope s_is_whole) .none kV0 dc0 pm0 an0 cd0 ct0), sl0⟩) (c0 : PySem.W.codeIn K cd0 "is_whole" = true) (k0 : PySem.W.keepIn K (.ref f0) = true)
    {od1 an1 : Option Addr} {sl1 : Array (Option Value)} {oc1 kV1 dc1 pm1 cd1 ct1 : Value}
    (a1 : PySem.W.nsIn K mainGlobals "is_within" = some (some (.ref f1))) (l1 : K.lookup f1 = some ⟨oc1, od1, .func (PySem.W.fnOf "is_within" "is_within" (defArgs s_is_within) (defBody s_is_within) (defScope s_is_within) .none kV1 dc1 pm1 an1 cd1 ct1), sl1⟩) (c1 : PySem.W.codeIn K cd1 "is_within" = true) (k1 : PySem.W.keepIn K (.ref f1) = true)
    {od2 an2 : Option Addr} {sl2 : Array (Option Value)} {oc2 kV2 dc2 pm2 cd2 ct2 : Value}
    (a2 : PySem.W.nsIn K mainGlobals "is_list" = some (some (.ref f2))) (l2 : K.lookup f2 = some ⟨oc2, od2, .func (PySem.W.fnOf "is_list" "is_list" (defArgs s_is_list) (defBody s_is_list) (defScope s_is_list) .none kV2 dc2 pm2 an2 cd2 ct2), sl2⟩) (c2 : PySem.W.codeIn K cd2 "is_list" = true) (k2 : PySem.W.keepIn K (.ref f2) = true)
    {od3 an3 : Option Addr} {sl3 : Array (Option Value)} {oc3 kV3 dc3 pm3 cd3 ct3 : Value}
    (a3 : PySem.W.nsIn K mainGlobals "is_value" = some (some (.ref f3))) (l3 : K.lookup f3 = some ⟨oc3, od3, .func (PySem.W.fnOf "is_value" "is_value" (defArgs s_is_value) (defBody s_is_value) (defScope s_is_value) .none kV3 dc3 pm3 an3 cd3 ct3), sl3⟩) (c3 : PySem.W.codeIn K cd3 "is_value" = true) (k3 : PySem.W.keepIn K (.ref f3) = true)
    {od4 an4 : Option Addr} {sl4 : Array (Option Value)} {oc4 kV4 dc4 pm4 cd4 ct4 : Value}
    (a4 : PySem.W.nsIn K mainGlobals "form_of" = some (some (.ref f4))) (l4 : K.lookup f4 = some ⟨oc4, od4, .func (PySem.W.fnOf "form_of" "form_of" (defArgs s_form_of) (defBody s_form_of) (defScope s_form_of) .none kV4 dc4 pm4 an4 cd4 ct4), sl4⟩) (c4 : PySem.W.codeIn K cd4 "form_of" = true) (k4 : PySem.W.keepIn K (.ref f4) = true)
    {od5 an5 : Option Addr} {sl5 : Array (Option Value)} {oc5 kV5 dc5 pm5 cd5 ct5 : Value}
    (a5 : PySem.W.nsIn K mainGlobals "is_part" = some (some (.ref f5))) (l5 : K.lookup f5 = some ⟨oc5, od5, .func (PySem.W.fnOf "is_part" "is_part" (defArgs s_is_part) (defBody s_is_part) (defScope s_is_part) .none kV5 dc5 pm5 an5 cd5 ct5), sl5⟩) (c5 : PySem.W.codeIn K cd5 "is_part" = true) (k5 : PySem.W.keepIn K (.ref f5) = true)
    {od6 an6 : Option Addr} {sl6 : Array (Option Value)} {oc6 kV6 dc6 pm6 cd6 ct6 : Value}
    (a6 : PySem.W.nsIn K mainGlobals "is_deed" = some (some (.ref f6))) (l6 : K.lookup f6 = some ⟨oc6, od6, .func (PySem.W.fnOf "is_deed" "is_deed" (defArgs s_is_deed) (defBody s_is_deed) (defScope s_is_deed) .none kV6 dc6 pm6 an6 cd6 ct6), sl6⟩) (c6 : PySem.W.codeIn K cd6 "is_deed" = true) (k6 : PySem.W.keepIn K (.ref f6) = true)
    {od7 an7 : Option Addr} {sl7 : Array (Option Value)} {oc7 kV7 dc7 pm7 cd7 ct7 : Value}
    (a7 : PySem.W.nsIn K mainGlobals "are_counted" = some (some (.ref f7))) (l7 : K.lookup f7 = some ⟨oc7, od7, .func (PySem.W.fnOf "are_counted" "are_counted" (defArgs s_are_counted) (defBody s_are_counted) (defScope s_are_counted) .none kV7 dc7 pm7 an7 cd7 ct7), sl7⟩) (c7 : PySem.W.codeIn K cd7 "are_counted" = true) (k7 : PySem.W.keepIn K (.ref f7) = true)
    {od8 an8 : Option Addr} {sl8 : Array (Option Value)} {oc8 kV8 dc8 pm8 cd8 ct8 : Value}
    (a8 : PySem.W.nsIn K mainGlobals "refuse_machine" = some (some (.ref f8))) (l8 : K.lookup f8 = some ⟨oc8, od8, .func (PySem.W.fnOf "refuse_machine" "refuse_machine" (defArgs s_refuse_machine) (defBody s_refuse_machine) (defScope s_refuse_machine) .none kV8 dc8 pm8 an8 cd8 ct8), sl8⟩) (c8 : PySem.W.codeIn K cd8 "refuse_machine" = true) (k8 : PySem.W.keepIn K (.ref f8) = true)
    {od9 an9 : Option Addr} {sl9 : Array (Option Value)} {oc9 kV9 dc9 pm9 cd9 ct9 : Value}
    (a9 : PySem.W.nsIn K mainGlobals "refuse_deeds" = some (some (.ref f9))) (l9 : K.lookup f9 = some ⟨oc9, od9, .func (PySem.W.fnOf "refuse_deeds" "refuse_deeds" (defArgs s_refuse_deeds) (defBody s_refuse_deeds) (defScope s_refuse_deeds) .none kV9 dc9 pm9 an9 cd9 ct9), sl9⟩) (c9 : PySem.W.codeIn K cd9 "refuse_deeds" = true) (k9 : PySem.W.keepIn K (.ref f9) = true)
    {od10 an10 : Option Addr} {sl10 : Array (Option Value)} {oc10 kV10 dc10 pm10 cd10 ct10 : Value}
    (a10 : PySem.W.nsIn K mainGlobals "_law_at" = some (some (.ref f10))) (l10 : K.lookup f10 = some ⟨oc10, od10, .func (PySem.W.fnOf "_law_at" "_law_at" (defArgs s_law_at) (defBody s_law_at) (defScope s_law_at) .none kV10 dc10 pm10 an10 cd10 ct10), sl10⟩) (c10 : PySem.W.codeIn K cd10 "_law_at" = true) (k10 : PySem.W.keepIn K (.ref f10) = true)
    {od11 an11 : Option Addr} {sl11 : Array (Option Value)} {oc11 kV11 dc11 pm11 cd11 ct11 : Value}
    (a11 : PySem.W.nsIn K mainGlobals "_law_mixed" = some (some (.ref f11))) (l11 : K.lookup f11 = some ⟨oc11, od11, .func (PySem.W.fnOf "_law_mixed" "_law_mixed" (defArgs s_law_mixed) (defBody s_law_mixed) (defScope s_law_mixed) .none kV11 dc11 pm11 an11 cd11 ct11), sl11⟩) (c11 : PySem.W.codeIn K cd11 "_law_mixed" = true) (k11 : PySem.W.keepIn K (.ref f11) = true)
    {od12 an12 : Option Addr} {sl12 : Array (Option Value)} {oc12 kV12 dc12 pm12 cd12 ct12 : Value}
    (a12 : PySem.W.nsIn K mainGlobals "_law_pot" = some (some (.ref f12))) (l12 : K.lookup f12 = some ⟨oc12, od12, .func (PySem.W.fnOf "_law_pot" "_law_pot" (defArgs s_law_pot) (defBody s_law_pot) (defScope s_law_pot) .none kV12 dc12 pm12 an12 cd12 ct12), sl12⟩) (c12 : PySem.W.codeIn K cd12 "_law_pot" = true) (k12 : PySem.W.keepIn K (.ref f12) = true)
    {od13 an13 : Option Addr} {sl13 : Array (Option Value)} {oc13 kV13 dc13 pm13 cd13 ct13 : Value}
    (a13 : PySem.W.nsIn K mainGlobals "_law_digit" = some (some (.ref f13))) (l13 : K.lookup f13 = some ⟨oc13, od13, .func (PySem.W.fnOf "_law_digit" "_law_digit" (defArgs s_law_digit) (defBody s_law_digit) (defScope s_law_digit) .none kV13 dc13 pm13 an13 cd13 ct13), sl13⟩) (c13 : PySem.W.codeIn K cd13 "_law_digit" = true) (k13 : PySem.W.keepIn K (.ref f13) = true)
    {od14 an14 : Option Addr} {sl14 : Array (Option Value)} {oc14 kV14 dc14 pm14 cd14 ct14 : Value}
    (a14 : PySem.W.nsIn K mainGlobals "_law_value" = some (some (.ref f14))) (l14 : K.lookup f14 = some ⟨oc14, od14, .func (PySem.W.fnOf "_law_value" "_law_value" (defArgs s_law_value) (defBody s_law_value) (defScope s_law_value) .none kV14 dc14 pm14 an14 cd14 ct14), sl14⟩) (c14 : PySem.W.codeIn K cd14 "_law_value" = true) (k14 : PySem.W.keepIn K (.ref f14) = true)
    {od15 an15 : Option Addr} {sl15 : Array (Option Value)} {oc15 kV15 dc15 pm15 cd15 ct15 : Value}
    (a15 : PySem.W.nsIn K mainGlobals "_law_deed" = some (some (.ref f15))) (l15 : K.lookup f15 = some ⟨oc15, od15, .func (PySem.W.fnOf "_law_deed" "_law_deed" (defArgs s_law_deed) (defBody s_law_deed) (defScope s_law_deed) .none kV15 dc15 pm15 an15 cd15 ct15), sl15⟩) (c15 : PySem.W.codeIn K cd15 "_law_deed" = true) (k15 : PySem.W.keepIn K (.ref f15) = true)
    {od16 an16 : Option Addr} {sl16 : Array (Option Value)} {oc16 kV16 dc16 pm16 cd16 ct16 : Value}
    (a16 : PySem.W.nsIn K mainGlobals "_law_modulus" = some (some (.ref f16))) (l16 : K.lookup f16 = some ⟨oc16, od16, .func (PySem.W.fnOf "_law_modulus" "_law_modulus" (defArgs s_law_modulus) (defBody s_law_modulus) (defScope s_law_modulus) .none kV16 dc16 pm16 an16 cd16 ct16), sl16⟩) (c16 : PySem.W.codeIn K cd16 "_law_modulus" = true) (k16 : PySem.W.keepIn K (.ref f16) = true)
    {od17 an17 : Option Addr} {sl17 : Array (Option Value)} {oc17 kV17 dc17 pm17 cd17 ct17 : Value}
    (a17 : PySem.W.nsIn K mainGlobals "_law_no_modulus" = some (some (.ref f17))) (l17 : K.lookup f17 = some ⟨oc17, od17, .func (PySem.W.fnOf "_law_no_modulus" "_law_no_modulus" (defArgs s_law_no_modulus) (defBody s_law_no_modulus) (defScope s_law_no_modulus) .none kV17 dc17 pm17 an17 cd17 ct17), sl17⟩) (c17 : PySem.W.codeIn K cd17 "_law_no_modulus" = true) (k17 : PySem.W.keepIn K (.ref f17) = true)
    {od18 an18 : Option Addr} {sl18 : Array (Option Value)} {oc18 kV18 dc18 pm18 cd18 ct18 : Value}
    (a18 : PySem.W.nsIn K mainGlobals "_law_no_row" = some (some (.ref f18))) (l18 : K.lookup f18 = some ⟨oc18, od18, .func (PySem.W.fnOf "_law_no_row" "_law_no_row" (defArgs s_law_no_row) (defBody s_law_no_row) (defScope s_law_no_row) .none kV18 dc18 pm18 an18 cd18 ct18), sl18⟩) (c18 : PySem.W.codeIn K cd18 "_law_no_row" = true) (k18 : PySem.W.keepIn K (.ref f18) = true)
    {od19 an19 : Option Addr} {sl19 : Array (Option Value)} {oc19 kV19 dc19 pm19 cd19 ct19 : Value}
    (a19 : PySem.W.nsIn K mainGlobals "_law_no_deed" = some (some (.ref f19))) (l19 : K.lookup f19 = some ⟨oc19, od19, .func (PySem.W.fnOf "_law_no_deed" "_law_no_deed" (defArgs s_law_no_deed) (defBody s_law_no_deed) (defScope s_law_no_deed) .none kV19 dc19 pm19 an19 cd19 ct19), sl19⟩) (c19 : PySem.W.codeIn K cd19 "_law_no_deed" = true) (k19 : PySem.W.keepIn K (.ref f19) = true)
    {od20 an20 : Option Addr} {sl20 : Array (Option Value)} {oc20 kV20 dc20 pm20 cd20 ct20 : Value}
    (a20 : PySem.W.nsIn K mainGlobals "_law_others" = some (some (.ref f20))) (l20 : K.lookup f20 = some ⟨oc20, od20, .func (PySem.W.fnOf "_law_others" "_law_others" (defArgs s_law_others) (defBody s_law_others) (defScope s_law_others) .none kV20 dc20 pm20 an20 cd20 ct20), sl20⟩) (c20 : PySem.W.codeIn K cd20 "_law_others" = true) (k20 : PySem.W.keepIn K (.ref f20) = true)
    {od21 an21 : Option Addr} {sl21 : Array (Option Value)} {oc21 kV21 dc21 pm21 cd21 ct21 : Value}
    (a21 : PySem.W.nsIn K mainGlobals "_law_said" = some (some (.ref f21))) (l21 : K.lookup f21 = some ⟨oc21, od21, .func (PySem.W.fnOf "_law_said" "_law_said" (defArgs s_law_said) (defBody s_law_said) (defScope s_law_said) .none kV21 dc21 pm21 an21 cd21 ct21), sl21⟩) (c21 : PySem.W.codeIn K cd21 "_law_said" = true) (k21 : PySem.W.keepIn K (.ref f21) = true)
    {od22 an22 : Option Addr} {sl22 : Array (Option Value)} {oc22 kV22 dc22 pm22 cd22 ct22 : Value}
    (a22 : PySem.W.nsIn K mainGlobals "_law_handed" = some (some (.ref f22))) (l22 : K.lookup f22 = some ⟨oc22, od22, .func (PySem.W.fnOf "_law_handed" "_law_handed" (defArgs s_law_handed) (defBody s_law_handed) (defScope s_law_handed) .none kV22 dc22 pm22 an22 cd22 ct22), sl22⟩) (c22 : PySem.W.codeIn K cd22 "_law_handed" = true) (k22 : PySem.W.keepIn K (.ref f22) = true)
    {od23 an23 : Option Addr} {sl23 : Array (Option Value)} {oc23 kV23 dc23 pm23 cd23 ct23 : Value}
    (a23 : PySem.W.nsIn K mainGlobals "_law_spoiled_deeds" = some (some (.ref f23))) (l23 : K.lookup f23 = some ⟨oc23, od23, .func (PySem.W.fnOf "_law_spoiled_deeds" "_law_spoiled_deeds" (defArgs s_law_spoiled_deeds) (defBody s_law_spoiled_deeds) (defScope s_law_spoiled_deeds) .none kV23 dc23 pm23 an23 cd23 ct23), sl23⟩) (c23 : PySem.W.codeIn K cd23 "_law_spoiled_deeds" = true) (k23 : PySem.W.keepIn K (.ref f23) = true)
    {od24 an24 : Option Addr} {sl24 : Array (Option Value)} {oc24 kV24 dc24 pm24 cd24 ct24 : Value}
    (a24 : PySem.W.nsIn K mainGlobals "_law_case" = some (some (.ref f24))) (l24 : K.lookup f24 = some ⟨oc24, od24, .func (PySem.W.fnOf "_law_case" "_law_case" (defArgs s_law_case) (defBody s_law_case) (defScope s_law_case) .none kV24 dc24 pm24 an24 cd24 ct24), sl24⟩) (c24 : PySem.W.codeIn K cd24 "_law_case" = true) (k24 : PySem.W.keepIn K (.ref f24) = true)
    {od25 an25 : Option Addr} {sl25 : Array (Option Value)} {oc25 kV25 dc25 pm25 cd25 ct25 : Value}
    (a25 : PySem.W.nsIn K mainGlobals "law" = some (some (.ref f25))) (l25 : K.lookup f25 = some ⟨oc25, od25, .func (PySem.W.fnOf "law" "law" (defArgs s_law) (defBody s_law) (defScope s_law) .none kV25 dc25 pm25 an25 cd25 ct25), sl25⟩) (c25 : PySem.W.codeIn K cd25 "law" = true) (k25 : PySem.W.keepIn K (.ref f25) = true)
    {od26 an26 : Option Addr} {sl26 : Array (Option Value)} {oc26 kV26 dc26 pm26 cd26 ct26 : Value}
    (a26 : PySem.W.findIn K (.ref C) "__init__" = some (some (.ref f26))) (i26 : PySem.W.isFn K (.ref f26) = true) (l26 : K.lookup f26 = some ⟨oc26, od26, .func (PySem.W.fnOf "__init__" "Machine.__init__" (defArgs s_Machine) (defBody s_Machine) (defScope s_Machine) .none kV26 dc26 pm26 an26 cd26 ct26), sl26⟩) (c26 : PySem.W.codeIn K cd26 "Machine.__init__" = true) (k26 : PySem.W.keepIn K (.ref f26) = true)
    {od27 an27 : Option Addr} {sl27 : Array (Option Value)} {oc27 kV27 dc27 pm27 cd27 ct27 : Value}
    (a27 : PySem.W.findIn K (.ref C1) "__init__" = some (some (.ref f27))) (i27 : PySem.W.isFn K (.ref f27) = true) (l27 : K.lookup f27 = some ⟨oc27, od27, .func (PySem.W.fnOf "__init__" "BadDeed.__init__" (defArgs s_BadDeed) (defBody s_BadDeed) (defScope s_BadDeed) .none kV27 dc27 pm27 an27 cd27 ct27), sl27⟩) (c27 : PySem.W.codeIn K cd27 "BadDeed.__init__" = true) (k27 : PySem.W.keepIn K (.ref f27) = true)
    (pg : PySem.W.plainGet K C Str.empty = true) (hd : PySem.W.hasDictIn K C = true) (po : PySem.W.plainOver K C = true) (sa : PySem.W.findIn K (.ref C) "__setattr__" = some (some (.builtin "object.__setattr__"))) (mk : PySem.W.makesIn K C = true) (kc : PySem.W.keepIn K (.ref C) = true)
    (nm : PySem.W.findIn K (.ref C) "own_modulus" = some none) (nst : PySem.W.findIn K (.ref C) "own_state" = some none) (nd : PySem.W.findIn K (.ref C) "own_deeds" = some none)
    (z_isinstance : PySem.W.nsIn K mainGlobals "isinstance" = some none)
    (z_int : PySem.W.nsIn K mainGlobals "int" = some none)
    (z_bool : PySem.W.nsIn K mainGlobals "bool" = some none)
    (z_str : PySem.W.nsIn K mainGlobals "str" = some none)
    (z_tuple : PySem.W.nsIn K mainGlobals "tuple" = some none)
    (z_list : PySem.W.nsIn K mainGlobals "list" = some none)
    (z_len : PySem.W.nsIn K mainGlobals "len" = some none)
    (z_range : PySem.W.nsIn K mainGlobals "range" = some none)
    (z_min : PySem.W.nsIn K mainGlobals "min" = some none)
    (z_max : PySem.W.nsIn K mainGlobals "max" = some none)
    (z_all : PySem.W.nsIn K mainGlobals "all" = some none)
    (z_zip : PySem.W.nsIn K mainGlobals "zip" = some none)
    (z_enumerate : PySem.W.nsIn K mainGlobals "enumerate" = some none)
    (z_ValueError : PySem.W.nsIn K mainGlobals "ValueError" = some none)
    {tk_MOST_DEEDS : Tok} (g_MOST_DEEDS : PySem.W.nsIn K mainGlobals "MOST_DEEDS" = some (some (.int 24 tk_MOST_DEEDS)))
    {tk_MOST_MODULUS : Tok} (g_MOST_MODULUS : PySem.W.nsIn K mainGlobals "MOST_MODULUS" = some (some (.int 1000000000000 tk_MOST_MODULUS)))
    {tk_MOST_NUMBERS : Tok} (g_MOST_NUMBERS : PySem.W.nsIn K mainGlobals "MOST_NUMBERS" = some (some (.int 4 tk_MOST_NUMBERS)))
    {tk_MOST_ROW : Tok} (g_MOST_ROW : PySem.W.nsIn K mainGlobals "MOST_ROW" = some (some (.int 12 tk_MOST_ROW)))
    {fh0 fh1 fh2 fh3 fh4 fh5 fh6 fh7 : Int} {fk0 fk1 fk2 fk3 fk4 fk5 fk6 fk7 : Tok} {fp0 fp1 fp2 fp3 fp4 fp5 fp6 fp7 : Addr} {fep : Nat}
    (aF : PySem.W.nsIn K mainGlobals "FORMS" = some (some (.ref F)))
    (lF : K.lookup F = some { cls := .type "dict", dict := none, data := .dict #[⟨fh0, .str "set" fk0, .ref fp0⟩, ⟨fh1, .str "add" fk1, .ref fp1⟩, ⟨fh2, .str "times" fk2, .ref fp2⟩, ⟨fh3, .str "put" fk3, .ref fp3⟩, ⟨fh4, .str "drop" fk4, .ref fp4⟩, ⟨fh5, .str "send" fk5, .ref fp5⟩, ⟨fh6, .str "say" fk6, .ref fp6⟩, ⟨fh7, .str "skip" fk7, .ref fp7⟩] fep, slots := #[] })
    (neF : (F == sysModules) = false)
    {ft0_0 ft0_1 : Tok}
    {fo0 : Option Addr} {fn0 : Nat} {fs0 : Array (Option Value)} (lP0 : K.lookup fp0 = some ⟨.type "tuple", fo0, .seq #[.str "number" ft0_0, .str "value" ft0_1] fn0, fs0⟩)
    {ft1_0 ft1_1 : Tok}
    {fo1 : Option Addr} {fn1 : Nat} {fs1 : Array (Option Value)} (lP1 : K.lookup fp1 = some ⟨.type "tuple", fo1, .seq #[.str "number" ft1_0, .str "value" ft1_1] fn1, fs1⟩)
    {ft2_0 ft2_1 : Tok}
    {fo2 : Option Addr} {fn2 : Nat} {fs2 : Array (Option Value)} (lP2 : K.lookup fp2 = some ⟨.type "tuple", fo2, .seq #[.str "number" ft2_0, .str "value" ft2_1] fn2, fs2⟩)
    {ft3_0 : Tok}
    {fo3 : Option Addr} {fn3 : Nat} {fs3 : Array (Option Value)} (lP3 : K.lookup fp3 = some ⟨.type "tuple", fo3, .seq #[.str "value" ft3_0] fn3, fs3⟩)
    {fo4 : Option Addr} {fn4 : Nat} {fs4 : Array (Option Value)} (lP4 : K.lookup fp4 = some ⟨.type "tuple", fo4, .seq #[] fn4, fs4⟩)
    {ft5_0 ft5_1 : Tok}
    {fo5 : Option Addr} {fn5 : Nat} {fs5 : Array (Option Value)} (lP5 : K.lookup fp5 = some ⟨.type "tuple", fo5, .seq #[.str "way" ft5_0, .str "value" ft5_1] fn5, fs5⟩)
    {ft6_0 : Tok}
    {fo6 : Option Addr} {fn6 : Nat} {fs6 : Array (Option Value)} (lP6 : K.lookup fp6 = some ⟨.type "tuple", fo6, .seq #[.str "value" ft6_0] fn6, fs6⟩)
    {ft7_0 ft7_1 ft7_2 : Tok}
    {fo7 : Option Addr} {fn7 : Nat} {fs7 : Array (Option Value)} (lP7 : K.lookup fp7 = some ⟨.type "tuple", fo7, .seq #[.str "value" ft7_0, .str "value" ft7_1, .str "many" ft7_2] fn7, fs7⟩)
    (hinj : ∀ i, i < 19 → ∀ j, j < 19 → ([C0, C1, C2, C3, C4, C5, C6, C7, C8, C9, C10, C11, C12, C13, C14, C15, C16, C17, C18] : List Addr).getD i 0 = ([C0, C1, C2, C3, C4, C5, C6, C7, C8, C9, C10, C11, C12, C13, C14, C15, C16, C17, C18] : List Addr).getD j 0 → i = j) (hnB : ∀ i, i < 19 → ([C0, C1, C2, C3, C4, C5, C6, C7, C8, C9, C10, C11, C12, C13, C14, C15, C16, C17, C18] : List Addr).getD i 0 ≠ B)
    : ∃ fd : FuncData, (∀ (s : Shared) (v : Value), BindsTo s fd ⟨[v], []⟩ [("_law_script", v)]) ∧ ∀ base : Heap, K.In base → base.Ns mainGlobals mg → FnOk l.prog w K mg base CX0 10 fa fd ["_law_script"] (sp_law K) := by
  have FR : PyProof.Rows.KTD.Rows RelV (#[⟨fh0, .str "set" fk0, .ref fp0⟩, ⟨fh1, .str "add" fk1, .ref fp1⟩, ⟨fh2, .str "times" fk2, .ref fp2⟩, ⟨fh3, .str "put" fk3, .ref fp3⟩, ⟨fh4, .str "drop" fk4, .ref fp4⟩, ⟨fh5, .str "send" fk5, .ref fp5⟩, ⟨fh6, .str "say" fk6, .ref fp6⟩, ⟨fh7, .str "skip" fk7, .ref fp7⟩] : Array DictEntry).toList ([("set", V.ref fp0), ("add", V.ref fp1), ("times", V.ref fp2), ("put", V.ref fp3), ("drop", V.ref fp4), ("send", V.ref fp5), ("say", V.ref fp6), ("skip", V.ref fp7)] : List (Str × V)) := .cons rfl rfl (.cons rfl rfl (.cons rfl rfl (.cons rfl rfl (.cons rfl rfl (.cons rfl rfl (.cons rfl rfl (.cons rfl rfl (.nil))))))))
  have forms : ∀ w : Str, (formsT.lookup w = none ∧ PyProof.Rows.KTD.datumAt w ([("set", V.ref fp0), ("add", V.ref fp1), ("times", V.ref fp2), ("put", V.ref fp3), ("drop", V.ref fp4), ("send", V.ref fp5), ("say", V.ref fp6), ("skip", V.ref fp7)] : List (Str × V)) = none) ∨ ∃ ss p, formsT.lookup w = some ss ∧ PyProof.Rows.KTD.datumAt w ([("set", V.ref fp0), ("add", V.ref fp1), ("times", V.ref fp2), ("put", V.ref fp3), ("drop", V.ref fp4), ("send", V.ref fp5), ("say", V.ref fp6), ("skip", V.ref fp7)] : List (Str × V)) = some (.ref p) ∧ ∀ H, SqT K H p (ss.map V.str) := by
    intro w
    by_cases e0 : w = "set"
    · subst e0
      exact .inr ⟨_, fp0, rfl, by kernel_rfl, fun H => .inr ⟨_, _, _, lP0, rfl, rfl, by show 2 ≤ PySem.sizeLine; decide, (.cons ⟨ft0_0, rfl⟩ (.cons ⟨ft0_1, rfl⟩ .nil))⟩⟩
    by_cases e1 : w = "add"
    · subst e1
      exact .inr ⟨_, fp1, rfl, by kernel_rfl, fun H => .inr ⟨_, _, _, lP1, rfl, rfl, by show 2 ≤ PySem.sizeLine; decide, (.cons ⟨ft1_0, rfl⟩ (.cons ⟨ft1_1, rfl⟩ .nil))⟩⟩
    by_cases e2 : w = "times"
    · subst e2
      exact .inr ⟨_, fp2, rfl, by kernel_rfl, fun H => .inr ⟨_, _, _, lP2, rfl, rfl, by show 2 ≤ PySem.sizeLine; decide, (.cons ⟨ft2_0, rfl⟩ (.cons ⟨ft2_1, rfl⟩ .nil))⟩⟩
    by_cases e3 : w = "put"
    · subst e3
      exact .inr ⟨_, fp3, rfl, by kernel_rfl, fun H => .inr ⟨_, _, _, lP3, rfl, rfl, by show 1 ≤ PySem.sizeLine; decide, (.cons ⟨ft3_0, rfl⟩ .nil)⟩⟩
    by_cases e4 : w = "drop"
    · subst e4
      exact .inr ⟨_, fp4, rfl, by kernel_rfl, fun H => .inr ⟨_, _, _, lP4, rfl, rfl, by show 0 ≤ PySem.sizeLine; decide, .nil⟩⟩
    by_cases e5 : w = "send"
    · subst e5
      exact .inr ⟨_, fp5, rfl, by kernel_rfl, fun H => .inr ⟨_, _, _, lP5, rfl, rfl, by show 2 ≤ PySem.sizeLine; decide, (.cons ⟨ft5_0, rfl⟩ (.cons ⟨ft5_1, rfl⟩ .nil))⟩⟩
    by_cases e6 : w = "say"
    · subst e6
      exact .inr ⟨_, fp6, rfl, by kernel_rfl, fun H => .inr ⟨_, _, _, lP6, rfl, rfl, by show 1 ≤ PySem.sizeLine; decide, (.cons ⟨ft6_0, rfl⟩ .nil)⟩⟩
    by_cases e7 : w = "skip"
    · subst e7
      exact .inr ⟨_, fp7, rfl, by kernel_rfl, fun H => .inr ⟨_, _, _, lP7, rfl, rfl, by show 3 ≤ PySem.sizeLine; decide, (.cons ⟨ft7_0, rfl⟩ (.cons ⟨ft7_1, rfl⟩ (.cons ⟨ft7_2, rfl⟩ .nil)))⟩⟩
    refine .inl ⟨forms_no e0 e1 e2 e3 e4 e5 e6 e7, ?_⟩
    simp [PyProof.Rows.KTD.datumAt, e0, Ne.symm e0, e1, Ne.symm e1, e2, Ne.symm e2, e3, Ne.symm e3, e4, Ne.symm e4, e5, Ne.symm e5, e6, Ne.symm e6, e7, Ne.symm e7]
  have T : Tx K mg C F ([("set", V.ref fp0), ("add", V.ref fp1), ("times", V.ref fp2), ("put", V.ref fp3), ("drop", V.ref fp4), ("send", V.ref fp5), ("say", V.ref fp6), ("skip", V.ref fp7)] : List (Str × V)) := ⟨PySem.W.mg_none_of X G z_isinstance, PySem.W.mg_none_of X G z_int, PySem.W.mg_none_of X G z_bool, PySem.W.mg_none_of X G z_str, PySem.W.mg_none_of X G z_tuple, PySem.W.mg_none_of X G z_list, PySem.W.mg_none_of X G z_len, PySem.W.mg_none_of X G z_range, PySem.W.mg_none_of X G z_min, PySem.W.mg_none_of X G z_max, PySem.W.mg_none_of X G z_all, PySem.W.mg_none_of X G z_zip, PySem.W.mg_none_of X G z_enumerate, PySem.W.mg_none_of X G z_ValueError, ⟨_, PySem.W.mg_of X G g_MOST_DEEDS⟩, ⟨_, PySem.W.mg_of X G g_MOST_MODULUS⟩, ⟨_, PySem.W.mg_of X G g_MOST_NUMBERS⟩, ⟨_, PySem.W.mg_of X G g_MOST_ROW⟩, ⟨pg, hd, po, sa⟩, nm, nst, nd, PySem.W.mg_of X G aF, ⟨⟨_, _, _, lF, ⟨rfl, rfl, rfl⟩, rfl, FR⟩, neF⟩, forms⟩
  have X0 : XCls K C0 B := xcls_mk lx_0 ga_0 gt_0 sa_0 cl_0 cg ct kp_0
  have X1 : XCls K C1 B := xcls_mk lx_1 ga_1 gt_1 sa_1 cl_1 cg ct kp_1
  have X2 : XCls K C2 B := xcls_mk lx_2 ga_2 gt_2 sa_2 cl_2 cg ct kp_2
  have X3 : XCls K C3 B := xcls_mk lx_3 ga_3 gt_3 sa_3 cl_3 cg ct kp_3
  have X4 : XCls K C4 B := xcls_mk lx_4 ga_4 gt_4 sa_4 cl_4 cg ct kp_4
  have X5 : XCls K C5 B := xcls_mk lx_5 ga_5 gt_5 sa_5 cl_5 cg ct kp_5
  have X6 : XCls K C6 B := xcls_mk lx_6 ga_6 gt_6 sa_6 cl_6 cg ct kp_6
  have X7 : XCls K C7 B := xcls_mk lx_7 ga_7 gt_7 sa_7 cl_7 cg ct kp_7
  have X8 : XCls K C8 B := xcls_mk lx_8 ga_8 gt_8 sa_8 cl_8 cg ct kp_8
  have X9 : XCls K C9 B := xcls_mk lx_9 ga_9 gt_9 sa_9 cl_9 cg ct kp_9
  have X10 : XCls K C10 B := xcls_mk lx_10 ga_10 gt_10 sa_10 cl_10 cg ct kp_10
  have X11 : XCls K C11 B := xcls_mk lx_11 ga_11 gt_11 sa_11 cl_11 cg ct kp_11
  have X12 : XCls K C12 B := xcls_mk lx_12 ga_12 gt_12 sa_12 cl_12 cg ct kp_12
  have X13 : XCls K C13 B := xcls_mk lx_13 ga_13 gt_13 sa_13 cl_13 cg ct kp_13
  have X14 : XCls K C14 B := xcls_mk lx_14 ga_14 gt_14 sa_14 cl_14 cg ct kp_14
  have X15 : XCls K C15 B := xcls_mk lx_15 ga_15 gt_15 sa_15 cl_15 cg ct kp_15
  have X16 : XCls K C16 B := xcls_mk lx_16 ga_16 gt_16 sa_16 cl_16 cg ct kp_16
  have X17 : XCls K C17 B := xcls_mk lx_17 ga_17 gt_17 sa_17 cl_17 cg ct kp_17
  have X18 : XCls K C18 B := xcls_mk lx_18 ga_18 gt_18 sa_18 cl_18 cg ct kp_18
  have all : ∀ C ∈ ([C0, C1, C2, C3, C4, C5, C6, C7, C8, C9, C10, C11, C12, C13, C14, C15, C16, C17, C18] : List Addr), XCls K C B := (List.forall_mem_cons.mpr ⟨X0, (List.forall_mem_cons.mpr ⟨X1, (List.forall_mem_cons.mpr ⟨X2, (List.forall_mem_cons.mpr ⟨X3, (List.forall_mem_cons.mpr ⟨X4, (List.forall_mem_cons.mpr ⟨X5, (List.forall_mem_cons.mpr ⟨X6, (List.forall_mem_cons.mpr ⟨X7, (List.forall_mem_cons.mpr ⟨X8, (List.forall_mem_cons.mpr ⟨X9, (List.forall_mem_cons.mpr ⟨X10, (List.forall_mem_cons.mpr ⟨X11, (List.forall_mem_cons.mpr ⟨X12, (List.forall_mem_cons.mpr ⟨X13, (List.forall_mem_cons.mpr ⟨X14, (List.forall_mem_cons.mpr ⟨X15, (List.forall_mem_cons.mpr ⟨X16, (List.forall_mem_cons.mpr ⟨X17, (List.forall_mem_cons.mpr ⟨X18, (fun _ h => absurd h (by simp))⟩)⟩)⟩)⟩)⟩)⟩)⟩)⟩)⟩)⟩)⟩)⟩)⟩)⟩)⟩)⟩)⟩)⟩)⟩)
  have TX : XTx K mg B (fun i : Nat => ([C0, C1, C2, C3, C4, C5, C6, C7, C8, C9, C10, C11, C12, C13, C14, C15, C16, C17, C18] : List Addr).getD i 0) := {
    m_BadMachine := PySem.W.mg_of X G ax_0
    m_BadDeed := PySem.W.mg_of X G ax_1
    m_NoText := PySem.W.mg_of X G ax_2
    m_BadNet := PySem.W.mg_of X G ax_3
    m_NoLetter := PySem.W.mg_of X G ax_4
    m_NotFirst := PySem.W.mg_of X G ax_5
    m_NoCount := PySem.W.mg_of X G ax_6
    m_NoEvent := PySem.W.mg_of X G ax_7
    m_Orphaned := PySem.W.mg_of X G ax_8
    m_TooMany := PySem.W.mg_of X G ax_9
    m_NoLine := PySem.W.mg_of X G ax_10
    m_NoMachine := PySem.W.mg_of X G ax_11
    m_NotRow := PySem.W.mg_of X G ax_12
    m_Busy := PySem.W.mg_of X G ax_13
    m_NotReached := PySem.W.mg_of X G ax_14
    m_NoMark := PySem.W.mg_of X G ax_15
    m_NoRow := PySem.W.mg_of X G ax_16
    m_NoName := PySem.W.mg_of X G ax_17
    m_NoDeed := PySem.W.mg_of X G ax_18
    m_NetError := PySem.W.mg_of X G aB
    x_BadMachine := ⟨X0, in_0, PySem.W.mg_of X G ax_0⟩
    x_NoText := ⟨X2, in_2, PySem.W.mg_of X G ax_2⟩
    x_BadNet := ⟨X3, in_3, PySem.W.mg_of X G ax_3⟩
    x_NoCount := ⟨X6, in_6, PySem.W.mg_of X G ax_6⟩
    x_NoEvent := ⟨X7, in_7, PySem.W.mg_of X G ax_7⟩
    x_TooMany := ⟨X9, in_9, PySem.W.mg_of X G ax_9⟩
    x_NoMachine := ⟨X11, in_11, PySem.W.mg_of X G ax_11⟩
    x_Busy := ⟨X13, in_13, PySem.W.mg_of X G ax_13⟩
    x_NoMark := ⟨X15, in_15, PySem.W.mg_of X G ax_15⟩
    x_NoRow := ⟨X16, in_16, PySem.W.mg_of X G ax_16⟩
    x_NoName := ⟨X17, in_17, PySem.W.mg_of X G ax_17⟩
    x_NoDeed := ⟨X18, in_18, PySem.W.mg_of X G ax_18⟩
    cl := fun i hi => all _ (by
      have e : ([C0, C1, C2, C3, C4, C5, C6, C7, C8, C9, C10, C11, C12, C13, C14, C15, C16, C17, C18] : List Addr).getD i 0 = ([C0, C1, C2, C3, C4, C5, C6, C7, C8, C9, C10, C11, C12, C13, C14, C15, C16, C17, C18] : List Addr)[i]'hi := by simp only [List.getD_eq_getElem?_getD, List.getElem?_eq_getElem (show i < ([C0, C1, C2, C3, C4, C5, C6, C7, C8, C9, C10, C11, C12, C13, C14, C15, C16, C17, C18] : List Addr).length from hi), Option.getD_some]
      show ([C0, C1, C2, C3, C4, C5, C6, C7, C8, C9, C10, C11, C12, C13, C14, C15, C16, C17, C18] : List Addr).getD i 0 ∈ ([C0, C1, C2, C3, C4, C5, C6, C7, C8, C9, C10, C11, C12, C13, C14, C15, C16, C17, C18] : List Addr)
      rw [e]; exact List.getElem_mem _)
    inj := fun i j hi hj e => hinj i hi j hj e
    nB := hnB
    isB := by rw [isB]; rfl
    tyB := tyB
    xb := ⟨⟨_, _, _, _, _, _, _, _, _, _, _, _, _, _, lx_B⟩⟩
    n_BadDeed_at := n_BadDeed_at
    n_NoLetter_at := n_NoLetter_at
    n_NotFirst_at := n_NotFirst_at
    n_Orphaned_letter := n_Orphaned_letter
    n_NoLine_falls := n_NoLine_falls
    n_NoLine_letter := n_NoLine_letter
    n_NotRow_way := n_NotRow_way
    n_NotReached_machine := n_NotReached_machine
  }
  have e := hfa.symm.trans (PySem.W.mg_of X G a25)
  cases e
  have F0 := fun_mk (st := s_is_whole) l0 c0 k0
  have t_is_whole : Top1 K mg "is_whole" "is_whole" s_is_whole ["thing"] := top1_mk X G F0 a0 b_is_whole
  have F1 := fun_mk (st := s_is_within) l1 c1 k1
  have t_is_within : Top1 K mg "is_within" "is_within" s_is_within ["thing", "low", "beyond"] := top1_mk X G F1 a1 b_is_within
  have F2 := fun_mk (st := s_is_list) l2 c2 k2
  have t_is_list : Top1 K mg "is_list" "is_list" s_is_list ["things", "least", "most"] := top1_mk X G F2 a2 b_is_list
  have F3 := fun_mk (st := s_is_value) l3 c3 k3
  have t_is_value : Top1 K mg "is_value" "is_value" s_is_value ["thing", "many"] := top1_mk X G F3 a3 b_is_value
  have F4 := fun_mk (st := s_form_of) l4 c4 k4
  have t_form_of : Top1 K mg "form_of" "form_of" s_form_of ["word"] := top1_mk X G F4 a4 b_form_of
  have F5 := fun_mk (st := s_is_part) l5 c5 k5
  have t_is_part : Top1 K mg "is_part" "is_part" s_is_part ["thing", "sort", "many"] := top1_mk X G F5 a5 b_is_part
  have F6 := fun_mk (st := s_is_deed) l6 c6 k6
  have t_is_deed : Top1 K mg "is_deed" "is_deed" s_is_deed ["thing", "many"] := top1_mk X G F6 a6 b_is_deed
  have F7 := fun_mk (st := s_are_counted) l7 c7 k7
  have t_are_counted : Top1 K mg "are_counted" "are_counted" s_are_counted ["things", "least", "most", "modulus"] := top1_mk X G F7 a7 b_are_counted
  have F8 := fun_mk (st := s_refuse_machine) l8 c8 k8
  have t_refuse_machine : Top1 K mg "refuse_machine" "refuse_machine" s_refuse_machine ["modulus", "numbers", "row", "deeds"] := top1_mk X G F8 a8 b_refuse_machine
  have F9 := fun_mk (st := s_refuse_deeds) l9 c9 k9
  have t_refuse_deeds : Top1 K mg "refuse_deeds" "refuse_deeds" s_refuse_deeds ["deeds", "many"] := top1_mk X G F9 a9 b_refuse_deeds
  have F10 := fun_mk (st := s_law_at) l10 c10 k10
  have t_law_at : Top1 K mg "_law_at" "_law_at" s_law_at ["_law_script", "_law_k"] := top1_mk X G F10 a10 b_law_at
  have F11 := fun_mk (st := s_law_mixed) l11 c11 k11
  have t_law_mixed : Top1 K mg "_law_mixed" "_law_mixed" s_law_mixed ["_law_seed"] := top1_mk X G F11 a11 b_law_mixed
  have F12 := fun_mk (st := s_law_pot) l12 c12 k12
  have t_law_pot : Top1 K mg "_law_pot" "_law_pot" s_law_pot ["_law_cell"] := top1_mk X G F12 a12 b_law_pot
  have F13 := fun_mk (st := s_law_digit) l13 c13 k13
  have t_law_digit : Top1 K mg "_law_digit" "_law_digit" s_law_digit ["_law_pot_here", "_law_many"] := top1_mk X G F13 a13 b_law_digit
  have F14 := fun_mk (st := s_law_value) l14 c14 k14
  have t_law_value : Top1 K mg "_law_value" "_law_value" s_law_value ["_law_pot_here", "_law_many"] := top1_mk X G F14 a14 b_law_value
  have F15 := fun_mk (st := s_law_deed) l15 c15 k15
  have t_law_deed : Top1 K mg "_law_deed" "_law_deed" s_law_deed ["_law_pot_here", "_law_many"] := top1_mk X G F15 a15 b_law_deed
  have F16 := fun_mk (st := s_law_modulus) l16 c16 k16
  have t_law_modulus : Top1 K mg "_law_modulus" "_law_modulus" s_law_modulus ["_law_pot_here"] := top1_mk X G F16 a16 b_law_modulus
  have F17 := fun_mk (st := s_law_no_modulus) l17 c17 k17
  have t_law_no_modulus : Top1 K mg "_law_no_modulus" "_law_no_modulus" s_law_no_modulus ["_law_cell"] := top1_mk X G F17 a17 b_law_no_modulus
  have F18 := fun_mk (st := s_law_no_row) l18 c18 k18
  have t_law_no_row : Top1 K mg "_law_no_row" "_law_no_row" s_law_no_row ["_law_cell", "_law_good", "_law_least", "_law_most", "_law_modulus_here"] := top1_mk X G F18 a18 b_law_no_row
  have F19 := fun_mk (st := s_law_no_deed) l19 c19 k19
  have t_law_no_deed : Top1 K mg "_law_no_deed" "_law_no_deed" s_law_no_deed ["_law_cell", "_law_many"] := top1_mk X G F19 a19 b_law_no_deed
  have F20 := fun_mk (st := s_law_others) l20 c20 k20
  have t_law_others : Top1 K mg "_law_others" "_law_others" s_law_others ["_law_e"] := top1_mk X G F20 a20 b_law_others
  have F21 := fun_mk (st := s_law_said) l21 c21 k21
  have t_law_said : Top1 K mg "_law_said" "_law_said" s_law_said ["_law_modulus_here", "_law_numbers", "_law_row", "_law_deeds"] := top1_mk X G F21 a21 b_law_said
  have F22 := fun_mk (st := s_law_handed) l22 c22 k22
  have t_law_handed : Top1 K mg "_law_handed" "_law_handed" s_law_handed ["_law_row", "_law_way"] := top1_mk X G F22 a22 b_law_handed
  have F23 := fun_mk (st := s_law_spoiled_deeds) l23 c23 k23
  have t_law_spoiled_deeds : Top1 K mg "_law_spoiled_deeds" "_law_spoiled_deeds" s_law_spoiled_deeds ["_law_cell", "_law_deeds", "_law_many"] := top1_mk X G F23 a23 b_law_spoiled_deeds
  have F24 := fun_mk (st := s_law_case) l24 c24 k24
  have t_law_case : Top1 K mg "_law_case" "_law_case" s_law_case ["_law_pot_here", "_law_cell"] := top1_mk X G F24 a24 b_law_case
  have F25 := fun_mk (st := s_law) l25 c25 k25
  have F26 := fun_mk (st := s_Machine) l26 c26 k26
  have t_Machine : TopI K mg "Machine" C "Machine.__init__" s_Machine ["self", "modulus", "numbers", "row", "deeds"] := ⟨⟨_, _, ⟨mk, a26, i26, kc⟩, F26, F26.binds b_Machine⟩, PySem.W.mg_of X G aC⟩
  have F27 := fun_mk (st := s_BadDeed) l27 c27 k27
  have t_BadDeed : XTop K mg "BadDeed" C1 B "BadDeed.__init__" s_BadDeed ["self", "at"] := xtop_mk X G X1 a27 i27 F27 ax_1 b_BadDeed
  refine ⟨PySem.W.fnOf "law" "law" (defArgs s_law) (defBody s_law) (defScope s_law) .none kV25 dc25 pm25 an25 cd25 ct25, fun s v => .of_eq rfl, fun base _ _ => ?_⟩
  exact core T TX F25 t_is_whole t_is_within t_is_list t_is_value t_form_of t_is_part t_is_deed t_are_counted t_refuse_machine t_refuse_deeds t_law_at t_law_mixed t_law_pot t_law_digit t_law_value t_law_deed t_law_modulus t_law_no_modulus t_law_no_row t_law_no_deed t_law_others t_law_said t_law_handed t_law_spoiled_deeds t_law_case t_Machine t_BadDeed
theorem walk {l : PySem.W.OpenLaw} {q : Program} {loose : List Str} {XP : (Str → Option Value) → Heap → Prop} {YP : World → Heap → Prop} {d : DefRec} {K : Params → PySem.W.Frag} (hn : l.most = some 63) (hdf : d.params.defaults = [])
    (hY : ∀ (w : World) (h : Heap), YP w h → (K w.params).In h)
    (F : ∀ (w : World) (mg : Str → Option Value) (fa : Addr) (h : Heap), (K w.params).In h → h.Ns mainGlobals mg → mg d.name = some (.ref fa) →
      ∃ fd : FuncData, (∀ (s : Shared) (u : Value), BindsTo s fd ⟨[u], []⟩ [("_law_script", u)]) ∧ ∀ base : Heap, (K w.params).In base → base.Ns mainGlobals mg → FnOk l.prog w (K w.params) mg base CX0 10 fa fd ["_law_script"] (sp_law (K w.params))) :
    PySem.W.WalkO q loose XP YP l.row.toRowW d [] (fun f vs => PySem.call f vs) :=
  L2.walk_of (n := 63) (k := 10) (x := "_law_script") (CX := fun _ => CX0) (sp := fun w => sp_law (K w.params)) hn (by decide) hdf ⟨rfl, by decide, by decide⟩ hY F (fun _ _ a ns hl _ hS => ⟨a, ns, rfl, hS, hl, fun _ => rfl⟩) fun _ _ _ _ _ z => z
end K14

set_option Elab.async false
set_option linter.all false
set_option maxRecDepth 100000
set_option maxHeartbeats 4000000
def PySem.W.Fast.tw7201445230695007649 : Unit := ()
def PySem.W.Fast.tw15560604712761534138 : Unit := ()
def PySem.W.Fast.tw6549288004902026931 : Unit := ()
def PySem.W.Fast.tw6553192574941413021 : Unit := ()
def PySem.W.Fast.tw7825719216886326331 : Unit := ()
def PySem.W.Fast.tw5604376124299237547 : Unit := ()
def PySem.W.Fast.tw16242338381120791255 : Unit := ()
def PySem.W.Fast.tw4578677580650902200 : Unit := ()
def PySem.W.Fast.tw855647294136496661 : Unit := ()
def PySem.W.Fast.tw3306684760038916275 : Unit := ()
def PySem.W.Fast.tw9886764963004733089 : Unit := ()
def PySem.W.Fast.tw1946729870181430613 : Unit := ()
def PySem.W.Fast.tw14773786475346193609 : Unit := ()
def PySem.W.Fast.tw10564408248308550415 : Unit := ()
def PySem.W.Fast.tw2418509110700104895 : Unit := ()
def PySem.W.Fast.tw15890123159429682918 : Unit := ()
def PySem.W.Fast.tw8949442229338688844 : Unit := ()
def PySem.W.Fast.tw5956008281337088415 : Unit := ()
def PySem.W.Fast.tw2940824844425849236 : Unit := ()
def PySem.W.Fast.tw8530560633362803828 : Unit := ()
def PySem.W.Fast.tw5640426918907175386 : Unit := ()
def PySem.W.Fast.tw16743286218233760109 : Unit := ()
def PySem.W.Fast.tw10607416356322536071 : Unit := ()
def PySem.W.Fast.tw12072148307350771361 : Unit := ()
def PySem.W.Fast.tw5884006338936783842 : Unit := ()
def PySem.W.Fast.tw13809189678303860677 : Unit := ()
def PySem.W.Fast.tw8337033913344192786 : Unit := ()
def PySem.W.Fast.tw533447024593185013 : Unit := ()
def PySem.W.Fast.tw14745007421495223863 : Unit := ()
def PySem.W.Fast.tw9232034570411237845 : Unit := ()
def PySem.W.Fast.tw4863812309296112235 : Unit := ()
def PySem.W.Fast.tw17369509982348344445 : Unit := ()
def PySem.W.Fast.tw17652293583547805919 : Unit := ()
def PySem.W.Fast.tw2927973203426433227 : Unit := ()
def PySem.W.Fast.tw12583615551495921088 : Unit := ()
def PySem.W.Fast.tw13764617173280709831 : Unit := ()
def PySem.W.Fast.tw5502693852408228096 : Unit := ()
def PySem.W.Fast.tw8965378199924392982 : Unit := ()
def PySem.W.Fast.tw12930697032281937548 : Unit := ()
def PySem.W.Fast.tw14728810477965973326 : Unit := ()
def PySem.W.Fast.tw9454631862279470109 : Unit := ()
def PySem.W.Fast.tw17239847711846598141 : Unit := ()
def PySem.W.Fast.tw12806779032430569146 : Unit := ()
def PySem.W.Fast.tw12241001935418407702 : Unit := ()
def PySem.W.Fast.tw17790853556573331346 : Unit := ()
def PySem.W.Fast.tw3456832429348689213 : Unit := ()
def PySem.W.Fast.tw6168189603817684759 : Unit := ()
def PySem.W.Fast.tw3367455225844494271 : Unit := ()
def PySem.W.Fast.tw10954857649217688230 : Unit := ()
def PySem.W.Fast.tw9894828111534685631 : Unit := ()
def PySem.W.Fast.tw8384333102660527425 : Unit := ()
def PySem.W.Fast.tw846824649588543735 : Unit := ()
def PySem.W.Fast.tw17129586339268416397 : Unit := ()
def PySem.W.Fast.tw12768320675064931145 : Unit := ()
def PySem.W.Fast.tw5401048898311493048 : Unit := ()
def PySem.W.Fast.tw3308911105848678147 : Unit := ()
def PySem.W.Fast.tw10148648207651877573 : Unit := ()
def PySem.W.Fast.tw1304398864669258017 : Unit := ()
def PySem.W.Fast.tw3241620092549305888 : Unit := ()
def PySem.W.Fast.tw4681962011434617221 : Unit := ()
def PySem.W.Fast.tw8510192240883630484 : Unit := ()
def PySem.W.Fast.tw15912045871210661823 : Unit := ()
def PySem.W.Fast.tw14164700212979393674 : Unit := ()
def PySem.W.Fast.tw9262236064929167741 : Unit := ()
def PySem.W.Fast.tw12809381257708785437 : Unit := ()
def PySem.W.Fast.tw5729637208615082167 : Unit := ()
def PySem.W.Fast.tw13041501739867146899 : Unit := ()
def PySem.W.Fast.tw15036160065491173764 : Unit := ()
def PySem.W.Fast.tw17289535242961604053 : Unit := ()
def PySem.W.Fast.tw16687663094129602733 : Unit := ()
def PySem.W.Fast.tw3850330106559874501 : Unit := ()
def PySem.W.Fast.tw16481346200655313673 : Unit := ()
def PySem.W.Fast.tw14339319411129494724 : Unit := ()
def PySem.W.Fast.tw16090255251227228975 : Unit := ()
def PySem.W.Fast.tw16893868329407780124 : Unit := ()
def PySem.W.Fast.tw4743536676273821119 : Unit := ()
def PySem.W.Fast.tw10469957048148985557 : Unit := ()
def PySem.W.Fast.tw18100845818587058878 : Unit := ()
def PySem.W.Fast.tw1760469512904283215 : Unit := ()
def PySem.W.Fast.tw5745455031450417948 : Unit := ()
def PySem.W.Fast.tw13084772147000292390 : Unit := ()
def PySem.W.Fast.tw16052020571596191142 : Unit := ()
def PySem.W.Fast.tw6629558343693601214 : Unit := ()
def PySem.W.Fast.tw2305053907677777384 : Unit := ()
def PySem.W.Fast.tw8018250567287656241 : Unit := ()
def PySem.W.Fast.tw14805107959766402379 : Unit := ()
def PySem.W.Fast.tw10459554157559888463 : Unit := ()
def PySem.W.Fast.tw5861302552932421643 : Unit := ()
def PySem.W.Fast.tw12935223750395811336 : Unit := ()
def PySem.W.Fast.tw6233439528428483819 : Unit := ()
def PySem.W.Fast.tw6226371787455183537 : Unit := ()
def PySem.W.Fast.tw16954981079040066753 : Unit := ()
def PySem.W.Fast.tw743118773642074493 : Unit := ()
def PySem.W.Fast.tw8209162893207415232 : Unit := ()
def PySem.W.Fast.tw5532941655335749504 : Unit := ()
def PySem.W.Fast.tw2137044194315213649 : Unit := ()
def PySem.W.Fast.tw17439577454865962191 : Unit := ()
def PySem.W.Fast.tw2576708881299516948 : Unit := ()
def PySem.W.Fast.tw16940590313667090645 : Unit := ()
def PySem.W.Fast.tw12296547585559978618 : Unit := ()
def PySem.W.Fast.tw1391209178500596697 : Unit := ()
def PySem.W.Fast.tw9915207232186597412 : Unit := ()
def PySem.W.Fast.tw8695138521694378543 : Unit := ()
def PySem.W.Fast.tw585163617400066696 : Unit := ()
def PySem.W.Fast.tw16505294596129324733 : Unit := ()
def PySem.W.Fast.tw246919265352226342 : Unit := ()
def PySem.W.Fast.tw16445952840643907995 : Unit := ()
def PySem.W.Fast.tw6172158560788858886 : Unit := ()
def PySem.W.Fast.tw4443948356540456615 : Unit := ()
def PySem.W.Fast.tw7763286138558487399 : Unit := ()
def PySem.W.Fast.tw16799200019521500368 : Unit := ()
def PySem.W.Fast.tw1759149726042948007 : Unit := ()
def PySem.W.Fast.tw8171816511864221313 : Unit := ()
def PySem.W.Fast.tw15053512884459113032 : Unit := ()
def PySem.W.Fast.tw8050239039050965408 : Unit := ()
def PySem.W.Fast.tw12387154178947927107 : Unit := ()
def PySem.W.Fast.tw14299973922892912200 : Unit := ()
def PySem.W.Fast.tw11426849210716315677 : Unit := ()
def PySem.W.Fast.tw11156959233674395802 : Unit := ()
def PySem.W.Fast.tw12777545189441438246 : Unit := ()
def PySem.W.Fast.tw2107498934978233997 : Unit := ()
def PySem.W.Fast.tw3105001264073656728 : Unit := ()
def PySem.W.Fast.tw9005335167903269136 : Unit := ()
def PySem.W.Fast.tw10425853005617640406 : Unit := ()
def PySem.W.Fast.tw3802758503071043907 : Unit := ()
def PySem.W.Fast.tw5846537304122514217 : Unit := ()
def PySem.W.Fast.tw11056322717961494494 : Unit := ()
def PySem.W.Fast.tw9060338197046186604 : Unit := ()
def PySem.W.Fast.tw12710670937470609119 : Unit := ()
def PySem.W.Fast.tw14455579299992704068 : Unit := ()
def PySem.W.Fast.tw13683801235089446690 : Unit := ()
def PySem.W.Fast.tw4534907771618648695 : Unit := ()
def PySem.W.Fast.tw2651322826351974025 : Unit := ()
def PySem.W.Fast.tw10046649116288861525 : Unit := ()
def PySem.W.Fast.tw13462329789438598173 : Unit := ()
def PySem.W.Fast.tw18001312129645268125 : Unit := ()
def PySem.W.Fast.tw9834374795892149742 : Unit := ()
def PySem.W.Fast.tw15926960983706424412 : Unit := ()
def PySem.W.Fast.tw15766607830677530611 : Unit := ()
def PySem.W.Fast.tw12091847751942424859 : Unit := ()
def PySem.W.Fast.tw1244006177753770209 : Unit := ()
def PySem.W.Fast.tw14092553459486735960 : Unit := ()
def PySem.W.Fast.tw9606287080819202988 : Unit := ()
def PySem.W.Fast.tw3715582660267590826 : Unit := ()
def PySem.W.Fast.tw164785746835715440 : Unit := ()
def PySem.W.Fast.tw15645357430111487272 : Unit := ()
def PySem.W.Fast.tw4233465870688324348 : Unit := ()
def PySem.W.Fast.tw6239571734251749105 : Unit := ()
def PySem.W.Fast.tw11772489037430662593 : Unit := ()
def PySem.W.Fast.tw1483203156216512582 : Unit := ()
def PySem.W.Fast.tw13480550732020666963 : Unit := ()
def PySem.W.Fast.tw13782220523295291747 : Unit := ()
def PySem.W.Fast.tw14567853503169501468 : Unit := ()
def PySem.W.Fast.tw3318129526776824527 : Unit := ()
def PySem.W.Fast.tw2372714679285012494 : Unit := ()
def PySem.W.Fast.tw14244892164583046394 : Unit := ()
def PySem.W.Fast.tw11602624690394650105 : Unit := ()
def PySem.W.Fast.tw12796392246469764880 : Unit := ()
def PySem.W.Fast.tw11601344680489214669 : Unit := ()
def PySem.W.Fast.tw11283154800443946652 : Unit := ()
def PySem.W.Fast.tw3274447109803003455 : Unit := ()
def PySem.W.Fast.tw16502642666513029070 : Unit := ()
def PySem.W.Fast.tw1439822276515366786 : Unit := ()
def PySem.W.Fast.tw2862156705884807140 : Unit := ()
def PySem.W.Fast.tw16289257133554851502 : Unit := ()
def PySem.W.Fast.tw9375916423775693716 : Unit := ()
def PySem.W.Fast.tw10405462988237982900 : Unit := ()
def PySem.W.Fast.tw2940104601549262714 : Unit := ()
def PySem.W.Fast.tw12941963383195123182 : Unit := ()
def PySem.W.Fast.tw6382739562011322012 : Unit := ()
def PySem.W.Fast.tw5056082012135078418 : Unit := ()
def PySem.W.Fast.tw10378898204265926408 : Unit := ()
def PySem.W.Fast.tw3267478139057283313 : Unit := ()
def PySem.W.Fast.tw3141279978243692009 : Unit := ()
def PySem.W.Fast.tw13593422288877941311 : Unit := ()
def PySem.W.Fast.tw12076922932632356985 : Unit := ()
def PySem.W.Fast.tw15471632776389871131 : Unit := ()
def PySem.W.Fast.tw3289671213758267038 : Unit := ()
def PySem.W.Fast.tw8866631506840657753 : Unit := ()
def PySem.W.Fast.tw12816340766725751353 : Unit := ()
def PySem.W.Fast.tw8134978061946326758 : Unit := ()
def PySem.W.Fast.tw10449941908366560960 : Unit := ()
def PySem.W.Fast.tw12179012137284336284 : Unit := ()
def PySem.W.Fast.tw15625892379725652704 : Unit := ()
def PySem.W.Fast.tw3861596644609237935 : Unit := ()
def PySem.W.Fast.tw778912634570263166 : Unit := ()
def PySem.W.Fast.tw17165687537531612748 : Unit := ()
def PySem.W.Fast.tw17633704825524446392 : Unit := ()
def PySem.W.Fast.tw17686623047868393465 : Unit := ()
def PySem.W.Fast.tw11418491943716096166 : Unit := ()
def PySem.W.Fast.tw3804724821830957668 : Unit := ()
def PySem.W.Fast.tw10554414733163112725 : Unit := ()
def PySem.W.Fast.tw3863738033119041126 : Unit := ()
def PySem.W.Fast.tw5096296456420369692 : Unit := ()
def PySem.W.Fast.tw16394193133867855580 : Unit := ()
def PySem.W.Fast.tw14922824756314606310 : Unit := ()
def PySem.W.Fast.tw7925623042445314487 : Unit := ()
def PySem.W.Fast.tw13069723440492434432 : Unit := ()
def PySem.W.Fast.tw17997902854232191621 : Unit := ()
def PySem.W.Fast.tw15069959228506417858 : Unit := ()
def PySem.W.Fast.tw10940483913285779452 : Unit := ()
def PySem.W.Fast.tw7262646732049720101 : Unit := ()
def PySem.W.Fast.tw6764254305208374138 : Unit := ()
def PySem.W.Fast.tw9102198039133579787 : Unit := ()
def PySem.W.Fast.tw17300257801455370966 : Unit := ()
def PySem.W.Fast.tw17485110631662278955 : Unit := ()
def PySem.W.Fast.tw666843824833172313 : Unit := ()
def PySem.W.Fast.tw16006877036356313931 : Unit := ()
def PySem.W.Fast.tw16435830087397168443 : Unit := ()
def PySem.W.Fast.tw3853047004549190076 : Unit := ()
def PySem.W.Fast.tw16386217939845245640 : Unit := ()
def PySem.W.Fast.tw16626778090219297217 : Unit := ()
def PySem.W.Fast.tw15711190272340569012 : Unit := ()
def PySem.W.Fast.tw14656675069082574569 : Unit := ()
def PySem.W.Fast.tw3893025167817133821 : Unit := ()
def PySem.W.Fast.tw1139273571944971273 : Unit := ()
def PySem.W.Fast.tw3151401585099323031 : Unit := ()
def PySem.W.Fast.tw12792071009208773855 : Unit := ()
def PySem.W.Fast.tw16622084017624724617 : Unit := ()
def PySem.W.Fast.tw16512504355013274189 : Unit := ()
def PySem.W.Fast.tw12561843488514579542 : Unit := ()
def PySem.W.Fast.tw5970545636154222052 : Unit := ()
def PySem.W.Fast.tw15160397160501661355 : Unit := ()
def PySem.W.Fast.tw6049315232584972799 : Unit := ()
def PySem.W.Fast.tw2582012506151339921 : Unit := ()
def PySem.W.Fast.tw13313389868061602681 : Unit := ()
def PySem.W.Fast.tw15298130127675596497 : Unit := ()
def PySem.W.Fast.tw8274317088715203340 : Unit := ()
def PySem.W.Fast.tw7075463625415973360 : Unit := ()
def PySem.W.Fast.tw12888705681176764804 : Unit := ()
def PySem.W.Fast.tw1459367943967792221 : Unit := ()
def PySem.W.Fast.tw7834886121891042263 : Unit := ()
def PySem.W.Fast.tw11099514982065505474 : Unit := ()
def PySem.W.Fast.tw14544560879635507318 : Unit := ()
def PySem.W.Fast.tw16539695732359354272 : Unit := ()
def PySem.W.Fast.tw14661002967218263736 : Unit := ()
def PySem.W.Fast.tw13902735498054265907 : Unit := ()
def PySem.W.Fast.tw2692734782982262178 : Unit := ()
def PySem.W.Fast.tw11530598558105179599 : Unit := ()
def PySem.W.Fast.tw4164040508215130965 : Unit := ()
def PySem.W.Fast.tw3302131087027888463 : Unit := ()
def PySem.W.Fast.tw3941128203915945943 : Unit := ()
def PySem.W.Fast.tw1360408889220747962 : Unit := ()
def PySem.W.Fast.tw13834665026832153701 : Unit := ()
def PySem.W.Fast.tw934078815751989629 : Unit := ()
def PySem.W.Fast.tw1415837174622372497 : Unit := ()
def PySem.W.Fast.tw3999845661801506097 : Unit := ()
def PySem.W.Fast.tw2861176333875206123 : Unit := ()
def PySem.W.Fast.tw8006922935069970260 : Unit := ()
def PySem.W.Fast.tw9972937636085456279 : Unit := ()
def PySem.W.Fast.tw8162344126559671751 : Unit := ()
def PySem.W.Fast.tw13241519315916859799 : Unit := ()
def PySem.W.Fast.tw4960422152512050240 : Unit := ()
def PySem.W.Fast.tw13498180598339462741 : Unit := ()
def PySem.W.Fast.tw6607557875005219294 : Unit := ()
def PySem.W.Fast.tw1940873990945402079 : Unit := ()
def PySem.W.Fast.tw4019235795077543891 : Unit := ()
def PySem.W.Fast.tw11703484913231963634 : Unit := ()
def PySem.W.Fast.tw14692230263437372771 : Unit := ()
def PySem.W.Fast.tw9083271360813614981 : Unit := ()
def PySem.W.Fast.tw17071944774132099632 : Unit := ()
def PySem.W.Fast.tw16408961944822163654 : Unit := ()
def PySem.W.Fast.tw7233902044151674023 : Unit := ()
def PySem.W.Fast.tw4358724834925948712 : Unit := ()
def PySem.W.Fast.tw1589075491195456895 : Unit := ()
def PySem.W.Fast.tw4387831009226054141 : Unit := ()
def PySem.W.Fast.tw14814303484106538606 : Unit := ()
def PySem.W.Fast.tw10883061627696929432 : Unit := ()
def PySem.W.Fast.tw7902632547936195053 : Unit := ()
def PySem.W.Fast.tw9793567385617821846 : Unit := ()
def PySem.W.Fast.tw1266413676741295388 : Unit := ()
def PySem.W.Fast.tw14066669207056398266 : Unit := ()
def PySem.W.Fast.tw17610095662375434020 : Unit := ()
def PySem.W.Fast.tw15519939234994077430 : Unit := ()
def PySem.W.Fast.tw17871026763897753754 : Unit := ()
def PySem.W.Fast.tw15559767754891896635 : Unit := ()
def PySem.W.Fast.tw8364115211593933653 : Unit := ()
def PySem.W.Fast.tw11653908776579644346 : Unit := ()
def PySem.W.Fast.tw8724912227142012247 : Unit := ()
def PySem.W.Fast.tw3244809101180795908 : Unit := ()
def PySem.W.Fast.tw345039408827463951 : Unit := ()
def PySem.W.Fast.tw18073359288012628404 : Unit := ()
def PySem.W.Fast.tw15979449600893353058 : Unit := ()
def PySem.W.Fast.tw3618596703352955258 : Unit := ()
def PySem.W.Fast.tw10813534293087593404 : Unit := ()
def PySem.W.Fast.tw2182103480260590909 : Unit := ()
def PySem.W.Fast.tw11674978791966430944 : Unit := ()
def PySem.W.Fast.tw11905822430077120562 : Unit := ()
def PySem.W.Fast.tw14080936769738085522 : Unit := ()
def PySem.W.Fast.tw607984062887472348 : Unit := ()
def PySem.W.Fast.tw10667363435219854401 : Unit := ()
def PySem.W.Fast.tw6152809673745422120 : Unit := ()
def PySem.W.Fast.tw16947374606500755114 : Unit := ()
def PySem.W.Fast.tw1918268135795048730 : Unit := ()
def PySem.W.Fast.tw9942864301050618555 : Unit := ()
def PySem.W.Fast.tw2142941811039068981 : Unit := ()
def PySem.W.Fast.tw401238988878638472 : Unit := ()
def PySem.W.Fast.tw11197980170424200454 : Unit := ()
def PySem.W.Fast.tw14492760322557813502 : Unit := ()
def PySem.W.Fast.tw13714390128793159518 : Unit := ()
def PySem.W.Fast.tw10336837729036485850 : Unit := ()
def PySem.W.Fast.tw6727264852712626613 : Unit := ()
def PySem.W.Fast.tw9070375650647353520 : Unit := ()
def PySem.W.Fast.tw4843513231788852181 : Unit := ()
def PySem.W.Fast.tw1172531690855860360 : Unit := ()
def PySem.W.Fast.tw1631795090466040823 : Unit := ()
def PySem.W.Fast.tw7133174043418628072 : Unit := ()
def PySem.W.Fast.tw11944117925371512836 : Unit := ()
def PySem.W.Fast.tw15373133011007108081 : Unit := ()
def PySem.W.Fast.tw15001456550524145523 : Unit := ()
def PySem.W.Fast.tw14262479008472711173 : Unit := ()
def PySem.W.Fast.tw14316584866869155211 : Unit := ()
def PySem.W.Fast.tw14501964808176510157 : Unit := ()
def PySem.W.Fast.tw17662805536842048022 : Unit := ()
def PySem.W.Fast.tw15060671135028147778 : Unit := ()
def PySem.W.Fast.tw16302705186031557584 : Unit := ()
def PySem.W.Fast.tw9989723966500759770 : Unit := ()
def PySem.W.Fast.tw12612762728082542874 : Unit := ()
def PySem.W.Fast.tw14569350075734753636 : Unit := ()
def PySem.W.Fast.tw318250102039014330 : Unit := ()
def PySem.W.Fast.tw11112574344046673376 : Unit := ()
def PySem.W.Fast.tw2071947539275775770 : Unit := ()
def PySem.W.Fast.tw6023598304366202036 : Unit := ()
def PySem.W.Fast.tw17357384919240008673 : Unit := ()
def PySem.W.Fast.tw16324156388625435683 : Unit := ()
def PySem.W.Fast.tw18439109479119313692 : Unit := ()
def PySem.W.Fast.tw9141327131637076736 : Unit := ()
def PySem.W.Fast.tw9996653224788596488 : Unit := ()
def PySem.W.Fast.tw3630576965490238636 : Unit := ()
def PySem.W.Fast.tw4171950750789612660 : Unit := ()
def PySem.W.Fast.tw1674781563607282483 : Unit := ()
def PySem.W.Fast.tw8629641432071993302 : Unit := ()
def PySem.W.Fast.tw16994120611999186512 : Unit := ()
def PySem.W.Fast.tw5024680761755602653 : Unit := ()
def PySem.W.Fast.tw9360986334203888392 : Unit := ()
def PySem.W.Fast.tw3303897190420735177 : Unit := ()
def PySem.W.Fast.tw2835698242977659570 : Unit := ()
def PySem.W.Fast.tw3504070820620571685 : Unit := ()
def PySem.W.Fast.tw5843096199298574181 : Unit := ()
def PySem.W.Fast.tw12570906254605652873 : Unit := ()
def PySem.W.Fast.tw878863897884935415 : Unit := ()
def PySem.W.Fast.tw12970042131773343242 : Unit := ()
def PySem.W.Fast.tw16739590133205972499 : Unit := ()
def PySem.W.Fast.tw13612017073288959114 : Unit := ()
def PySem.W.Fast.tw17486575185746848493 : Unit := ()
def PySem.W.Fast.tw15191842847576995094 : Unit := ()
def PySem.W.Fast.tw12903307359874370017 : Unit := ()
def PySem.W.Fast.tw10074095151926053002 : Unit := ()
def PySem.W.Fast.tw5046460969804821171 : Unit := ()
def PySem.W.Fast.tw190008977343880155 : Unit := ()
def PySem.W.Fast.tw15425728813238721398 : Unit := ()
def PySem.W.Fast.tw1999565486043690227 : Unit := ()
def PySem.W.Fast.tw9920306949507484762 : Unit := ()
def PySem.W.Fast.tw6049123383333699729 : Unit := ()
def PySem.W.Fast.tw9394562114129115450 : Unit := ()
def PySem.W.Fast.tw17905700155092383367 : Unit := ()
def PySem.W.Fast.tw2260455226575316083 : Unit := ()
def PySem.W.Fast.tw10615740569613840168 : Unit := ()
def PySem.W.Fast.tw10430878328817153041 : Unit := ()
def PySem.W.Fast.tw17231414935360583837 : Unit := ()
def PySem.W.Fast.tw7637135635871730535 : Unit := ()
def PySem.W.Fast.tw11921248981339870552 : Unit := ()
def PySem.W.Fast.tw317860002146529475 : Unit := ()
def PySem.W.Fast.tw9572174306248123146 : Unit := ()
def PySem.W.Fast.tw4496406192891073160 : Unit := ()
def PySem.W.Fast.tw9475511588714701501 : Unit := ()
def PySem.W.Fast.tw4120044249949197117 : Unit := ()
def PySem.W.Fast.tw10723700424696310957 : Unit := ()
def PySem.W.Fast.tw1616810487687455494 : Unit := ()
def PySem.W.Fast.tw27481783908082321 : Unit := ()
def PySem.W.Fast.tw10468397315749800297 : Unit := ()
def PySem.W.Fast.tw11317438296201630177 : Unit := ()
def PySem.W.Fast.tw9642072887444256284 : Unit := ()
def PySem.W.Fast.tw6283874524912601755 : Unit := ()
def PySem.W.Fast.tw17984460806750374093 : Unit := ()
def PySem.W.Fast.tw11904608292792271150 : Unit := ()
def PySem.W.Fast.tw6012758199649974641 : Unit := ()
def PySem.W.Fast.tw10206092968489747411 : Unit := ()
def PySem.W.Fast.tw4452846696162033288 : Unit := ()
def PySem.W.Fast.tw16040943891504127221 : Unit := ()
def PySem.W.Fast.tw10732079786898357255 : Unit := ()
def PySem.W.Fast.tw16724703992962061953 : Unit := ()
def PySem.W.Fast.tw3876993902389115945 : Unit := ()
def PySem.W.Fast.tw17835369274796310223 : Unit := ()
def PySem.W.Fast.tw7885193069661321460 : Unit := ()
def PySem.W.Fast.tw6544496091128917961 : Unit := ()
def PySem.W.Fast.tw18245893664652563350 : Unit := ()
def PySem.W.Fast.tw4841659557997626001 : Unit := ()
def PySem.W.Fast.tw7696882108920378654 : Unit := ()
def PySem.W.Fast.tw1877029077008333403 : Unit := ()
def PySem.W.Fast.tw10612888662629329952 : Unit := ()
def PySem.W.Fast.tw3021368846476288843 : Unit := ()
def PySem.W.Fast.tw9233465203702818720 : Unit := ()
def PySem.W.Fast.tw6325849297693668784 : Unit := ()
def PySem.W.Fast.tw12216693385437396117 : Unit := ()
def PySem.W.Fast.tw15754857451421981678 : Unit := ()
def PySem.W.Fast.tw17010832452009601305 : Unit := ()
def PySem.W.Fast.tw4981259665185773099 : Unit := ()
def PySem.W.Fast.tw17636912540071433991 : Unit := ()
def PySem.W.Fast.tw4699906633594625544 : Unit := ()
def PySem.W.Fast.tw13781570454926390897 : Unit := ()
def PySem.W.Fast.tw10819081221126231254 : Unit := ()
def PySem.W.Fast.tw3510018953203795760 : Unit := ()
def PySem.W.Fast.tw10200362583115635331 : Unit := ()
def PySem.W.Fast.tw10209558087308768758 : Unit := ()
def PySem.W.Fast.tw6257215132209265346 : Unit := ()
def PySem.W.Fast.tw2402356811499653200 : Unit := ()
def PySem.W.Fast.tw3205503988062270929 : Unit := ()
def PySem.W.Fast.tw8689486420188142201 : Unit := ()
def PySem.W.Fast.tw1928202965385927705 : Unit := ()
def PySem.W.Fast.tw5959562448855474597 : Unit := ()
def PySem.W.Fast.tw5546135383265821491 : Unit := ()
def PySem.W.Fast.tw15469201955973384189 : Unit := ()
def PySem.W.Fast.tw6886663417558553209 : Unit := ()
def PySem.W.Fast.tw7155603714016636588 : Unit := ()
def PySem.W.Fast.tw14671427033042159696 : Unit := ()
def PySem.W.Fast.tw9794042533847131803 : Unit := ()
def PySem.W.Fast.tw6822375020886492891 : Unit := ()
def PySem.W.Fast.tw993213410284053990 : Unit := ()
def PySem.W.Fast.tw8675358188476997782 : Unit := ()
def PySem.W.Fast.tw155232228093617437 : Unit := ()
def PySem.W.Fast.tw9828947948385438969 : Unit := ()
def PySem.W.Fast.tw3537693726190892540 : Unit := ()
def PySem.W.Fast.tw15724134149218329771 : Unit := ()
def PySem.W.Fast.tw15834950201616884762 : Unit := ()
def PySem.W.Fast.tw11273070144473537346 : Unit := ()
def PySem.W.Fast.tw7210804733725017772 : Unit := ()
def PySem.W.Fast.tw1929330755317036279 : Unit := ()
def PySem.W.Fast.tw5890059255588395350 : Unit := ()
def PySem.W.Fast.tw16740353383278339425 : Unit := ()
def PySem.W.Fast.tw966158426546614333 : Unit := ()
def PySem.W.Fast.tw5256661631071884950 : Unit := ()
def PySem.W.Fast.tw17663398046458964098 : Unit := ()
def PySem.W.Fast.tw11165179648075549891 : Unit := ()
def PySem.W.Fast.tw18430443795611064209 : Unit := ()
def PySem.W.Fast.tw12566604759236466939 : Unit := ()
def PySem.W.Fast.tw2069547238468753135 : Unit := ()
def PySem.W.Fast.tw3517360248979201434 : Unit := ()
def PySem.W.Fast.tw5477117642190690000 : Unit := ()
def PySem.W.Fast.tw12054177452984774839 : Unit := ()
def PySem.W.Fast.tw7510315552900469888 : Unit := ()
def PySem.W.Fast.tw1272164231681280384 : Unit := ()
def PySem.W.Fast.tw3433425563432283757 : Unit := ()
def PySem.W.Fast.tw920535064135775802 : Unit := ()
def PySem.W.Fast.tw14324167201414660609 : Unit := ()
def PySem.W.Fast.tw7296992991314128683 : Unit := ()
def PySem.W.Fast.tw5314190747297408527 : Unit := ()
def PySem.W.Fast.tw2257701508935776610 : Unit := ()
def PySem.W.Fast.tw7456714943197643377 : Unit := ()
def PySem.W.Fast.tw17712629435911975403 : Unit := ()
def PySem.W.Fast.tw16564346715079299203 : Unit := ()
def PySem.W.Fast.tw10698592020254388421 : Unit := ()
def PySem.W.Fast.tw14995333992518129369 : Unit := ()
def PySem.W.Fast.tw2202811056987350031 : Unit := ()
def PySem.W.Fast.tw2717132089712276864 : Unit := ()
def PySem.W.Fast.tw14870439692592060097 : Unit := ()
def PySem.W.Fast.tw5633800849717887464 : Unit := ()
def PySem.W.Fast.tw8759266839345549352 : Unit := ()
def PySem.W.Fast.tw2254733196582816646 : Unit := ()
def PySem.W.Fast.tw13915488908597442664 : Unit := ()
def PySem.W.Fast.tw1824955736919641909 : Unit := ()
def PySem.W.Fast.tw14009930133849704240 : Unit := ()
def PySem.W.Fast.tw14194135513309277155 : Unit := ()
def PySem.W.Fast.tw10216668251288263418 : Unit := ()
def PySem.W.Fast.tw5078089812575810139 : Unit := ()
def PySem.W.Fast.tw1138304726055064843 : Unit := ()
def PySem.W.Fast.tw1896541869779770910 : Unit := ()
def PySem.W.Fast.tw13291030561510070417 : Unit := ()
def PySem.W.Fast.tw4414051757539281070 : Unit := ()
def PySem.W.Fast.tw13308520412171064946 : Unit := ()
def PySem.W.Fast.tw16225891582025164136 : Unit := ()
def PySem.W.Fast.tw3060587080257388718 : Unit := ()
def PySem.W.Fast.tw12622258179380066081 : Unit := ()
def PySem.W.Fast.tw10033365262227516056 : Unit := ()
def PySem.W.Fast.tw8692824930873644842 : Unit := ()
def PySem.W.Fast.tw17315147530012490466 : Unit := ()
def PySem.W.Fast.tw12889948807996156993 : Unit := ()
def PySem.W.Fast.tw14532164727948096929 : Unit := ()
def PySem.W.Fast.tw17062550633421180378 : Unit := ()
def PySem.W.Fast.tw9556561229327482962 : Unit := ()
def PySem.W.Fast.tw1778383324230652622 : Unit := ()
def PySem.W.Fast.tw4452699629612168844 : Unit := ()
def PySem.W.Fast.tw1392539392118038318 : Unit := ()
def PySem.W.Fast.tw11372806687739753030 : Unit := ()
def PySem.W.Fast.tw7771557765063771576 : Unit := ()
def PySem.W.Fast.tw4959749232023267955 : Unit := ()
def PySem.W.Fast.tw13067529303988625361 : Unit := ()
def PySem.W.Fast.tw18006965446460858333 : Unit := ()
def PySem.W.Fast.tw599345969806398222 : Unit := ()
def PySem.W.Fast.tw15883619579638739035 : Unit := ()
def PySem.W.Fast.tw7240978883289072714 : Unit := ()
def PySem.W.Fast.tw2176493867152214644 : Unit := ()
def PySem.W.Fast.tw9566739430246894617 : Unit := ()
def PySem.W.Fast.tw12700632893110741800 : Unit := ()
def PySem.W.Fast.tw9059877096572035259 : Unit := ()
def PySem.W.Fast.tw2354738523612623360 : Unit := ()
def PySem.W.Fast.tw3443318132486163078 : Unit := ()
def PySem.W.Fast.tw3132111427205467588 : Unit := ()
def PySem.W.Fast.tw1803533763746359193 : Unit := ()
def PySem.W.Fast.tw13216725445615480847 : Unit := ()
def PySem.W.Fast.tw15919813522138288547 : Unit := ()
def PySem.W.Fast.tw7702173869923042875 : Unit := ()
def PySem.W.Fast.tw10279852118221646916 : Unit := ()
def PySem.W.Fast.tw11200489076137071864 : Unit := ()
def PySem.W.Fast.tw1974328403004477206 : Unit := ()
def PySem.W.Fast.tw18048684422009379181 : Unit := ()
def PySem.W.Fast.tw17909939094014836867 : Unit := ()
def PySem.W.Fast.tw4560837918940194133 : Unit := ()
def PySem.W.Fast.tw8023089717764783502 : Unit := ()
def PySem.W.Fast.tw14607076526746381865 : Unit := ()
def PySem.W.Fast.tw4553338578851436216 : Unit := ()
def PySem.W.Fast.tw948908112131567878 : Unit := ()
def PySem.W.Fast.tw8118306585246969776 : Unit := ()
def PySem.W.Fast.tw11927345332860590252 : Unit := ()
def PySem.W.Fast.tw1832336893678154110 : Unit := ()
def PySem.W.Fast.tw7443928358249026552 : Unit := ()
def PySem.W.Fast.tw5268907259441289320 : Unit := ()
def PySem.W.Fast.tw4012142206115745037 : Unit := ()
def PySem.W.Fast.tw9596936142501603535 : Unit := ()
def PySem.W.Fast.tw5568083252091192700 : Unit := ()
def PySem.W.Fast.tw2578246492985270185 : Unit := ()
def PySem.W.Fast.tw11671007492242315665 : Unit := ()
def PySem.W.Fast.tw17940490581529159767 : Unit := ()
def PySem.W.Fast.tw3450101857554277839 : Unit := ()
def PySem.W.Fast.tw14317670936081418766 : Unit := ()
def PySem.W.Fast.tw13138422705104345969 : Unit := ()
def PySem.W.Fast.tw7769176931894988281 : Unit := ()
def PySem.W.Fast.tw16148449513316330449 : Unit := ()
def PySem.W.Fast.tw3093657443696560348 : Unit := ()
def PySem.W.Fast.tw5570196055226640309 : Unit := ()
def PySem.W.Fast.tw7398302553051756675 : Unit := ()
def PySem.W.Fast.tw248562558496739323 : Unit := ()
def PySem.W.Fast.tw4902032847997352298 : Unit := ()
def PySem.W.Fast.tw16372052339730423252 : Unit := ()
def PySem.W.Fast.tw783831455312958816 : Unit := ()
def PySem.W.Fast.tw5464861716081082687 : Unit := ()
def PySem.W.Fast.tw12199607432255876322 : Unit := ()
def PySem.W.Fast.tw8456908553261912421 : Unit := ()
def PySem.W.Fast.tw13787303797405902883 : Unit := ()
def PySem.W.Fast.tw1785852735192852429 : Unit := ()
def PySem.W.Fast.tw255521950057919684 : Unit := ()
def PySem.W.Fast.tw4070488354840849742 : Unit := ()
def PySem.W.Fast.tw18177446171373584171 : Unit := ()
def PySem.W.Fast.tw9487400662000787457 : Unit := ()
def PySem.W.Fast.tw13749240238410578258 : Unit := ()
def PySem.W.Fast.tw17775891106907859864 : Unit := ()
def PySem.W.Fast.tw15302103787339826632 : Unit := ()
def PySem.W.Fast.tw5961534890811088541 : Unit := ()
def PySem.W.Fast.tw4442081758987180026 : Unit := ()
def PySem.W.Fast.tw576236931653378602 : Unit := ()
def PySem.W.Fast.tw13333822636545472675 : Unit := ()
def PySem.W.Fast.tw15539182692122543584 : Unit := ()
def PySem.W.Fast.tw2441028192352211043 : Unit := ()
def PySem.W.Fast.tw11674577270956065835 : Unit := ()
def PySem.W.Fast.tw13260671724831783435 : Unit := ()
def PySem.W.Fast.tw2791028727260190887 : Unit := ()
def PySem.W.Fast.tw12379266238859764016 : Unit := ()
def PySem.W.Fast.tw8296612190705271227 : Unit := ()
def PySem.W.Fast.tw9878966534869223154 : Unit := ()
def PySem.W.Fast.tw2177674029362649712 : Unit := ()
def PySem.W.Fast.tw8547212520442204416 : Unit := ()
def PySem.W.Fast.tw4116007461484467135 : Unit := ()
def PySem.W.Fast.tw2401764574306139997 : Unit := ()
def PySem.W.Fast.tw1955916210185799063 : Unit := ()
def PySem.W.Fast.tw8353377487021016185 : Unit := ()
def PySem.W.Fast.tw8324779171817375796 : Unit := ()
def PySem.W.Fast.tw3877118700866247190 : Unit := ()
def PySem.W.Fast.tw16249202619711334270 : Unit := ()
def PySem.W.Fast.tw377100566096863166 : Unit := ()
def PySem.W.Fast.tw12078986795280326779 : Unit := ()
def PySem.W.Fast.tw15013298031590975677 : Unit := ()
def PySem.W.Fast.tw11774340953376474947 : Unit := ()
def PySem.W.Fast.tw41318566332531264 : Unit := ()
open PySem PySem.W PyProof.Rows
set_option maxRecDepth 100000 in
set_option maxHeartbeats 0 in
theorem PySem.Challenge.cw_cutrestore_k14_machines_refused_holds : PySem.Challenge.rw_cutrestore_k14_machines_refused.Holds := by
  w_on; o_law; k_head; (case hw => w_witness2)
  k_fill
  refine K14.walk (l := PySem.Challenge.rw_cutrestore_k14_machines_refused) rfl rfl (fun w h Y => PySem.W.kIn_of Y) ?F
  case F =>
    intro w mg fa h KX G hmg
    refine' K14.all_mk KX G hmg ?aB ?isB ?tyB ?lx_B ?cg ?ct ?ax_0 ?lx_0 ?ga_0 ?gt_0 ?sa_0 ?cl_0 ?kp_0 ?in_0 ?ax_1 ?lx_1 ?ga_1 ?gt_1 ?sa_1 ?cl_1 ?kp_1 ?n_BadDeed_at ?ax_2 ?lx_2 ?ga_2 ?gt_2 ?sa_2 ?cl_2 ?kp_2 ?in_2 ?ax_3 ?lx_3 ?ga_3 ?gt_3 ?sa_3 ?cl_3 ?kp_3 ?in_3 ?ax_4 ?lx_4 ?ga_4 ?gt_4 ?sa_4 ?cl_4 ?kp_4 ?n_NoLetter_at ?ax_5 ?lx_5 ?ga_5 ?gt_5 ?sa_5 ?cl_5 ?kp_5 ?n_NotFirst_at ?ax_6 ?lx_6 ?ga_6 ?gt_6 ?sa_6 ?cl_6 ?kp_6 ?in_6 ?ax_7 ?lx_7 ?ga_7 ?gt_7 ?sa_7 ?cl_7 ?kp_7 ?in_7 ?ax_8 ?lx_8 ?ga_8 ?gt_8 ?sa_8 ?cl_8 ?kp_8 ?n_Orphaned_letter ?ax_9 ?lx_9 ?ga_9 ?gt_9 ?sa_9 ?cl_9 ?kp_9 ?in_9 ?ax_10 ?lx_10 ?ga_10 ?gt_10 ?sa_10 ?cl_10 ?kp_10 ?n_NoLine_falls ?n_NoLine_letter ?ax_11 ?lx_11 ?ga_11 ?gt_11 ?sa_11 ?cl_11 ?kp_11 ?in_11 ?ax_12 ?lx_12 ?ga_12 ?gt_12 ?sa_12 ?cl_12 ?kp_12 ?n_NotRow_way ?ax_13 ?lx_13 ?ga_13 ?gt_13 ?sa_13 ?cl_13 ?kp_13 ?in_13 ?ax_14 ?lx_14 ?ga_14 ?gt_14 ?sa_14 ?cl_14 ?kp_14 ?n_NotReached_machine ?ax_15 ?lx_15 ?ga_15 ?gt_15 ?sa_15 ?cl_15 ?kp_15 ?in_15 ?ax_16 ?lx_16 ?ga_16 ?gt_16 ?sa_16 ?cl_16 ?kp_16 ?in_16 ?ax_17 ?lx_17 ?ga_17 ?gt_17 ?sa_17 ?cl_17 ?kp_17 ?in_17 ?ax_18 ?lx_18 ?ga_18 ?gt_18 ?sa_18 ?cl_18 ?kp_18 ?in_18 ?aC ?a0 ?l0 ?c0 ?k0 ?a1 ?l1 ?c1 ?k1 ?a2 ?l2 ?c2 ?k2 ?a3 ?l3 ?c3 ?k3 ?a4 ?l4 ?c4 ?k4 ?a5 ?l5 ?c5 ?k5 ?a6 ?l6 ?c6 ?k6 ?a7 ?l7 ?c7 ?k7 ?a8 ?l8 ?c8 ?k8 ?a9 ?l9 ?c9 ?k9 ?a10 ?l10 ?c10 ?k10 ?a11 ?l11 ?c11 ?k11 ?a12 ?l12 ?c12 ?k12 ?a13 ?l13 ?c13 ?k13 ?a14 ?l14 ?c14 ?k14 ?a15 ?l15 ?c15 ?k15 ?a16 ?l16 ?c16 ?k16 ?a17 ?l17 ?c17 ?k17 ?a18 ?l18 ?c18 ?k18 ?a19 ?l19 ?c19 ?k19 ?a20 ?l20 ?c20 ?k20 ?a21 ?l21 ?c21 ?k21 ?a22 ?l22 ?c22 ?k22 ?a23 ?l23 ?c23 ?k23 ?a24 ?l24 ?c24 ?k24 ?a25 ?l25 ?c25 ?k25 ?a26 ?i26 ?l26 ?c26 ?k26 ?a27 ?i27 ?l27 ?c27 ?k27 ?pg ?hd ?po ?sa ?mk ?kc ?nm ?nst ?nd ?z_isinstance ?z_int ?z_bool ?z_str ?z_tuple ?z_list ?z_len ?z_range ?z_min ?z_max ?z_all ?z_zip ?z_enumerate ?z_ValueError ?g_MOST_DEEDS ?g_MOST_MODULUS ?g_MOST_NUMBERS ?g_MOST_ROW ?aF ?lF ?neF ?lP0 ?lP1 ?lP2 ?lP3 ?lP4 ?lP5 ?lP6 ?lP7 ?hinj ?hnB
    (case aB => k_is)
    (case isB => k_is)
    (case tyB => k_is)
    (case lx_B => k_is)
    (case cg => k_is)
    (case ct => k_is)
    (case ax_0 => k_is)
    (case lx_0 => k_is)
    (case ga_0 => k_is)
    (case gt_0 => k_is)
    (case sa_0 => k_is)
    (case cl_0 => k_is)
    (case kp_0 => k_is)
    (case in_0 => k_is)
    (case ax_1 => k_is)
    (case lx_1 => k_is)
    (case ga_1 => k_is)
    (case gt_1 => k_is)
    (case sa_1 => k_is)
    (case cl_1 => k_is)
    (case kp_1 => k_is)
    (case n_BadDeed_at => k_is)
    (case ax_2 => k_is)
    (case lx_2 => k_is)
    (case ga_2 => k_is)
    (case gt_2 => k_is)
    (case sa_2 => k_is)
    (case cl_2 => k_is)
    (case kp_2 => k_is)
    (case in_2 => k_is)
    (case ax_3 => k_is)
    (case lx_3 => k_is)
    (case ga_3 => k_is)
    (case gt_3 => k_is)
    (case sa_3 => k_is)
    (case cl_3 => k_is)
    (case kp_3 => k_is)
    (case in_3 => k_is)
    (case ax_4 => k_is)
    (case lx_4 => k_is)
    (case ga_4 => k_is)
    (case gt_4 => k_is)
    (case sa_4 => k_is)
    (case cl_4 => k_is)
    (case kp_4 => k_is)
    (case n_NoLetter_at => k_is)
    (case ax_5 => k_is)
    (case lx_5 => k_is)
    (case ga_5 => k_is)
    (case gt_5 => k_is)
    (case sa_5 => k_is)
    (case cl_5 => k_is)
    (case kp_5 => k_is)
    (case n_NotFirst_at => k_is)
    (case ax_6 => k_is)
    (case lx_6 => k_is)
    (case ga_6 => k_is)
    (case gt_6 => k_is)
    (case sa_6 => k_is)
    (case cl_6 => k_is)
    (case kp_6 => k_is)
    (case in_6 => k_is)
    (case ax_7 => k_is)
    (case lx_7 => k_is)
    (case ga_7 => k_is)
    (case gt_7 => k_is)
    (case sa_7 => k_is)
    (case cl_7 => k_is)
    (case kp_7 => k_is)
    (case in_7 => k_is)
    (case ax_8 => k_is)
    (case lx_8 => k_is)
    (case ga_8 => k_is)
    (case gt_8 => k_is)
    (case sa_8 => k_is)
    (case cl_8 => k_is)
    (case kp_8 => k_is)
    (case n_Orphaned_letter => k_is)
    (case ax_9 => k_is)
    (case lx_9 => k_is)
    (case ga_9 => k_is)
    (case gt_9 => k_is)
    (case sa_9 => k_is)
    (case cl_9 => k_is)
    (case kp_9 => k_is)
    (case in_9 => k_is)
    (case ax_10 => k_is)
    (case lx_10 => k_is)
    (case ga_10 => k_is)
    (case gt_10 => k_is)
    (case sa_10 => k_is)
    (case cl_10 => k_is)
    (case kp_10 => k_is)
    (case n_NoLine_falls => k_is)
    (case n_NoLine_letter => k_is)
    (case ax_11 => k_is)
    (case lx_11 => k_is)
    (case ga_11 => k_is)
    (case gt_11 => k_is)
    (case sa_11 => k_is)
    (case cl_11 => k_is)
    (case kp_11 => k_is)
    (case in_11 => k_is)
    (case ax_12 => k_is)
    (case lx_12 => k_is)
    (case ga_12 => k_is)
    (case gt_12 => k_is)
    (case sa_12 => k_is)
    (case cl_12 => k_is)
    (case kp_12 => k_is)
    (case n_NotRow_way => k_is)
    (case ax_13 => k_is)
    (case lx_13 => k_is)
    (case ga_13 => k_is)
    (case gt_13 => k_is)
    (case sa_13 => k_is)
    (case cl_13 => k_is)
    (case kp_13 => k_is)
    (case in_13 => k_is)
    (case ax_14 => k_is)
    (case lx_14 => k_is)
    (case ga_14 => k_is)
    (case gt_14 => k_is)
    (case sa_14 => k_is)
    (case cl_14 => k_is)
    (case kp_14 => k_is)
    (case n_NotReached_machine => k_is)
    (case ax_15 => k_is)
    (case lx_15 => k_is)
    (case ga_15 => k_is)
    (case gt_15 => k_is)
    (case sa_15 => k_is)
    (case cl_15 => k_is)
    (case kp_15 => k_is)
    (case in_15 => k_is)
    (case ax_16 => k_is)
    (case lx_16 => k_is)
    (case ga_16 => k_is)
    (case gt_16 => k_is)
    (case sa_16 => k_is)
    (case cl_16 => k_is)
    (case kp_16 => k_is)
    (case in_16 => k_is)
    (case ax_17 => k_is)
    (case lx_17 => k_is)
    (case ga_17 => k_is)
    (case gt_17 => k_is)
    (case sa_17 => k_is)
    (case cl_17 => k_is)
    (case kp_17 => k_is)
    (case in_17 => k_is)
    (case ax_18 => k_is)
    (case lx_18 => k_is)
    (case ga_18 => k_is)
    (case gt_18 => k_is)
    (case sa_18 => k_is)
    (case cl_18 => k_is)
    (case kp_18 => k_is)
    (case in_18 => k_is)
    (case aC => k_is)
    (case a0 => k_is)
    (case l0 => k_is)
    (case c0 => k_is)
    (case k0 => k_is)
    (case a1 => k_is)
    (case l1 => k_is)
    (case c1 => k_is)
    (case k1 => k_is)
    (case a2 => k_is)
    (case l2 => k_is)
    (case c2 => k_is)
    (case k2 => k_is)
    (case a3 => k_is)
    (case l3 => k_is)
    (case c3 => k_is)
    (case k3 => k_is)
    (case a4 => k_is)
    (case l4 => k_is)
    (case c4 => k_is)
    (case k4 => k_is)
    (case a5 => k_is)
    (case l5 => k_is)
    (case c5 => k_is)
    (case k5 => k_is)
    (case a6 => k_is)
    (case l6 => k_is)
    (case c6 => k_is)
    (case k6 => k_is)
    (case a7 => k_is)
    (case l7 => k_is)
    (case c7 => k_is)
    (case k7 => k_is)
    (case a8 => k_is)
    (case l8 => k_is)
    (case c8 => k_is)
    (case k8 => k_is)
    (case a9 => k_is)
    (case l9 => k_is)
    (case c9 => k_is)
    (case k9 => k_is)
    (case a10 => k_is)
    (case l10 => k_is)
    (case c10 => k_is)
    (case k10 => k_is)
    (case a11 => k_is)
    (case l11 => k_is)
    (case c11 => k_is)
    (case k11 => k_is)
    (case a12 => k_is)
    (case l12 => k_is)
    (case c12 => k_is)
    (case k12 => k_is)
    (case a13 => k_is)
    (case l13 => k_is)
    (case c13 => k_is)
    (case k13 => k_is)
    (case a14 => k_is)
    (case l14 => k_is)
    (case c14 => k_is)
    (case k14 => k_is)
    (case a15 => k_is)
    (case l15 => k_is)
    (case c15 => k_is)
    (case k15 => k_is)
    (case a16 => k_is)
    (case l16 => k_is)
    (case c16 => k_is)
    (case k16 => k_is)
    (case a17 => k_is)
    (case l17 => k_is)
    (case c17 => k_is)
    (case k17 => k_is)
    (case a18 => k_is)
    (case l18 => k_is)
    (case c18 => k_is)
    (case k18 => k_is)
    (case a19 => k_is)
    (case l19 => k_is)
    (case c19 => k_is)
    (case k19 => k_is)
    (case a20 => k_is)
    (case l20 => k_is)
    (case c20 => k_is)
    (case k20 => k_is)
    (case a21 => k_is)
    (case l21 => k_is)
    (case c21 => k_is)
    (case k21 => k_is)
    (case a22 => k_is)
    (case l22 => k_is)
    (case c22 => k_is)
    (case k22 => k_is)
    (case a23 => k_is)
    (case l23 => k_is)
    (case c23 => k_is)
    (case k23 => k_is)
    (case a24 => k_is)
    (case l24 => k_is)
    (case c24 => k_is)
    (case k24 => k_is)
    (case a25 => k_is)
    (case l25 => k_is)
    (case c25 => k_is)
    (case k25 => k_is)
    (case a26 => k_is)
    (case i26 => k_is)
    (case l26 => k_is)
    (case c26 => k_is)
    (case k26 => k_is)
    (case a27 => k_is)
    (case i27 => k_is)
    (case l27 => k_is)
    (case c27 => k_is)
    (case k27 => k_is)
    (case pg => k_is)
    (case hd => k_is)
    (case po => k_is)
    (case sa => k_is)
    (case mk => k_is)
    (case kc => k_is)
    (case nm => k_is)
    (case nst => k_is)
    (case nd => k_is)
    (case z_isinstance => k_is)
    (case z_int => k_is)
    (case z_bool => k_is)
    (case z_str => k_is)
    (case z_tuple => k_is)
    (case z_list => k_is)
    (case z_len => k_is)
    (case z_range => k_is)
    (case z_min => k_is)
    (case z_max => k_is)
    (case z_all => k_is)
    (case z_zip => k_is)
    (case z_enumerate => k_is)
    (case z_ValueError => k_is)
    (case g_MOST_DEEDS => k_is)
    (case g_MOST_MODULUS => k_is)
    (case g_MOST_NUMBERS => k_is)
    (case g_MOST_ROW => k_is)
    (case aF => k_is)
    (case lF => k_is)
    (case neF => first | rfl | decide)
    (case lP0 => k_is)
    (case lP1 => k_is)
    (case lP2 => k_is)
    (case lP3 => k_is)
    (case lP4 => k_is)
    (case lP5 => k_is)
    (case lP6 => k_is)
    (case lP7 => k_is)
    (case hinj => decide +kernel)
    (case hnB => decide +kernel)

