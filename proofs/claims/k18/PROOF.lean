import PyProof.Rows.All
import Wide.All
import OpenK.AllK
import Wide.FinOn
import Lean
import PyProof.EqAt
import PyProof.EqKinds
import PyProof.TupleCall
import PyProof.NeKinds
import PyProof.Rows.Range3
import PyProof.Draws
import PyProof.ZipIter
import PyProof.SumWalk
import PyProof.Rows.FactsT2
import PyProof.EnumMake
import PyProof.Rows.EnumRows
import KE.KTab
import KE.KIsAll
import PyProof.ExcClass3
import PyProof.InstStoreFacts
import PyProof.ExcArgsOwn
import PyProof.ExcBaseAll.ValueError
import PyProof.ExcAttrAll.ValueError
import PySem.Challenge.RW_cutrestore_k18_refusals_made

set_option Elab.async false
set_option linter.all false
set_option maxRecDepth 100000

namespace L2
open PySem PySem.Spec PyProof.Rows

abbrev Key := Sum Int Str
def keyIs : Key → Value → Bool
  | .inl k, v => Value.isInt k v
  | .inr x, v => Value.isStrOf x v
def keyH (w : World) : Key → Int
  | .inl k => hashInt k
  | .inr x => hashStr w x
theorem keyIs_shape : ∀ {k : Key} {v : Value}, keyIs k v = true → (∃ i t, k = Sum.inl i ∧ v = Value.int i t) ∨ (∃ x t, k = Sum.inr x ∧ v = Value.str x t)
  | .inl i, v, h => by
    obtain ⟨t, e⟩ := Value.isInt_shape (k := i) (v := v) h
    exact .inl ⟨i, t, rfl, e⟩
  | .inr x, v, h => by
    obtain ⟨t, e⟩ := Value.isStrOf_shape (x := x) (v := v) h
    exact .inr ⟨x, t, rfl, e⟩
theorem keyIs_int (i : Int) (t : Tok) : keyIs (.inl i) (.int i t) = true := by simp [keyIs, Value.isInt]
theorem keyIs_str (x : Str) (t : Tok) : keyIs (.inr x) (.str x t) = true := by simp [keyIs, Value.isStrOf]
theorem key_ll (a b : Int) : decide ((Sum.inl a : Key) = Sum.inl b) = (a == b) := by
  by_cases e : a = b
  · subst e; simp
  · have h : ¬ (Sum.inl a : Key) = Sum.inl b := fun q => e (Sum.inl.inj q)
    rw [decide_eq_false h]
    exact (beq_eq_false_iff_ne.mpr e).symm
theorem key_rr (a b : Str) : decide ((Sum.inr a : Key) = Sum.inr b) = decide (a = b) := by
  by_cases e : a = b
  · subst e; simp
  · have h : ¬ (Sum.inr a : Key) = Sum.inr b := fun q => e (Sum.inr.inj q)
    rw [decide_eq_false h, decide_eq_false e]
theorem key_lr (a : Int) (b : Str) : decide ((Sum.inl a : Key) = Sum.inr b) = false := decide_eq_false (fun q => nomatch q)
theorem key_rl (a : Str) (b : Int) : decide ((Sum.inr a : Key) = Sum.inl b) = false := decide_eq_false (fun q => nomatch q)

def mixKind (prog : Program) (w : World) : PySem.KeyKind prog w Key where
  is := keyIs
  hash := keyH w
  inj := fun v a b ha hb => by
    rcases keyIs_shape ha with ⟨i, t, rfl, rfl⟩ | ⟨x, t, rfl, rfl⟩
    · rcases keyIs_shape hb with ⟨j, u, rfl, e⟩ | ⟨y, u, rfl, e⟩
      · injection e with e1 _; rw [e1]
      · exact nomatch e
    · rcases keyIs_shape hb with ⟨j, u, rfl, e⟩ | ⟨y, u, rfl, e⟩
      · exact nomatch e
      · injection e with e1 _; rw [e1]
  byValue := fun k v h => by
    rcases keyIs_shape h with ⟨i, t, rfl, rfl⟩ | ⟨x, t, rfl, rfl⟩ <;> rfl
  pyHash := fun hv h => by
    rcases keyIs_shape hv with ⟨i, t, rfl, rfl⟩ | ⟨x, t, rfl, rfl⟩
    · exact wpAny_pyHash_int h
    · exact wpAny_pyHash_str h
  eqBool := fun hu hv h => by
    rcases keyIs_shape hu with ⟨i, t, rfl, rfl⟩ | ⟨x, t, rfl, rfl⟩
    · rcases keyIs_shape hv with ⟨j, u, rfl, rfl⟩ | ⟨y, u, rfl, rfl⟩
      · rw [key_ll] at h; exact wpAny_eqBool_int h
      · rw [key_lr] at h; exact SeqAt.EqAt.int_str i t y u _ _ _ _ h
    · rcases keyIs_shape hv with ⟨j, u, rfl, rfl⟩ | ⟨y, u, rfl, rfl⟩
      · rw [key_rl] at h; exact SeqAt.EqAt.str_int x t j u _ _ _ _ h
      · rw [key_rr] at h; exact wpAny_eqBool_str h
  «strs» := fun k x t v h => by
    rcases keyIs_shape h with ⟨i, u, rfl, e⟩ | ⟨y, u, rfl, e⟩
    · exact nomatch e
    · injection e with e1 _
      subst e1
      cases v <;> rfl

theorem mixKind_int (prog : Program) (w : World) (i : Int) (t : Tok) : (mixKind prog w).is (.inl i) (.int i t) = true := keyIs_int i t
theorem mixKind_str (prog : Program) (w : World) (x : Str) (t : Tok) : (mixKind prog w).is (.inr x) (.str x t) = true := keyIs_str x t
end L2

namespace L2
open PySem PySem.Spec PyProof.Rows

inductive V where
  | non | bl (b : Bool) | int (i : Int) | str (x : Str) | byt (b : Array UInt8) | flt (b : UInt64) | ref (a : Addr) | ty (n : String)
  deriving DecidableEq

def RelV : V → Value → Prop
  | .non, u => u = Value.none
  | .bl b, u => u = Value.bool b
  | .int i, u => ∃ t, u = Value.int i t
  | .str x, u => ∃ t, u = Value.str x t
  | .byt b, u => ∃ t, u = Value.bytes b t
  | .flt b, u => ∃ t, u = Value.float b t
  | .ref a, u => u = Value.ref a
  | .ty n, u => u = Value.type n

abbrev Vals : List V → List Value → Prop := Paired RelV
theorem Vals.length {xs : List V} {us : List Value} (r : Vals xs us) : xs.length = us.length := Paired.length r
theorem Vals.get : ∀ {xs : List V} {us : List Value} {i : Nat} {x : V}, Vals xs us → xs[i]? = some x → ∃ u, us[i]? = some u ∧ RelV x u
  | _, _, _, _, .nil, e => by simp at e
  | _, _, 0, _, .cons r _, e => by simp at e; subst e; exact ⟨_, rfl, r⟩
  | _, _, i + 1, x, .cons _ t, e => by
    obtain ⟨u, h1, h2⟩ := Vals.get (i := i) (x := x) t (by simpa using e)
    exact ⟨u, by simpa using h1, h2⟩
theorem Vals.set {x : V} {u : Value} (r : RelV x u) : ∀ {xs : List V} {us : List Value} (i : Nat), Vals xs us → Vals (xs.set i x) (us.set i u)
  | _, _, _, .nil => .nil
  | _, _, 0, .cons _ t => .cons r t
  | _, _, i + 1, .cons q t => .cons q (Vals.set r i t)
theorem Vals.append : ∀ {xs ys : List V} {us ws : List Value}, Vals xs us → Vals ys ws → Vals (xs ++ ys) (us ++ ws)
  | _, _, _, _, .nil, s => s
  | _, _, _, _, .cons r t, s => .cons r (Vals.append t s)
def RelO : Option V → Option Value → Prop
  | some v, some u => RelV v u
  | none, none => True
  | _, _ => False
def KV {κ : Type} : List (κ × V) → List (κ × Value) → Prop := Paired fun (p : κ × V) (q : κ × Value) => p.1 = q.1 ∧ RelV p.2 q.2

def kV : Key → V
  | .inl i => .int i
  | .inr x => .str x

inductive HO where

  | lst (xs : List V)

  | tup (xs : List V)

  | dK (kvs : List (Key × V)) | dT (kvs : List (List Key × V))

  | set (S : Int → Bool) (n : Nat)

  | ins (C dx : Addr) (fs : List (Str × V))

  | own (x : Addr)

  | xd (fs : List (Str × V))

  | met (f x : Addr)

  | rng (lo hi : Int)

  | frz (o : Obj) (u : HO)

  | tbl (ps : Array Value)

  | ext (φ : Heap → Prop)

abbrev Hp := Addr → Option HO
def upd (H : Hp) (a : Addr) (o : HO) : Hp := fun b => if b = a then some o else H b
theorem upd_same {H : Hp} {a : Addr} {o : HO} : upd H a o a = some o := by unfold upd; rw [if_pos rfl]
theorem upd_ne {H : Hp} {a b : Addr} {o : HO} (h : b ≠ a) : upd H a o b = H b := by unfold upd; rw [if_neg h]
theorem ne_of_none {H : Hp} {a b : Addr} {o : HO} (h : H a = some o) (h' : H b = none) : a ≠ b := by
  intro e; subst e; rw [h] at h'; cases h'

section
variable (P : Program) (w : World)
def ObjOk (H : Hp) (h : Heap) (a : Addr) : HO → Prop
  | .lst xs => xs.length ≤ sizeLine ∧ ∃ (its : List Value) (n : Nat), Vals xs its ∧ h.get? a = some { cls := .type "list", data := .seq its.toArray n }
  | .tup xs => xs.length ≤ sizeLine ∧ ∃ its : List Value, Vals xs its ∧ IsTup h a its.toArray
  | .dK kvs => kvs.length ≤ sizeLine ∧ (a == sysModules) = false ∧ ∃ vs, KV kvs vs ∧ h.DictOf (mixKind P w) a vs
  | .dT kvs => kvs.length ≤ sizeLine ∧ (a == sysModules) = false ∧ ∃ xs : List (List Key × Addr × Value),
      Paired (fun (p : List Key × V) (q : List Key × Addr × Value) => p.1 = q.1 ∧ H q.2.1 = some (.tup (p.1.map kV)) ∧ RelV p.2 q.2.2) kvs xs ∧
      ∃ o es ep, h.get? a = some o ∧ o.ExactDict ∧ o.data = .dict es ep ∧ es.toList = xs.map (entryOfKey (tupleKind (mixKind P w))) ∧ (xs.map (·.1)).Nodup
  | .set S n => h.SetOf (intKind P w) a S n
  | .ins C dx fs => H dx = some (.own a) ∧ fs.length ≤ 1000 ∧ dx ≠ a ∧ h.get? a = some (PySem.W.instObj C dx) ∧
      ∃ mA, h.Ns1 dx mA ∧ (∀ f, RelO (fs.lookup f) (mA f)) ∧ PySem.Within mA (fs.map (·.1))
  | .own _ => ∃ o, h.get? a = some o
  | .xd fs => ∃ mA, h.Ns1 a mA ∧ ∀ f, RelO (fs.lookup f) (mA f)
  | .rng lo hi => ∃ t u v, h.get? a = some { cls := .type "range", data := .fields #[.int lo t, .int hi u, .int 1 v] }
  | .frz o u => h.get? a = some o ∧ ObjOk H h a u
  | .tbl ps => h.get? a = some { cls := .none, data := .fields ps }
  | .met f x => h.get? a = some (PySem.W.methodObj (.ref f) (.ref x))
  | .ext φ => φ h ∧ (∃ o, h.get? a = some o) ∧ ∀ h1 h2 : Heap, φ h1 → (∀ o, h1.get? a = some o → h2.get? a = some o) → φ h2

def HOk (H : Hp) (h : Heap) : Prop := ∀ a o, H a = some o → ObjOk P w H h a o
end

section
variable {P : Program} {w : World} {H H' : Hp} {h h' : Heap} {a : Addr} {o : HO}
theorem ObjOk.lt (x : ObjOk P w H h a o) : a < h.objs.size := by
  cases o with
  | lst xs => obtain ⟨_, _, _, _, e⟩ := x; exact Heap.lt_size e
  | tup xs => obtain ⟨_, _, _, p⟩ := x; exact p.lt
  | dK kvs => obtain ⟨_, _, _, _, o, _, _, e, _⟩ := x; exact Heap.lt_size e
  | dT kvs => obtain ⟨_, _, _, _, o, _, _, e, _⟩ := x; exact Heap.lt_size e
  | set S n => obtain ⟨o, _, _, _, e, _⟩ := x; exact Heap.lt_size e
  | ins C dx fs => obtain ⟨_, _, _, e, _⟩ := x; exact Heap.lt_size e
  | own y => obtain ⟨_, e⟩ := x; exact Heap.lt_size e
  | xd fs => obtain ⟨_, ⟨_, _, _, e, _⟩, _⟩ := x; exact Heap.lt_size e
  | rng lo hi => obtain ⟨_, _, _, e⟩ := x; exact Heap.lt_size e
  | frz ob u => obtain ⟨e, _⟩ := x; exact Heap.lt_size e
  | tbl ps => exact Heap.lt_size (show h.get? a = some _ from x)
  | met f y => exact Heap.lt_size (show h.get? a = some _ from x)
  | ext φ => obtain ⟨_, ⟨_, e⟩, _⟩ := x; exact Heap.lt_size e
theorem Paired.mapP {α β : Type} {F G : α → β → Prop} : ∀ {l₁ : List α} {l₂ : List β}, Paired F l₁ l₂ → (∀ a b, F a b → G a b) → Paired G l₁ l₂
  | _, _, .nil, _ => .nil
  | _, _, .cons r t, f => .cons (f _ _ r) (Paired.mapP t f)
theorem ObjOk.stay (x : ObjOk P w H h a o) (k : ∀ b u, (b = a ∨ H b = some (.own a)) → h.get? b = some u → h'.get? b = some u)
    (ho : ∀ b, H b = some (.own a) → H' b = some (.own a)) (ht : ∀ b xs, H b = some (.tup xs) → H' b = some (.tup xs)) : ObjOk P w H' h' a o := by
  induction o with
  | lst xs => obtain ⟨z, its, n, r, e⟩ := x; exact ⟨z, its, n, r, k _ _ (.inl rfl) e⟩
  | tup xs => obtain ⟨z, its, r, ob, e, c⟩ := x; exact ⟨z, its, r, ob, k _ _ (.inl rfl) e, c⟩
  | dK kvs => obtain ⟨z, y, vs, r, ob, es, ep, e, c⟩ := x; exact ⟨z, y, vs, r, ob, es, ep, k _ _ (.inl rfl) e, c⟩
  | dT kvs =>
    obtain ⟨z, y, xs, r, ob, es, ep, e, c⟩ := x
    exact ⟨z, y, xs, Paired.mapP r fun p q z => ⟨z.1, ht _ _ z.2.1, z.2.2⟩, ob, es, ep, k _ _ (.inl rfl) e, c⟩
  | set S n => obtain ⟨ob, es, ep, t, e, c⟩ := x; exact ⟨ob, es, ep, t, k _ _ (.inl rfl) e, c⟩
  | ins C dx fs =>
    obtain ⟨d, z, ne, e, mA, ⟨od, es, ep, e2, c⟩, r⟩ := x
    exact ⟨ho _ d, z, ne, k _ _ (.inl rfl) e, mA, ⟨od, es, ep, k _ _ (.inr d) e2, c⟩, r⟩
  | own y => obtain ⟨ob, e⟩ := x; exact ⟨ob, k _ _ (.inl rfl) e⟩
  | xd fs => obtain ⟨mA, ⟨od, es, ep, e, c⟩, r⟩ := x; exact ⟨mA, ⟨od, es, ep, k _ _ (.inl rfl) e, c⟩, r⟩
  | rng lo hi => obtain ⟨t, u, v, e⟩ := x; exact ⟨t, u, v, k _ _ (.inl rfl) e⟩
  | frz ob u ih => obtain ⟨e, q⟩ := x; exact ⟨k _ _ (.inl rfl) e, ih q⟩
  | tbl ps =>
    have e : h.get? a = some { cls := .none, data := .fields ps } := x
    show h'.get? a = some { cls := .none, data := .fields ps }
    exact k a _ (.inl rfl) e
  | met f y =>
    have e : h.get? a = some (PySem.W.methodObj (.ref f) (.ref y)) := x
    show h'.get? a = some (PySem.W.methodObj (.ref f) (.ref y))
    exact k a _ (.inl rfl) e
  | ext φ => obtain ⟨p, ⟨o, e⟩, st⟩ := x; exact ⟨st _ _ p fun o q => k _ _ (.inl rfl) q, ⟨o, k _ _ (.inl rfl) e⟩, st⟩
theorem HOk.lt (x : HOk P w H h) (e : H a = some o) : a < h.objs.size := (x a o e).lt
theorem HOk.fresh (x : HOk P w H h) (e : h.objs.size ≤ a) : H a = none := by
  cases q : H a with
  | none => rfl
  | some u => exact absurd (Nat.lt_of_lt_of_le (x.lt q) e) (Nat.lt_irrefl _)

theorem HOk.kept (x : HOk P w H h) (k : ∀ b u, h.get? b = some u → h'.get? b = some u) : HOk P w H h' := fun a o e =>
  (x a o e).stay (fun b u _ q => k b u q) (fun _ q => q) fun _ _ q => q

theorem HOk.laid (x : HOk P w H h) (k : ∀ b u, h.get? b = some u → h'.get? b = some u) (hp : h.objs.size ≤ a) (new : ObjOk P w (upd H a o) h' a o) : HOk P w (upd H a o) h' := fun b u e => by
  have hn := x.fresh hp
  by_cases hb : b = a
  · subst hb; rw [upd_same] at e; cases e; exact new
  · rw [upd_ne hb] at e
    exact (x b u e).stay (fun c v _ q => k c v q) (fun c q => by rw [upd_ne (ne_of_none q hn)]; exact q) fun c xs q => by rw [upd_ne (ne_of_none q hn)]; exact q
end

def Rd (H : Hp) (a : Addr) (u : HO) : Prop := H a = some u ∨ ∃ o, H a = some (.frz o u)
theorem Rd.ok {P : Program} {w : World} {H : Hp} {h : Heap} {a : Addr} {u : HO} (r : Rd H a u) (x : HOk P w H h) : ObjOk P w H h a u := by
  rcases r with r | ⟨o, r⟩
  · exact x a u r
  · obtain ⟨_, q⟩ := x a _ r
    exact q

def Mut : Option HO → Prop
  | some (.lst _) => True
  | some (.dK _) => True
  | some (.dT _) => True
  | some (.set _ _) => True
  | some (.ins _ _ _) => True
  | some (.ext _) => True
  | _ => False
section
variable {P : Program} {w : World} {H : Hp} {h h' : Heap} {x e : Addr} {o' : HO}

theorem HOk.write (ok : HOk P w H h) (mu : Mut (H x)) (he : e = x ∨ H e = some (.own x)) (k : ∀ b u, b ≠ e → h.get? b = some u → h'.get? b = some u) (heo : ∃ u, h'.get? e = some u)
    (new : ObjOk P w (upd H x o') h' x o') : HOk P w (upd H x o') h' := fun b u q => by
  have nown : ∀ c y, H c = some (.own y) → c ≠ x := fun c y r z => by subst z; rw [r] at mu; exact mu
  have ntup : ∀ c xs, H c = some (.tup xs) → c ≠ x := fun c xs r z => by subst z; rw [r] at mu; exact mu
  by_cases hb : b = x
  · subst hb; rw [upd_same] at q; cases q; exact new
  · rw [upd_ne hb] at q
    by_cases hbe : b = e
    · have q' : H b = some (.own x) := by
        rcases he with z | z
        · exact absurd (hbe.trans z) hb
        · rw [hbe]; exact z
      rw [q] at q'; cases q'
      obtain ⟨v, hv⟩ := heo
      exact ⟨v, by rw [hbe]; exact hv⟩
    · refine (ok b u q).stay (fun c v hc r => k c v ?_ r) (fun c r => by rw [upd_ne (nown c b r)]; exact r) fun c xs r => by rw [upd_ne (ntup c xs r)]; exact r
      rcases hc with rfl | hc
      · exact hbe
      · rintro rfl
        rcases he with z | z
        · exact nown c b hc z
        · rw [hc] at z; cases z; exact hb rfl
end

structure Un (fs ex : List Addr) (H H' : Hp) (h h' : Heap) : Prop where
  keep : ∀ b o, h.get? b = some o → H b = none → b ∉ fs → b ∉ ex → h'.get? b = some o
  slot : ∀ b o, h.get? b = some o → H b = none → b ∈ fs → b ∉ ex → ∃ sl, h'.get? b = some { o with slots := sl }
  free : ∀ b o, h.get? b = some o → H b = none → b ∉ ex → H' b = none
  there : ∀ b o, h.get? b = some o → b ∉ ex → ∃ o', h'.get? b = some o'
  tups : ∀ b xs, H b = some (.tup xs) → H' b = some (.tup xs)
  frzs : ∀ b o u, H b = some (.frz o u) → H' b = some (.frz o u)
  tbls : ∀ b ps, H b = some (.tbl ps) → ∃ more, H' b = some (.tbl (ps ++ more))
section
variable {fs fs' ex ex' : List Addr} {H H1 H2 : Hp} {h h1 h2 h' : Heap} {a x e : Addr} {o : HO}
theorem Un.any (u : Un fs ex H H1 h h1) {b : Addr} {ob : Obj} (q : h.get? b = some ob) (n : H b = none) (hx : b ∉ ex) : ∃ sl, h1.get? b = some { ob with slots := sl } := by
  by_cases hb : b ∈ fs
  · exact u.slot b ob q n hb hx
  · exact ⟨ob.slots, u.keep b ob q n hb hx⟩
theorem Un.kept (k : ∀ b u, h.get? b = some u → h'.get? b = some u) : Un fs ex H H h h' :=
  ⟨fun b ob q _ _ _ => k b ob q, fun b ob q _ _ _ => ⟨ob.slots, k b ob q⟩, fun _ _ _ n _ => n, fun b ob q _ => ⟨ob, k b ob q⟩, fun _ _ q => q, fun _ _ _ q => q, fun _ ps q => ⟨#[], by rw [q]; simp⟩⟩
theorem Un.refl : Un fs ex H H h h := Un.kept fun _ _ q => q
theorem Un.laid (k : ∀ b u, h.get? b = some u → h'.get? b = some u) (hp : h.objs.size ≤ a) (hn : H a = none) : Un fs ex H (upd H a o) h h' where
  keep := fun b u q _ _ _ => k b u q
  slot := fun b u q _ _ _ => ⟨u.slots, k b u q⟩
  free := fun b u q n _ => by rw [upd_ne (Nat.ne_of_lt (Nat.lt_of_lt_of_le (Heap.lt_size q) hp))]; exact n
  there := fun b u q _ => ⟨u, k b u q⟩
  tups := fun b xs q => by rw [upd_ne (ne_of_none q hn)]; exact q
  frzs := fun b u xs q => by rw [upd_ne (ne_of_none q hn)]; exact q
  tbls := fun b ps q => ⟨#[], by rw [upd_ne (ne_of_none q hn), q]; simp⟩
theorem Un.write (mu : Mut (H x)) (he : e = x ∨ H e = some (.own x)) (k : ∀ b u, b ≠ e → h.get? b = some u → h'.get? b = some u) (heo : ∃ u, h'.get? e = some u) : Un fs ex H (upd H x o) h h' := by
  have hx : ∀ b, H b = none → b ≠ x := fun b n z => by subst z; rw [n] at mu; exact mu
  have hb : ∀ b, H b = none → b ≠ e := fun b n z => by
    subst z
    rcases he with r | r
    · exact hx b n r
    · rw [n] at r; cases r
  have hm : ∀ b u, H b = some u → ¬ Mut (some u) → b ≠ x := fun b u q nm z => by subst z; rw [q] at mu; exact nm mu
  refine ⟨fun b u q n _ _ => k b u (hb b n) q, fun b u q n _ _ => ⟨u.slots, k b u (hb b n) q⟩, fun b u q n _ => by rw [upd_ne (hx b n)]; exact n, fun b u q _ => ?_,
    fun b xs q => by rw [upd_ne (hm b _ q fun z => z)]; exact q, fun b u xs q => by rw [upd_ne (hm b _ q fun z => z)]; exact q, fun b ps q => ⟨#[], by rw [upd_ne (hm b _ q fun z => z), q]; simp⟩⟩
  by_cases hbe : b = e
  · subst hbe; exact heo
  · exact ⟨u, k b u hbe q⟩
end

def trk (h : Heap) (H : Hp) : List Addr := (List.range h.objs.size).filter fun a => (H a).isSome
def hidT (h : Heap) (H : Hp) : Heap := PySem.W.hideAll h (trk h H)
theorem hidT_size (h : Heap) (H : Hp) : (hidT h H).objs.size = h.objs.size := PySem.W.hideAll_size _ _
theorem hidT_get {h : Heap} {H : Hp} {b : Addr} {o : Obj} (e : h.get? b = some o) (n : H b = none) : (hidT h H).get? b = some o :=
  PySem.W.hideAll_get _ e fun hm => by
    have q : (H b).isSome = true := (List.mem_filter.mp hm).2
    rw [n] at q; simp at q
theorem of_hidT {h : Heap} {H : Hp} {b : Addr} {o : Obj} (e : (hidT h H).get? b = some o) : h.get? b = some o ∧ H b = none := by
  have e' : h.get? b = some o := PySem.W.of_hideAll (trk h H) e
  refine ⟨e', ?_⟩
  cases q : H b with
  | none => rfl
  | some x =>
    have hm : b ∈ trk h H := List.mem_filter.mpr ⟨List.mem_range.mpr (Heap.lt_size e'), by simp [q]⟩
    have z : (hidT h H).get? b = none := PySem.W.hideAll_none (trk h H) hm
    rw [z] at e; cases e

def allNews (g h : Heap) (L : Addr) : List (Addr × Obj) := (List.range h.objs.size).filterMap fun a => if a = L ∨ (g.get? a).isSome = true then none else (h.get? a).map fun o => (a, o)
def rest (g h : Heap) (L d : Addr) : List (Addr × Obj) := (allNews g h L).filter fun p => decide (p.1 ≠ d)
end L2

namespace L2
open PySem PySem.Spec PyProof.Rows

structure Mod (K : PySem.W.Frag) (mg : Str → Option Value) (base : Heap) : Prop where
  kin : K.In base
  glob : base.Ns mainGlobals mg
  blt : ∃ mb, base.Ns builtinsNs mb ∧ ∀ x : Str, x ≠ "__name__" → mb x = bootBuiltins x
  nolimit : base.NoLimit

structure Cx where
  prog : Program
  w : World
  K : PySem.W.Frag
  mg : Str → Option Value
  base : Heap
  A : Around
  N : List Str
  s₀ : Shared
  H₀ : Hp
  env : Env
  outer : List Env
  stack : List Env
  ex : List Addr
  fn : Str → Bool
  calm : Bool
  pn : List (Addr × Obj)
  xe : Value → Shared → Prop

def frs (l : List Env) : List Addr := l.filterMap (·.frame)
abbrev Cx.fs (X : Cx) : List Addr := frs X.outer

def Vis (sc : Scope) (x : Str) : Prop := sc.names.lookup x = some .local ∨ sc.names.lookup x = some .cell ∨ sc.names.lookup x = some .free
def Loc (sc : Scope) (x : Str) : Prop := sc.names.lookup x = some .local ∨ sc.names.lookup x = some .cell
def Look (env : Env) (h : Heap) (m : Str → Option Value) (x : Str) (u : Value) : Prop :=
  (env.kindOf x = some .local ∧ m x = some u) ∨ ((env.kindOf x = some .cell ∨ env.kindOf x = some .free) ∧ ∃ c, env.cells.lookup x = some c ∧ h.IsCell c (some u))

structure Cx.Ok (X : Cx) : Prop where
  mod : Mod X.K X.mg X.base
  kind : X.env.scope.kind = .function
  glob : X.env.globals = mainGlobals
  blt : X.env.builtins = builtinsNs
  above : X.s₀.heap.objs.size ≤ X.env.locals
  inj : ∀ x y c, X.env.cells.lookup x = some c → X.env.cells.lookup y = some c → x = y
  has : ∀ x, (X.env.kindOf x = some .cell ∨ X.env.kindOf x = some .free) → ∃ c, X.env.cells.lookup x = some c
  cab : ∀ x c, X.fn x = true → X.env.cells.lookup x = some c → X.s₀.heap.objs.size ≤ c
  hd : X.calm = true → X.A.handled = none
  frames : X.A.frames = some X.stack
  stk : X.stack = X.outer ∨ (X.stack = X.env :: X.outer ∧ X.env.frame = some X.env.locals)
  exf : ∀ b ∈ X.ex, b ≠ X.env.locals ∧ ∀ x c, X.env.cells.lookup x = some c → c ≠ b
  bs : ∀ b o, X.base.get? b = some o → X.s₀.heap.get? b = some o ∧ X.H₀ b = none
  bsz : X.base.objs.size ≤ X.s₀.heap.objs.size
  noex : ∀ b o, X.base.get? b = some o → b ∉ X.ex
  exfs : ∀ b ∈ X.ex, b ∉ X.fs
  funs : X.s₀.heap.FunFrames X.base X.outer
  frf : ∀ b ∈ X.fs, X.H₀ b = none

structure Inv (X : Cx) (pins : List (Addr × Obj)) (σ : List (Option V)) (H : Hp) (s : Shared) : Prop where
  ok : X.Ok
  os : s.os = X.s₀.os
  bare : AllBare s.gens
  base : Un X.fs X.ex X.H₀ H X.s₀.heap s.heap
  loc : ∃ m, s.heap.Ns X.env.locals m ∧ ∀ (i : Nat) (x : Str) (v : V), X.N[i]? = some x → σ[i]? = some (some v) → Vis X.env.scope x → ∃ u, RelV v u ∧ Look X.env s.heap m x u
  cell : ∀ x c, X.env.cells.lookup x = some c → ∃ v, s.heap.IsCell c v
  free : H X.env.locals = none
  freeC : ∀ x c, X.env.cells.lookup x = some c → H c = none
  pin : ∀ p ∈ X.pn ++ pins, s.heap.get? p.1 = some p.2 ∧ H p.1 = none ∧ p.1 ≠ X.env.locals ∧ p.1 ∉ X.fs ∧ ∀ v, p.2.data ≠ .cell v
  hok : HOk X.prog X.w H s.heap
  len : σ.length = X.N.length

section
variable {X : Cx} {pins : List (Addr × Obj)} {σ : List (Option V)} {H H' : Hp} {s : Shared} {h' : Heap}

theorem Cx.Ok.nofr (ok : X.Ok) {b : Addr} {o : Obj} (e : X.base.get? b = some o) : b ∉ X.fs := fun hb => by
  have := (ok.funs.mem hb).1
  rw [e] at this; cases this
theorem Inv.bs (I : Inv X pins σ H s) : ∀ b o, X.base.get? b = some o → s.heap.get? b = some o ∧ H b = none := fun b o e =>
  ⟨I.base.keep b o (I.ok.bs b o e).1 (I.ok.bs b o e).2 (I.ok.nofr e) (I.ok.noex b o e), I.base.free b o (I.ok.bs b o e).1 (I.ok.bs b o e).2 (I.ok.noex b o e)⟩
theorem Inv.bk (I : Inv X pins σ H s) : ∀ b o, X.base.get? b = some o → s.heap.get? b = some o := fun b o e => (I.bs b o e).1
theorem Inv.mod (I : Inv X pins σ H s) : Mod X.K X.mg X.base := I.ok.mod
theorem Inv.kIn (I : Inv X pins σ H s) : X.K.In s.heap := I.ok.mod.kin.keeps I.bk
theorem Inv.lt (I : Inv X pins σ H s) : X.env.locals < s.heap.objs.size := let ⟨_, hn, _⟩ := I.loc; hn.lt
theorem Inv.sz (I : Inv X pins σ H s) : X.s₀.heap.objs.size ≤ s.heap.objs.size := Nat.le_trans I.ok.above (Nat.le_of_lt I.lt)
theorem Inv.nofs (I : Inv X pins σ H s) {a : Addr} (h : s.heap.objs.size ≤ a) : a ∉ X.fs := fun hb => by
  obtain ⟨_, o, ho, _⟩ := I.ok.funs.mem hb
  exact absurd (Nat.lt_of_lt_of_le (Heap.lt_size ho) (Nat.le_trans I.sz h)) (Nat.lt_irrefl _)
theorem Inv.cne (I : Inv X pins σ H s) : ∀ x c, X.env.cells.lookup x = some c → c ≠ X.env.locals := fun x c e z => by
  obtain ⟨v, o, ho, hd⟩ := I.cell x c e
  obtain ⟨m, ⟨o', es, ep, ho', hd', _⟩, _⟩ := I.loc
  rw [z, ho'] at ho; cases ho; rw [hd'] at hd; cases hd
theorem Inv.funs (I : Inv X pins σ H s) : s.heap.FunFrames X.base X.outer := by
  have all : ∀ (l : List Env), (∀ b ∈ frs l, b ∈ X.fs) → X.s₀.heap.FunFrames X.base l → s.heap.FunFrames X.base l := by
    intro l
    induction l with
    | nil => intro _ _; trivial
    | cons env r ih =>
      intro hs hl
      obtain ⟨hk, ⟨L, o, hf, hn, ho, hd⟩, hr⟩ := hl
      have hL : L ∈ X.fs := hs L (by unfold frs; rw [List.filterMap_cons, hf]; exact List.mem_cons_self)
      obtain ⟨sl, e⟩ := I.base.slot L o ho (I.ok.frf L hL) hL fun z => I.ok.exfs L z hL
      exact ⟨hk, ⟨L, _, hf, hn, e, hd⟩, ih (fun b hb => hs b (by unfold frs; rw [List.filterMap_cons, hf]; exact List.mem_cons_of_mem _ hb)) hr⟩
  exact all X.outer (fun _ hb => hb) I.ok.funs

theorem Inv.stack (I : Inv X pins σ H s) : s.heap.FunFrames X.base X.stack := by
  rcases I.ok.stk with e | ⟨e, hf⟩
  · rw [e]; exact I.funs
  · rw [e]
    obtain ⟨m, hn, _⟩ := I.loc
    refine .cons (by rw [I.ok.kind]; decide) hf hn ?_ I.funs
    exact Heap.get?_none_of_le (Nat.le_trans I.ok.bsz I.ok.above)
theorem Inv.stkSub (I : Inv X pins σ H s) : ∀ b ∈ frs X.stack, b ∈ X.env.locals :: X.fs := fun b hb => by
  rcases I.ok.stk with e | ⟨e, hf⟩
  · rw [e] at hb; exact List.mem_cons_of_mem _ hb
  · rw [e] at hb
    unfold frs at hb
    rw [List.filterMap_cons, hf] at hb
    exact hb
theorem Inv.stkFree (I : Inv X pins σ H s) : ∀ b ∈ frs X.stack, H b = none := fun b hb => by
  rcases List.mem_cons.mp (I.stkSub b hb) with e | hb
  · rw [e]; exact I.free
  · obtain ⟨_, o, ho, _⟩ := I.ok.funs.mem hb
    exact I.base.free b o ho (I.ok.frf b hb) fun z => I.ok.exfs b z hb

theorem Inv.step {g' : Array GenState} {t' : Nat} {d' : Drawn} {ch : List Addr} (I : Inv X pins σ H s)
    (hch : ∀ b ∈ ch, (b ∈ X.ex ∨ X.s₀.heap.objs.size ≤ b) ∧ b ≠ X.env.locals ∧ (∀ x c, X.env.cells.lookup x = some c → c ≠ b) ∧ ∀ p ∈ X.pn ++ pins, p.1 ≠ b)
    (keep : ∀ b o, b ≠ X.env.locals → b ∉ X.fs → b ∉ ch → s.heap.get? b = some o → H b = none → h'.get? b = some o)
    (slot : ∀ b o, b ≠ X.env.locals → b ∈ X.fs → b ∉ ch → s.heap.get? b = some o → H b = none → ∃ sl, h'.get? b = some { o with slots := sl }) (free : ∀ b o, b ∉ ch → s.heap.get? b = some o → H b = none → H' b = none)
    (there : ∀ b o, b ∉ ch → s.heap.get? b = some o → ∃ o', h'.get? b = some o')
    (tups : ∀ b xs, H b = some (.tup xs) → H' b = some (.tup xs)) (frzs : ∀ b o u, H b = some (.frz o u) → H' b = some (.frz o u)) (tbls : ∀ b ps, H b = some (.tbl ps) → ∃ more, H' b = some (.tbl (ps ++ more)))
    (ns : ∀ m, s.heap.Ns X.env.locals m → h'.Ns X.env.locals m) (hok : HOk X.prog X.w H' h') (hg : AllBare g') :
    Inv X pins σ H' { s with heap := h', gens := g', drawn := d', toks := t' } := by
  have neL : ∀ b o, X.s₀.heap.get? b = some o → b ≠ X.env.locals := fun b o e => Nat.ne_of_lt (Nat.lt_of_lt_of_le (Heap.lt_size e) I.ok.above)
  have neC : ∀ b o, X.s₀.heap.get? b = some o → b ∉ X.ex → b ∉ ch := fun b o e hx hb => by
    rcases (hch b hb).1 with z | z
    · exact hx z
    · exact absurd (Nat.lt_of_lt_of_le (Heap.lt_size e) z) (Nat.lt_irrefl _)
  have cellK : ∀ x c, X.env.cells.lookup x = some c → ∀ v, s.heap.IsCell c v → h'.IsCell c v := fun x c e v ⟨o, ho, hd⟩ => by
    have nch : c ∉ ch := fun z => (hch c z).2.2.1 x c e rfl
    by_cases hc : c ∈ X.fs
    · obtain ⟨sl, q⟩ := slot c o (I.cne x c e) hc nch ho (I.freeC x c e)
      exact ⟨_, q, hd⟩
    · exact ⟨o, keep c o (I.cne x c e) hc nch ho (I.freeC x c e), hd⟩
  refine ⟨I.ok, I.os, hg, ⟨fun b o e n hb hx => ?_, fun b o e n hb hx => ?_, fun b o e n hx => ?_, fun b o e hx => ?_, fun b xs e => tups b xs (I.base.tups b xs e), fun b o xs e => frzs b o xs (I.base.frzs b o xs e), fun b ps e => ?_⟩, ?_, fun x c e => ?_, ?_, fun x c e => ?_, fun p hp => ?_, hok, I.len⟩
  · exact keep b o (neL b o e) hb (neC b o e hx) (I.base.keep b o e n hb hx) (I.base.free b o e n hx)
  · obtain ⟨sl, e1⟩ := I.base.slot b o e n hb hx
    obtain ⟨sl', e2⟩ := slot b _ (neL b o e) hb (neC b o e hx) e1 (I.base.free b o e n hx)
    exact ⟨sl', e2⟩
  · obtain ⟨o', e1⟩ := I.base.there b o e hx
    exact free b o' (neC b o e hx) e1 (I.base.free b o e n hx)
  · obtain ⟨o', e1⟩ := I.base.there b o e hx
    exact there b o' (neC b o e hx) e1
  · obtain ⟨m1, e1⟩ := I.base.tbls b ps e
    obtain ⟨m2, e2⟩ := tbls b _ e1
    exact ⟨m1 ++ m2, by rw [e2, Array.append_assoc]⟩
  · obtain ⟨m, hn, hl⟩ := I.loc
    refine ⟨m, ns m hn, fun i x v e1 e2 e3 => ?_⟩
    obtain ⟨u, r, l⟩ := hl i x v e1 e2 e3
    refine ⟨u, r, ?_⟩
    rcases l with l | ⟨k, c, e, z⟩
    · exact .inl l
    · exact .inr ⟨k, c, e, cellK x c e _ z⟩
  · obtain ⟨v, z⟩ := I.cell x c e
    exact ⟨v, cellK x c e v z⟩
  · obtain ⟨m, ⟨o, _, _, ho, _⟩, _⟩ := I.loc
    exact free _ o (fun z => (hch _ z).2.1 rfl) ho I.free
  · obtain ⟨v, o, ho, hd⟩ := I.cell x c e
    exact free c o (fun z => (hch c z).2.2.1 x c e rfl) ho (I.freeC x c e)
  · obtain ⟨e, n, ne, nf, d⟩ := I.pin p hp
    have nch : p.1 ∉ ch := fun z => (hch p.1 z).2.2.2 p hp rfl
    exact ⟨keep p.1 p.2 ne nf nch e n, free p.1 p.2 nch e n, ne, nf, d⟩

theorem Inv.un {t' : Nat} (I : Inv X pins σ H s) (u : Un X.fs [] H H' s.heap h') (hok : HOk X.prog X.w H' h') : Inv X pins σ H' { s with heap := h', toks := t' } := by
  obtain ⟨m, ⟨o, es, ep, ho, r⟩, _⟩ := id I.loc
  obtain ⟨sl, hL⟩ := u.any ho I.free (by simp)
  exact I.step (g' := s.gens) (d' := s.drawn) (ch := []) (fun _ z => nomatch z) (fun b o _ hb _ e n => u.keep b o e n hb (by simp)) (fun b o _ hb _ e n => u.slot b o e n hb (by simp)) (fun b o _ e n => u.free b o e n (by simp)) (fun b o _ e => u.there b o e (by simp)) u.tups u.frzs u.tbls (fun m' hm => by
    obtain ⟨o', es', ep', ho', r'⟩ := hm
    rw [ho] at ho'; cases ho'
    exact ⟨_, es', ep', hL, r'⟩) hok I.bare

theorem Inv.call {g' : Array GenState} {t' : Nat} {d' : Drawn} {ch : List Addr} (I : Inv X pins σ H s) (u : Un (frs X.stack) ch H H' s.heap h') (hok : HOk X.prog X.w H' h') (hg : AllBare g')
    (hch : ∀ b ∈ ch, (b ∈ X.ex ∨ X.s₀.heap.objs.size ≤ b) ∧ b ≠ X.env.locals ∧ (∀ x c, X.env.cells.lookup x = some c → c ≠ b) ∧ ∀ p ∈ X.pn ++ pins, p.1 ≠ b) :
    Inv X pins σ H' { s with heap := h', gens := g', drawn := d', toks := t' } := by
  obtain ⟨m, ⟨o, es, ep, ho, r⟩, _⟩ := id I.loc
  obtain ⟨sl, hL⟩ := u.any ho I.free fun z => (hch _ z).2.1 rfl
  exact I.step (ch := ch) hch (fun b o hL hb hc e n => u.keep b o e n (fun z => (List.mem_cons.mp (I.stkSub b z)).elim hL hb) hc) (fun b o _ _ hc e n => u.any e n hc) (fun b o hc e n => u.free b o e n hc) (fun b o hc e => u.there b o e hc) u.tups u.frzs u.tbls (fun m' hm => by
    obtain ⟨o', es', ep', ho', r'⟩ := hm
    rw [ho] at ho'; cases ho'
    exact ⟨_, es', ep', hL, r'⟩) hok hg

theorem Inv.turned {t' : Nat} {it : Addr} (I : Inv X pins σ H s) (k : ∀ b o, b ≠ it → s.heap.get? b = some o → h'.get? b = some o) (hn : H it = none) (hL : it ≠ X.env.locals)
    (h1 : it ∈ X.ex ∨ X.s₀.heap.objs.size ≤ it) (h2 : ∀ x c, X.env.cells.lookup x = some c → c ≠ it) (h3 : ∀ p ∈ X.pn ++ pins, p.1 ≠ it) : Inv X pins σ H { s with heap := h', toks := t' } := by
  have nit : ∀ b u, H b = some u → b ≠ it := fun b u e z => by rw [z, hn] at e; cases e
  refine I.step (g' := s.gens) (d' := s.drawn) (ch := [it]) (fun b hb => ?_) (fun b o _ _ hc e _ => k b o (fun z => hc (by simp [z])) e) (fun b o _ _ hc e _ => ⟨o.slots, k b o (fun z => hc (by simp [z])) e⟩) (fun _ _ _ _ n => n)
    (fun b o hc e => ⟨o, k b o (fun z => hc (by simp [z])) e⟩) (fun _ _ e => e) (fun _ _ _ e => e) (fun b ps e => ⟨#[], by rw [e]; simp⟩) (fun m hm => ?_) (fun b u e => ?_) I.bare
  · have e : b = it := by simpa using hb
    subst e
    exact ⟨h1, hL, h2, h3⟩
  · obtain ⟨o, es, ep, ho, r⟩ := hm
    exact ⟨o, es, ep, k _ o (Ne.symm hL) ho, r⟩
  · refine (I.hok b u e).stay (fun c v hc q => k c v ?_ q) (fun _ q => q) fun _ _ q => q
    rcases hc with z | z
    · rw [z]; exact nit b u e
    · exact nit c _ z
theorem Inv.tok (I : Inv X pins σ H s) (t : Nat) : Inv X pins σ H { s with toks := t } := I.un (h' := s.heap) (t' := t) Un.refl I.hok

theorem Inv.kept {t' : Nat} (I : Inv X pins σ H s) (k : ∀ b u, s.heap.get? b = some u → h'.get? b = some u) : Inv X pins σ H { s with heap := h', toks := t' } := I.un (Un.kept k) (I.hok.kept k)

theorem Inv.laid {a : Addr} {o : HO} {t' : Nat} (I : Inv X pins σ H s) (k : ∀ b u, s.heap.get? b = some u → h'.get? b = some u) (hp : s.heap.objs.size ≤ a) (new : ObjOk X.prog X.w (upd H a o) h' a o) :
    Inv X pins σ (upd H a o) { s with heap := h', toks := t' } := I.un (Un.laid k hp (I.hok.fresh hp)) (I.hok.laid k hp new)

theorem Inv.write {x e : Addr} {o : HO} {t' : Nat} (I : Inv X pins σ H s) (mu : Mut (H x)) (he : e = x ∨ H e = some (.own x)) (k : ∀ b u, b ≠ e → s.heap.get? b = some u → h'.get? b = some u) (heo : ∃ u, h'.get? e = some u)
    (new : ObjOk X.prog X.w (upd H x o) h' x o) : Inv X pins σ (upd H x o) { s with heap := h', toks := t' } := I.un (Un.write mu he k heo) (I.hok.write mu he k heo new)

theorem Inv.pins_of {pins' : List (Addr × Obj)} (I : Inv X pins σ H s) (h : ∀ p ∈ pins', s.heap.get? p.1 = some p.2 ∧ H p.1 = none ∧ p.1 ≠ X.env.locals ∧ p.1 ∉ X.fs ∧ ∀ v, p.2.data ≠ .cell v) : Inv X pins' σ H s :=
  ⟨I.ok, I.os, I.bare, I.base, I.loc, I.cell, I.free, I.freeC, fun p hp => (List.mem_append.mp hp).elim (fun z => I.pin p (List.mem_append_left _ z)) (h p), I.hok, I.len⟩

theorem nodup_ix {N : List Str} (hN : N.Nodup) {i j : Nat} {x : Str} (a : N[i]? = some x) (b : N[j]? = some x) : i = j := by
  obtain ⟨h1, e1⟩ := List.getElem?_eq_some_iff.mp a
  obtain ⟨h2, e2⟩ := List.getElem?_eq_some_iff.mp b
  exact (List.getElem_inj hN).mp (e1.trans e2.symm)

theorem store_ok2 {M : Model} {A : Around} {E : Value → Shared → Prop} {i : Nat} {x : Str} {v : V} {u : Value} {Q : Unit → Shared → Prop} (I : Inv X pins σ H s) (hN : X.N.Nodup) (hi : X.N[i]? = some x) (hx : Loc X.env.scope x) (r : RelV v u)
    (h : ∀ s', Inv X pins (σ.set i (some v)) H s' → (∃ a, Heap.SameBut a s.heap s'.heap ∧ (a = X.env.locals ∨ X.env.cells.lookup x = some a)) → Q () s') (hf : X.fn x = true ∨ X.env.scope.names.lookup x = some .local := by first | exact .inl rfl | exact .inr rfl | assumption) : wpAny M A (storeName X.env x u) Q E s := by
  obtain ⟨m, hn, hl⟩ := id I.loc
  have hcls : (X.env.scope.kind == .class || (X.env.scope.kind == .module && X.env.locals != X.env.globals)) = false := by rw [I.ok.kind]; rfl
  have hiσ : i < σ.length := by rw [I.len]; exact (List.getElem?_eq_some_iff.mp hi).1
  have cne := I.cne
  have tracked : ∀ {a : Addr} {h' : Heap}, (∃ o, s.heap.get? a = some o ∧ H a = none) → Heap.SameBut a s.heap h' → HOk X.prog X.w H h' := fun {a h'} ha hs b ob e => by
    obtain ⟨_, _, hfree⟩ := ha
    refine (I.hok b ob e).stay (fun c w' hc q => (hs.2 c ?_).trans q) (fun _ q => q) fun _ _ q => q
    rintro rfl
    rcases hc with rfl | hc
    · rw [hfree] at e; cases e
    · rw [hfree] at hc; cases hc
  rcases hx with hk | hk
  · refine wpAny_storeName_local hk hn (fun h' hn' hs => ?_) hcls
    obtain ⟨oL, _, _, hoL, _⟩ := id hn
    refine h _ ⟨I.ok, I.os, I.bare, ⟨fun b o e n hb hx => ?_, fun b o e n hb hx => ?_, I.base.free, fun b o e hx => ?_, I.base.tups, I.base.frzs, I.base.tbls⟩, ⟨_, hn', fun j y v' e1 e2 e3 => ?_⟩, fun y c e => ?_, I.free, I.freeC, fun p hp => ?_, tracked ⟨oL, hoL, I.free⟩ hs, by simpa using I.len⟩ ⟨_, hs, .inl rfl⟩
    · exact (hs.2 b (Nat.ne_of_lt (Nat.lt_of_lt_of_le (Heap.lt_size e) I.ok.above))).trans (I.base.keep b o e n hb hx)
    · obtain ⟨sl, e1⟩ := I.base.slot b o e n hb hx
      exact ⟨sl, (hs.2 b (Nat.ne_of_lt (Nat.lt_of_lt_of_le (Heap.lt_size e) I.ok.above))).trans e1⟩
    · obtain ⟨o', e1⟩ := I.base.there b o e hx
      exact ⟨o', (hs.2 b (Nat.ne_of_lt (Nat.lt_of_lt_of_le (Heap.lt_size e) I.ok.above))).trans e1⟩
    · by_cases hj : j = i
      · subst hj
        rw [hi] at e1; cases e1
        rw [List.getElem?_set_self hiσ] at e2
        cases e2
        exact ⟨u, r, .inl ⟨hk, by simp⟩⟩
      · rw [List.getElem?_set_ne (Ne.symm hj)] at e2
        obtain ⟨u', r', q⟩ := hl j y v' e1 e2 e3
        refine ⟨u', r', ?_⟩
        rcases q with ⟨k, e⟩ | ⟨k, c, e, z⟩
        · refine .inl ⟨k, ?_⟩
          have : y ≠ x := fun e => hj (nodup_ix hN e1 (e ▸ hi))
          simp [this, e]
        · exact .inr ⟨k, c, e, z.sameBut hs (cne y c e)⟩
    · obtain ⟨w', z⟩ := I.cell y c e
      exact ⟨w', z.sameBut hs (cne y c e)⟩
    · obtain ⟨e, n, ne, nf, d⟩ := I.pin p hp
      exact ⟨(hs.2 p.1 ne).trans e, n, ne, nf, d⟩
  · have hfn : X.fn x = true := by
      rcases hf with z | z
      · exact z
      · rw [z] at hk; cases hk
    obtain ⟨c, hc⟩ := I.ok.has x (.inl hk)
    obtain ⟨w', z⟩ := I.cell x c hc
    refine wpAny_storeName_cell I.ok.kind hk hc z (fun h' hc' hs => ?_)
    obtain ⟨oc, hoc, hocd⟩ := id z
    refine h { s with heap := h' } ⟨I.ok, I.os, I.bare, ⟨fun b o e n hb hx => ?_, fun b o e n hb hx => ?_, I.base.free, fun b o e hx => ?_, I.base.tups, I.base.frzs, I.base.tbls⟩, ⟨m, hn.sameBut hs (Ne.symm (cne x c hc)), fun j y v' e1 e2 e3 => ?_⟩, fun y c' e => ?_, I.free, I.freeC, fun p hp => ?_, tracked ⟨oc, hoc, I.freeC x c hc⟩ hs, by simpa using I.len⟩ ⟨c, hs, .inr hc⟩
    · exact (hs.2 b (Nat.ne_of_lt (Nat.lt_of_lt_of_le (Heap.lt_size e) (I.ok.cab x c hfn hc)))).trans (I.base.keep b o e n hb hx)
    · obtain ⟨sl, e1⟩ := I.base.slot b o e n hb hx
      exact ⟨sl, (hs.2 b (Nat.ne_of_lt (Nat.lt_of_lt_of_le (Heap.lt_size e) (I.ok.cab x c hfn hc)))).trans e1⟩
    · obtain ⟨o', e1⟩ := I.base.there b o e hx
      exact ⟨o', (hs.2 b (Nat.ne_of_lt (Nat.lt_of_lt_of_le (Heap.lt_size e) (I.ok.cab x c hfn hc)))).trans e1⟩
    · by_cases hj : j = i
      · subst hj
        rw [hi] at e1; cases e1
        rw [List.getElem?_set_self hiσ] at e2
        cases e2
        exact ⟨u, r, .inr ⟨.inl hk, c, hc, hc'⟩⟩
      · rw [List.getElem?_set_ne (Ne.symm hj)] at e2
        obtain ⟨u', r', q⟩ := hl j y v' e1 e2 e3
        refine ⟨u', r', ?_⟩
        rcases q with q | ⟨k, c', e, z'⟩
        · exact .inl q
        · refine .inr ⟨k, c', e, z'.sameBut hs ?_⟩
          rintro rfl
          exact hj (nodup_ix hN e1 (I.ok.inj _ _ _ e hc ▸ hi))
    · by_cases hcc : c' = c
      · subst hcc; exact ⟨_, hc'⟩
      · obtain ⟨w2, z2⟩ := I.cell y c' e
        exact ⟨w2, z2.sameBut hs hcc⟩
    · obtain ⟨e, n, ne, nf, d⟩ := I.pin p hp
      refine ⟨(hs.2 p.1 ?_).trans e, n, ne, nf, d⟩
      intro q
      rw [q, hoc] at e
      have q' : oc = p.2 := Option.some.inj e
      exact d w' (by rw [← q']; exact hocd)
theorem store_ok {M : Model} {A : Around} {E : Value → Shared → Prop} {i : Nat} {x : Str} {v : V} {u : Value} {Q : Unit → Shared → Prop} (I : Inv X pins σ H s) (hN : X.N.Nodup) (hi : X.N[i]? = some x) (hx : Loc X.env.scope x) (r : RelV v u)
    (h : ∀ s', Inv X pins (σ.set i (some v)) H s' → Q () s') (hf : X.fn x = true ∨ X.env.scope.names.lookup x = some .local := by first | exact .inl rfl | exact .inr rfl | assumption) : wpAny M A (storeName X.env x u) Q E s :=
  store_ok2 I hN hi hx r (fun s' I' _ => h s' I') hf

theorem Inv.call' {s' : Shared} {ch : List Addr} (I : Inv X pins σ H s) (ho : s'.os = s.os) (u : Un (frs X.stack) ch H H' s.heap s'.heap) (hok : HOk X.prog X.w H' s'.heap) (hg : AllBare s'.gens)
    (hch : ∀ b ∈ ch, (b ∈ X.ex ∨ X.s₀.heap.objs.size ≤ b) ∧ b ≠ X.env.locals ∧ (∀ x c, X.env.cells.lookup x = some c → c ≠ b) ∧ ∀ p ∈ X.pn ++ pins, p.1 ≠ b) : Inv X pins σ H' s' := by
  obtain ⟨h', g', d', t', o'⟩ := s'
  have e : o' = s.os := ho
  subst e
  exact I.call (g' := g') (t' := t') (d' := d') u hok hg hch
end

abbrev XK := Value → Option Addr → Hp → Prop
abbrev St := List (Option V)
abbrev VK := V → Hp → Prop

abbrev TE := St → Hp → VK → Prop
abbrev TT := St → Hp → (Bool → Hp → Prop) → Prop
abbrev TA := St → Hp → (List V → Hp → Prop) → Prop

structure Ends where
  nx : St → Hp → Prop
  rt : VK
  bk : St → Hp → Prop := fun _ _ => False
  ct : St → Hp → Prop := fun _ _ => False
abbrev TS := Ends → St → Hp → Prop

def EP (X : Cx) (pins : List (Addr × Obj)) (σ : St) (Q : VK) (u : Value) (s' : Shared) : Prop := ∃ v H', Inv X pins σ H' s' ∧ RelV v u ∧ Q v H'
def TP (X : Cx) (pins : List (Addr × Obj)) (σ : St) (Q : Bool → Hp → Prop) (b : Bool) (s' : Shared) : Prop := ∃ H', Inv X pins σ H' s' ∧ Q b H'
def AP (X : Cx) (pins : List (Addr × Obj)) (σ : St) (Q : List V → Hp → Prop) (us : List Value) (s' : Shared) : Prop := ∃ vs H', Inv X pins σ H' s' ∧ Vals vs us ∧ Q vs H'
def SP (X : Cx) (pins : List (Addr × Obj)) (D : Ends) (f : Flow) (s' : Shared) : Prop :=
  match f with
  | .next => ∃ σ' H', Inv X pins σ' H' s' ∧ D.nx σ' H'
  | .brk => ∃ σ' H', Inv X pins σ' H' s' ∧ D.bk σ' H'
  | .cont => ∃ σ' H', Inv X pins σ' H' s' ∧ D.ct σ' H'
  | .ret u => ∃ v σ' H', Inv X pins σ' H' s' ∧ RelV v u ∧ D.rt v H'

structure PE (X : Cx) (e : Expr) (t : TE) : Prop where
  out :
    ∀ (pins : List (Addr × Obj)) (s : Shared) (σ : St) (H : Hp) (Q : VK), Inv X pins σ H s → t σ H Q → wpAny (model X.prog X.w) X.A (eval e X.env) (EP X pins σ Q) X.xe s
instance {X : Cx} {e : Expr} {t : TE} : CoeFun (PE X e t) fun _ =>
  ∀ (pins : List (Addr × Obj)) (s : Shared) (σ : St) (H : Hp) (Q : VK), Inv X pins σ H s → t σ H Q → wpAny (model X.prog X.w) X.A (eval e X.env) (EP X pins σ Q) X.xe s := ⟨PE.out⟩
structure PT (X : Cx) (e : Expr) (t : TT) : Prop where
  out :
    ∀ (pins : List (Addr × Obj)) (s : Shared) (σ : St) (H : Hp) (Q : Bool → Hp → Prop), Inv X pins σ H s → t σ H Q → wpAny (model X.prog X.w) X.A (isTrue e X.env (eval e X.env)) (TP X pins σ Q) X.xe s
instance {X : Cx} {e : Expr} {t : TT} : CoeFun (PT X e t) fun _ =>
  ∀ (pins : List (Addr × Obj)) (s : Shared) (σ : St) (H : Hp) (Q : Bool → Hp → Prop), Inv X pins σ H s → t σ H Q → wpAny (model X.prog X.w) X.A (isTrue e X.env (eval e X.env)) (TP X pins σ Q) X.xe s := ⟨PT.out⟩

structure PW (X : Cx) (e : Expr) (t : TT) : Prop where
  out :
    ∀ (whole : Sem Value) (pins : List (Addr × Obj)) (s : Shared) (σ : St) (H : Hp) (Q : Bool → Hp → Prop), Inv X pins σ H s → t σ H Q → wpAny (model X.prog X.w) X.A (isTrue e X.env whole) (TP X pins σ Q) X.xe s
instance {X : Cx} {e : Expr} {t : TT} : CoeFun (PW X e t) fun _ =>
  ∀ (whole : Sem Value) (pins : List (Addr × Obj)) (s : Shared) (σ : St) (H : Hp) (Q : Bool → Hp → Prop), Inv X pins σ H s → t σ H Q → wpAny (model X.prog X.w) X.A (isTrue e X.env whole) (TP X pins σ Q) X.xe s := ⟨PW.out⟩
theorem PW.pt {X : Cx} {e : Expr} {t : TT} (h : PW X e t) : PT X e t := ⟨h.out _⟩

structure PA (X : Cx) (es : List Expr) (t : TA) : Prop where
  out :
    ∀ (pos : Pos) (pins : List (Addr × Obj)) (s : Shared) (σ : St) (H : Hp) (Q : List V → Hp → Prop), Inv X pins σ H s → t σ H Q → wpAny (model X.prog X.w) X.A (spliced (backTo pos (starEach es X.env))) (AP X pins σ Q) X.xe s
instance {X : Cx} {es : List Expr} {t : TA} : CoeFun (PA X es t) fun _ =>
  ∀ (pos : Pos) (pins : List (Addr × Obj)) (s : Shared) (σ : St) (H : Hp) (Q : List V → Hp → Prop), Inv X pins σ H s → t σ H Q → wpAny (model X.prog X.w) X.A (spliced (backTo pos (starEach es X.env))) (AP X pins σ Q) X.xe s := ⟨PA.out⟩
structure PS (X : Cx) (st : Stmt) (t : TS) : Prop where
  out :
    ∀ (pins : List (Addr × Obj)) (s : Shared) (σ : St) (H : Hp) (D : Ends), Inv X pins σ H s → t D σ H → wpAny (model X.prog X.w) X.A (exec st X.env) (SP X pins D) X.xe s
instance {X : Cx} {st : Stmt} {t : TS} : CoeFun (PS X st t) fun _ =>
  ∀ (pins : List (Addr × Obj)) (s : Shared) (σ : St) (H : Hp) (D : Ends), Inv X pins σ H s → t D σ H → wpAny (model X.prog X.w) X.A (exec st X.env) (SP X pins D) X.xe s := ⟨PS.out⟩
structure PSs (X : Cx) (st : List Stmt) (t : TS) : Prop where
  out :
    ∀ (pins : List (Addr × Obj)) (s : Shared) (σ : St) (H : Hp) (D : Ends), Inv X pins σ H s → t D σ H → wpAny (model X.prog X.w) X.A (execs st X.env) (SP X pins D) X.xe s
instance {X : Cx} {st : List Stmt} {t : TS} : CoeFun (PSs X st t) fun _ =>
  ∀ (pins : List (Addr × Obj)) (s : Shared) (σ : St) (H : Hp) (D : Ends), Inv X pins σ H s → t D σ H → wpAny (model X.prog X.w) X.A (execs st X.env) (SP X pins D) X.xe s := ⟨PSs.out⟩

theorem thn {α : Type} {t : Sem α} {Q Q' : α → Shared → Prop} {M : Model} {A : Around} {E : Value → Shared → Prop} {s : Shared} (h : wpAny M A t Q E s) (hQ : ∀ a s, Q a s → Q' a s) : wpAny M A t Q' E s := wpAny_mono h hQ fun _ _ x => x
end L2

namespace L2
open PySem PySem.Spec PyProof.Rows
section
variable {X : Cx}

theorem bin {a b : Expr} {ta tb : TE} (ha : PE X a ta) (hb : PE X b tb) {pins : List (Addr × Obj)} {s : Shared} {σ : St} {H : Hp} {R : V → V → Hp → Prop} (I : Inv X pins σ H s) (h : ta σ H fun x H1 => tb σ H1 fun y H2 => R x y H2)
    {α : Type} {Q : α → Shared → Prop} {f : Value → Value → Sem α}
    (hf : ∀ v u s2 x y H2, Inv X pins σ H2 s2 → RelV x v → RelV y u → R x y H2 → wpAny (model X.prog X.w) X.A (f v u) Q X.xe s2) :
    wpAny (model X.prog X.w) X.A (eval a X.env) (fun v s₁ => wpAny (model X.prog X.w) X.A (eval b X.env) (fun u s₂ => wpAny (model X.prog X.w) X.A (f v u) Q X.xe s₂) X.xe s₁) X.xe s := by
  refine thn (ha pins s σ H _ I h) fun v s1 ⟨x, H1, I1, r1, q1⟩ => ?_
  refine thn (hb pins s1 σ H1 _ I1 q1) fun u s2 ⟨y, H2, I2, r2, q2⟩ => ?_
  exact hf v u s2 x y H2 I2 r1 r2 q2

def tVar (i : Nat) : TE := fun σ H Q => ∃ v, σ[i]? = some (some v) ∧ Q v H
def tC (v : V) : TE := fun _ H Q => Q v H
theorem pe_var {i : Nat} {x : Str} {pos : Pos} (hN : X.N[i]? = some x) (hv : Vis X.env.scope x) (hd : (x == ("__debug__" : Str)) = false := by decide) (hcd : (x == ("__classdict__" : Str)) = false := by decide) : PE X (.Name x pos) (tVar i) := by
  refine ⟨?_⟩
  intro pins s σ H Q I h
  obtain ⟨v, e, h⟩ := h
  obtain ⟨m, hn, hl⟩ := I.loc
  obtain ⟨u, r, l⟩ := hl i x v hN e hv
  have fin : EP X pins σ Q u s := ⟨v, H, I, r, h⟩
  rcases l with ⟨hk, hm⟩ | ⟨hk, c, hc, hcell⟩
  · exact wpAny_Name (wpAny_loadName_local I.ok.kind hk hn hm fin) hd
  · rcases hk with hk | hk
    · exact wpAny_Name (wpAny_loadName_cell I.ok.kind hk hc hcell fin) hd
    · exact wpAny_Name (wpAny_loadName_free I.ok.kind hk hc hcell fin hcd) hd
theorem pe_int {i j pos} : PE X (.Constant (.int i) j pos) (tC (.int i)) := .mk fun _ _ _ H _ I h => wpAny_Constant_int ⟨.int i, H, I.tok _, ⟨_, rfl⟩, h⟩
theorem pe_bl {b j pos} : PE X (.Constant (.bool b) j pos) (tC (.bl b)) := .mk fun _ _ _ H _ I h => Constant_bool ⟨.bl b, H, I, rfl, h⟩
theorem pe_non {j pos} : PE X (.Constant .none j pos) (tC .non) := .mk fun _ _ _ H _ I h => Constant_none ⟨.non, H, I, rfl, h⟩
theorem pe_str {x j pos} : PE X (.Constant (.str x) j pos) (tC (.str x)) := .mk fun _ _ _ H _ I h => Calls.Constant_str ⟨.str x, H, I.tok _, ⟨_, rfl⟩, h⟩

def Gl (X : Cx) (x : Str) : Prop := X.env.kindOf x = some .globalImplicit
theorem ld_glob {E : Value → Shared → Prop} {pins : List (Addr × Obj)} {s : Shared} {σ : St} {H : Hp} {x : Str} {u : Value} {pos : Pos} {Q : Value → Shared → Prop} (I : Inv X pins σ H s) (hg : Gl X x) (hm : X.mg x = some u) (h : Q u s)
    (hd : (x == ("__debug__" : Str)) = false := by decide) : wpAny (model X.prog X.w) X.A (eval (.Name x pos) X.env) Q E s :=
  Calls.Name_function_global I.ok.kind hg (Calls.loadGlobal_global (by rw [I.ok.glob]; exact I.mod.glob.keeps I.bk) hm h) hd
theorem ld_blt {E : Value → Shared → Prop} {pins : List (Addr × Obj)} {s : Shared} {σ : St} {H : Hp} {x : Str} {u : Value} {pos : Pos} {Q : Value → Shared → Prop} (I : Inv X pins σ H s) (hg : Gl X x) (hm : X.mg x = none) (hv : bootBuiltins x = some u) (h : Q u s)
    (hn : x ≠ "__name__" := by decide) (hd : (x == ("__debug__" : Str)) = false := by decide) : wpAny (model X.prog X.w) X.A (eval (.Name x pos) X.env) Q E s := by
  obtain ⟨mb, h1, h2⟩ := I.mod.blt
  exact Calls.Name_function_global I.ok.kind hg (Calls.loadGlobal_builtin (by rw [I.ok.glob]; exact I.mod.glob.keeps I.bk) hm (by rw [I.ok.blt]; exact h1.keeps I.bk) ((h2 x hn).trans hv) h) hd

theorem pe_glob {x : Str} {v : V} {u : Value} {pos : Pos} (hg : Gl X x) (hm : X.mg x = some u) (r : RelV v u) (hd : (x == ("__debug__" : Str)) = false := by decide) : PE X (.Name x pos) (tC v) :=
  .mk fun _ _ _ H _ I h => ld_glob I hg hm ⟨v, H, I, r, h⟩ hd
theorem pe_bltn {x : Str} {v : V} {u : Value} {pos : Pos} (hg : Gl X x) (hm : X.mg x = none) (hv : bootBuiltins x = some u) (r : RelV v u) (hn : x ≠ "__name__" := by decide) (hd : (x == ("__debug__" : Str)) = false := by decide) : PE X (.Name x pos) (tC v) :=
  .mk fun _ _ _ H _ I h => ld_blt I hg hm hv ⟨v, H, I, r, h⟩ hn hd

variable {a b : Expr} {ta tb : TE} {pos : Pos}
structure PC (X : Cx) (op : CmpOp) (a b : Expr) (t : TE) : Prop where
  out :
    ∀ (pins : List (Addr × Obj)) (s : Shared) (σ : St) (H : Hp) (Q : VK), Inv X pins σ H s → t σ H Q →
      wpAny (model X.prog X.w) X.A (eval a X.env) (fun v s₁ => wpAny (model X.prog X.w) X.A (eval b X.env) (fun u s₂ => wpAny (model X.prog X.w) X.A (compareOp op v u) (EP X pins σ Q) X.xe s₂) X.xe s₁) X.xe s
instance {X : Cx} {op : CmpOp} {a b : Expr} {t : TE} : CoeFun (PC X op a b t) fun _ =>
  ∀ (pins : List (Addr × Obj)) (s : Shared) (σ : St) (H : Hp) (Q : VK), Inv X pins σ H s → t σ H Q →
    wpAny (model X.prog X.w) X.A (eval a X.env) (fun v s₁ => wpAny (model X.prog X.w) X.A (eval b X.env) (fun u s₂ => wpAny (model X.prog X.w) X.A (compareOp op v u) (EP X pins σ Q) X.xe s₂) X.xe s₁) X.xe s := ⟨PC.out⟩
theorem nobehind (b : Expr) {op : CmpOp} (h : op ≠ .In) (h2 : op ≠ .NotIn) : behindInMarks op b = false := by
  have e1 : (op == CmpOp.In) = false := by cases op <;> first | rfl | exact absurd rfl h
  have e2 : (op == CmpOp.NotIn) = false := by cases op <;> first | rfl | exact absurd rfl h2
  cases b <;> simp [behindInMarks, e1, e2]
def tB (t : TE) : TT := fun σ H Q => t σ H fun x H1 => ∃ c, x = .bl c ∧ Q c H1
theorem pt_cmp {op : CmpOp} {t : TE} (h : PC X op a b t) (h1 : behindInMarks op b = false := by first | exact nobehind _ (by decide) (by decide) | rfl) : PT X (.Compare a [op] [b] pos) (tB t) := by
  refine ⟨?_⟩
  intro pins s σ H Q I hw
  refine wpAny_isTrue_Compare1 (thn (h pins s σ H _ I hw) fun v s1 h1 => thn h1 fun u s2 h2 => thn h2 fun c s3 ⟨x, H1, I1, r1, q1⟩ => ?_) h1
  obtain ⟨d, rfl, q⟩ := q1
  cases r1
  exact wpAny_truthy_bool ⟨H1, I1, q⟩

theorem pt_val {e : Expr} {t : TE} (h : PE X e t) (he : ∀ whole, isTrue e X.env whole = (do let v ← whole; standAt e.pos; holding [v] (truthy v)) := by intro _; rfl) : PT X e (tB t) := by
  refine ⟨?_⟩
  intro pins s σ H Q I hw
  refine isTrue_plain (thn (h pins s σ H _ I hw) fun v s1 ⟨x, H1, I1, r1, q1⟩ => ?_) (he _)
  obtain ⟨d, rfl, q⟩ := q1
  cases r1
  exact wpAny_truthy_bool ⟨H1, I1, q⟩

variable {tA tB' : TT} {rest : List Expr}
def tAnd (t u : TT) : TT := fun σ H Q => t σ H fun c H1 => if c = true then u σ H1 Q else Q false H1
def tOr (t u : TT) : TT := fun σ H Q => t σ H fun c H1 => if c = true then Q true H1 else u σ H1 Q
def tNot (t : TT) : TT := fun σ H Q => t σ H fun c H1 => Q (!c) H1
theorem pw_or1 (ha : PT X a tA) : PW X (.BoolOp .Or [a] pos) tA := by
  refine ⟨?_⟩
  intro wh pins s σ H Q I h
  refine isTrue_or (thn (ha pins s σ H Q I h) fun c s1 e => ?_)
  cases c with
  | false => exact isTrue_or_nil e
  | true => exact e
theorem pw_or (ha : PT X a tA) (hb : PW X (.BoolOp .Or (b :: rest) pos) tB') : PW X (.BoolOp .Or (a :: b :: rest) pos) (tOr tA tB') := by
  refine ⟨?_⟩
  intro wh pins s σ H Q I h
  refine isTrue_or (thn (ha pins s σ H _ I h) fun c s1 ⟨H1, I1, q1⟩ => ?_)
  cases c with
  | true => exact ⟨H1, I1, q1⟩
  | false => exact hb wh pins s1 σ H1 Q I1 q1
theorem pt_not (ha : PT X a tA) : PT X (.UnaryOp .Not a pos) (tNot tA) := by
  refine ⟨?_⟩
  intro pins s σ H Q I h
  exact isTrue_not (ha pins s σ H (fun c H1 => Q (!c) H1) I h)

def tAndV (ta tb : TE) : TE := fun σ H Q => ta σ H fun x H1 => ∃ c, x = .bl c ∧ if c = true then tb σ H1 Q else Q (.bl false) H1
def tOrV (ta tb : TE) : TE := fun σ H Q => ta σ H fun x H1 => ∃ c, x = .bl c ∧ if c = true then Q (.bl true) H1 else tb σ H1 Q
def tNotV (ta : TE) : TE := fun σ H Q => ta σ H fun x H1 => ∃ c, x = .bl c ∧ Q (.bl (!c)) H1
theorem pe_one {op} {t : TE} (h : PE X a t) : PE X (.BoolOp op [a] pos) t := .mk fun pins s σ H Q I hw => BoolOp_one (h pins s σ H Q I hw)
theorem pe_and (ha : PE X a ta) (hb : PE X (.BoolOp .And (b :: rest) pos) tb) : PE X (.BoolOp .And (a :: b :: rest) pos) (tAndV ta tb) := by
  refine ⟨?_⟩
  intro pins s σ H Q I h
  refine BoolOp_and (thn (ha pins s σ H _ I h) fun v s1 ⟨x, H1, I1, r1, q1⟩ => ?_)
  obtain ⟨c, rfl, q1⟩ := q1
  cases r1
  refine wpAny_truthy_bool ?_
  cases c with
  | true => exact hb pins s1 σ H1 Q I1 q1
  | false => exact ⟨.bl false, H1, I1, rfl, q1⟩
def tIf (t : TT) (ta tb : TE) : TE := fun σ H Q => t σ H fun c H1 => if c = true then ta σ H1 Q else tb σ H1 Q
theorem pe_ifExp {c : Expr} (hc : PT X c tA) (ha : PE X a ta) (hb : PE X b tb) : PE X (.IfExp c a b pos) (tIf tA ta tb) := by
  refine ⟨?_⟩
  intro pins s σ H Q I h
  refine wpAny_IfExp (thn (hc pins s σ H _ I h) fun d s1 ⟨H1, I1, q1⟩ => ?_)
  cases d with
  | true => exact ha pins s1 σ H1 Q I1 q1
  | false => exact hb pins s1 σ H1 Q I1 q1
end
end L2

namespace L2
open PySem PySem.Spec PyProof.Rows

def SqL (K : PySem.W.Frag) (H : Hp) (a : Addr) (xs : List V) : Prop :=
  Rd H a (.lst xs) ∨
    ∃ (o : Obj) (its : Array Value) (n : Nat), K.lookup a = some o ∧ o.cls = .type "list" ∧ o.dict = none ∧ o.data = .seq its n ∧ its.size ≤ sizeLine ∧ Vals xs its.toList
def SqT (K : PySem.W.Frag) (H : Hp) (a : Addr) (xs : List V) : Prop :=
  Rd H a (.tup xs) ∨
    ∃ (o : Obj) (its : Array Value) (n : Nat), K.lookup a = some o ∧ o.cls = .type "tuple" ∧ o.data = .seq its n ∧ its.size ≤ sizeLine ∧ Vals xs its.toList
def absV : Value → Option V
  | .none => some .non
  | .bool b => some (.bl b)
  | .int i _ => some (.int i)
  | .str x _ => some (.str x)
  | .bytes b _ => some (.byt b)
  | .float b _ => some (.flt b)
  | .ref a => some (.ref a)
  | .type n => some (.ty n)
  | _ => none
theorem RelV.abs {x : V} {u : Value} (r : RelV x u) : absV u = some x := by
  cases x with
  | non => cases r; rfl
  | bl _ => cases r; rfl
  | int _ => obtain ⟨t, rfl⟩ := r; rfl
  | str _ => obtain ⟨t, rfl⟩ := r; rfl
  | byt _ => obtain ⟨t, rfl⟩ := r; rfl
  | flt _ => obtain ⟨t, rfl⟩ := r; rfl
  | ref _ => cases r; rfl
  | ty _ => cases r; rfl
theorem RelV.inj {x y : V} {u : Value} (r : RelV x u) (q : RelV y u) : x = y := Option.some.inj (r.abs.symm.trans q.abs)
theorem Vals.inj : ∀ {xs ys : List V} {us : List Value}, Vals xs us → Vals ys us → xs = ys
  | _, _, _, .nil, .nil => rfl
  | _, _, _, .cons r t, .cons r' t' => by rw [r.inj r', Vals.inj t t']
section
variable {X : Cx} {pins : List (Addr × Obj)} {σ : St} {H : Hp} {s : Shared} {a : Addr} {xs ys : List V}
theorem SqL.of {K : PySem.W.Frag} (h : H a = some (.lst xs)) : SqL K H a xs := .inl (.inl h)
theorem SqT.of {K : PySem.W.Frag} (h : H a = some (.tup xs)) : SqT K H a xs := .inl (.inl h)
theorem Inv.list (I : Inv X pins σ H s) (h : SqL X.K H a xs) : ∃ its : List Value, Vals xs its ∧ PlainL s.heap a its.toArray ∧ xs.length ≤ sizeLine := by
  rcases h with h | ⟨o, its, n, hk, hc, hd, hs, hz, r⟩
  · obtain ⟨z, its, n, r, e⟩ := h.ok I.hok
    exact ⟨its, r, ⟨_, n, e, rfl, rfl, rfl⟩, z⟩
  · refine ⟨its.toList, r, ⟨o, n, I.kIn a o hk, hc, hd, by simpa using hs⟩, ?_⟩
    have e := r.length
    simp only [Array.length_toList] at e
    omega
theorem Inv.tuple (I : Inv X pins σ H s) (h : SqT X.K H a xs) : ∃ its : List Value, Vals xs its ∧ IsTup s.heap a its.toArray ∧ xs.length ≤ sizeLine := by
  rcases h with h | ⟨o, its, n, hk, hc, hs, hz, r⟩
  · obtain ⟨z, its, r, p⟩ := h.ok I.hok
    exact ⟨its, r, p, z⟩
  · refine ⟨its.toList, r, ⟨o, I.kIn a o hk, hc, n, by simpa using hs⟩, ?_⟩
    have e := r.length
    simp only [Array.length_toList] at e
    omega
theorem Inv.list_inj (I : Inv X pins σ H s) (h : SqL X.K H a xs) (h' : SqL X.K H a ys) : xs = ys := by
  obtain ⟨its, r, ⟨o, n, e, _, _, d⟩, _⟩ := I.list h
  obtain ⟨its', r', ⟨o', n', e', _, _, d'⟩, _⟩ := I.list h'
  rw [e] at e'; cases e'
  rw [d] at d'
  injection d' with d1 _
  have : its = its' := by simpa using congrArg Array.toList d1
  subst this
  exact r.inj r'
theorem Inv.tuple_inj (I : Inv X pins σ H s) (h : SqT X.K H a xs) (h' : SqT X.K H a ys) : xs = ys := by
  obtain ⟨its, r, ⟨o, e, _, n, d⟩, _⟩ := I.tuple h
  obtain ⟨its', r', ⟨o', e', _, n', d'⟩, _⟩ := I.tuple h'
  rw [e] at e'; cases e'
  rw [d] at d'
  injection d' with d1 _
  have : its = its' := by simpa using congrArg Array.toList d1
  subst this
  exact r.inj r'
end

abbrev Cx.wish (X : Cx) (E : Value → Shared → Prop) : Cx := { X with xe := E }

abbrev Cx.nox (X : Cx) : Cx := X.wish fun _ _ => False
theorem Cx.Ok.wish {X : Cx} (ok : X.Ok) (E : Value → Shared → Prop) : (X.wish E).Ok :=
  ⟨ok.mod, ok.kind, ok.glob, ok.blt, ok.above, ok.inj, ok.has, ok.cab, ok.hd, ok.frames, ok.stk, ok.exf, ok.bs, ok.bsz, ok.noex, ok.exfs, ok.funs, ok.frf⟩
theorem Cx.Ok.unwish {X : Cx} {E : Value → Shared → Prop} (ok : (X.wish E).Ok) : X.Ok :=
  ⟨ok.mod, ok.kind, ok.glob, ok.blt, ok.above, ok.inj, ok.has, ok.cab, ok.hd, ok.frames, ok.stk, ok.exf, ok.bs, ok.bsz, ok.noex, ok.exfs, ok.funs, ok.frf⟩
section
variable {X : Cx} {pins : List (Addr × Obj)} {σ : St} {H : Hp} {s : Shared} {E : Value → Shared → Prop}
theorem Inv.wish (I : Inv X pins σ H s) (E : Value → Shared → Prop) : Inv (X.wish E) pins σ H s := ⟨I.ok.wish E, I.os, I.bare, I.base, I.loc, I.cell, I.free, I.freeC, I.pin, I.hok, I.len⟩
theorem Inv.unwish (I : Inv (X.wish E) pins σ H s) : Inv X pins σ H s := ⟨I.ok.unwish, I.os, I.bare, I.base, I.loc, I.cell, I.free, I.freeC, I.pin, I.hok, I.len⟩
theorem SP.unwish {D : Ends} {f : Flow} {s' : Shared} (h : SP (X.wish E) pins D f s') : SP X pins D f s' := by
  cases f with
  | next => obtain ⟨σ', H', I, q⟩ := h; exact ⟨σ', H', I.unwish, q⟩
  | brk => obtain ⟨σ', H', I, q⟩ := h; exact ⟨σ', H', I.unwish, q⟩
  | cont => obtain ⟨σ', H', I, q⟩ := h; exact ⟨σ', H', I.unwish, q⟩
  | ret u => obtain ⟨v, σ', H', I, r, q⟩ := h; exact ⟨v, σ', H', I.unwish, r, q⟩
theorem PSs.nox {st : List Stmt} {t : TS} (h : PSs X.nox st t) : PSs X st t := .mk fun pins s σ H D I hw =>
  wpAny_mono (h pins s σ H D (I.wish _) hw) (fun _ _ q => q.unwish) fun _ _ z => False.elim z
end

section
variable {X : Cx} {st : Stmt} {rest : List Stmt} {t u : TS} {e : Expr} {te : TE} {pos : Pos}
def tNext : TS := fun D σ H => D.nx σ H
def tSeq (t u : TS) : TS := fun D σ H => t { D with nx := u D } σ H
theorem pss_nil : PSs X [] tNext := .mk fun _ _ σ H _ I h => wpAny_execs_nil ⟨σ, H, I, h⟩
theorem pss_cons (h1 : PS X st t) (h2 : PSs X rest u) : PSs X (st :: rest) (tSeq t u) := by
  refine ⟨?_⟩
  intro pins s σ H D I h
  refine wpAny_execs_cons (thn (h1 pins s σ H { D with nx := u D } I h) fun f s1 q => ?_)
  cases f with
  | next =>
    obtain ⟨σ', H', I', q⟩ := q
    exact h2 pins s1 σ' H' D I' q
  | ret v => exact q
  | brk => exact q
  | cont => exact q
theorem pss_one (h1 : PS X st t) : PSs X [st] t := by
  refine ⟨?_⟩
  intro pins s σ H D I h
  refine wpAny_execs_cons (thn (h1 pins s σ H D I h) fun f s1 q => ?_)
  cases f with
  | next => exact wpAny_execs_nil q
  | ret v => exact q
  | brk => exact q
  | cont => exact q
theorem Inv.quiet {pins : List (Addr × Obj)} {σ : St} {H : Hp} {s : Shared} (I : Inv X pins σ H s) : interactive X.env = false := by simp [interactive, I.ok.kind]

def tDrop (te : TE) : TS := fun D σ H => te σ H fun _ H1 => D.nx σ H1
theorem ps_expr (he : PE X e te) (hs : swapsWith e none pos.line X.env = pure false := by rfl) : PS X (.Expr e pos) (tDrop te) := by
  refine ⟨?_⟩
  intro pins s σ H D I h
  exact wpAny_Expr_any (thn (he pins s σ H _ I h) fun v s1 ⟨x, H1, I1, r1, q1⟩ => ⟨σ, H1, I1, q1⟩) I.quiet hs
def tRet (te : TE) : TS := fun D σ H => te σ H D.rt
theorem ps_ret (he : PE X e te) : PS X (.Return (some e) pos) (tRet te) := by
  refine ⟨?_⟩
  intro pins s σ H D I h
  exact wpAny_Return_some (thn (he pins s σ H _ I h) fun v s1 ⟨x, H1, I1, r1, q1⟩ => ⟨x, σ, H1, I1, r1, q1⟩)
def tRetN : TS := fun D _ H => D.rt .non H
def tIfS (c : TT) (t u : TS) : TS := fun D σ H => c σ H fun b H1 => if b = true then t D σ H1 else u D σ H1
theorem ps_if {c : Expr} {a b : List Stmt} {tc : TT} (hc : PT X c tc) (ha : PSs X a t) (hb : PSs X b u) : PS X (.If c a b pos) (tIfS tc t u) := by
  refine ⟨?_⟩
  intro pins s σ H D I h
  refine wpAny_If (thn (hc pins s σ H _ I h) fun d s1 ⟨H1, I1, q1⟩ => ?_)
  cases d with
  | true => exact ha pins s1 σ H1 D I1 q1
  | false => exact hb pins s1 σ H1 D I1 q1

end

abbrev TG := V → St → Hp → (St → Hp → Prop) → Prop
abbrev TGs := List V → St → Hp → (St → Hp → Prop) → Prop
structure PG (X : Cx) (target : Expr) (t : TG) : Prop where
  out :
    ∀ (pins : List (Addr × Obj)) (s : Shared) (σ : St) (H : Hp) (v : V) (u : Value) (Q : St → Hp → Prop), Inv X pins σ H s → RelV v u → t v σ H Q →
      wpAny (model X.prog X.w) X.A (assign target X.env u) (fun _ s' => ∃ σ' H', Inv X pins σ' H' s' ∧ Q σ' H') X.xe s
instance {X : Cx} {target : Expr} {t : TG} : CoeFun (PG X target t) fun _ =>
  ∀ (pins : List (Addr × Obj)) (s : Shared) (σ : St) (H : Hp) (v : V) (u : Value) (Q : St → Hp → Prop), Inv X pins σ H s → RelV v u → t v σ H Q →
    wpAny (model X.prog X.w) X.A (assign target X.env u) (fun _ s' => ∃ σ' H', Inv X pins σ' H' s' ∧ Q σ' H') X.xe s := ⟨PG.out⟩

structure PGs (X : Cx) (ts : List Expr) (t : TGs) : Prop where
  out :
    ∀ (pins : List (Addr × Obj)) (s : Shared) (σ : St) (H : Hp) (vs : List V) (us : List Value) (Q : St → Hp → Prop), Inv X pins σ H s → Vals vs us → t vs σ H Q →
      wpAny (model X.prog X.w) X.A (assignInOrder ((assignEach ts X.env).map (·.2)) us) (fun _ s' => ∃ σ' H', Inv X pins σ' H' s' ∧ Q σ' H') X.xe s
instance {X : Cx} {ts : List Expr} {t : TGs} : CoeFun (PGs X ts t) fun _ =>
  ∀ (pins : List (Addr × Obj)) (s : Shared) (σ : St) (H : Hp) (vs : List V) (us : List Value) (Q : St → Hp → Prop), Inv X pins σ H s → Vals vs us → t vs σ H Q →
    wpAny (model X.prog X.w) X.A (assignInOrder ((assignEach ts X.env).map (·.2)) us) (fun _ s' => ∃ σ' H', Inv X pins σ' H' s' ∧ Q σ' H') X.xe s := ⟨PGs.out⟩

abbrev TSet := V → V → V → Hp → (Hp → Prop) → Prop
def PSet (X : Cx) (t : TSet) : Prop :=
  ∀ (pins : List (Addr × Obj)) (s : Shared) (σ : St) (H : Hp) (o i v : V) (ov iv u : Value) (Q : Hp → Prop), Inv X pins σ H s → RelV o ov → RelV i iv → RelV v u → t o i v H Q →
    wpAny (model X.prog X.w) X.A (setItem ov iv u) (fun _ s' => ∃ H', Inv X pins σ H' s' ∧ Q H') X.xe s

section
variable {X : Cx} {pos : Pos}
def gName (i : Nat) : TG := fun v σ H Q => Q (σ.set i (some v)) H
theorem pg_name {i : Nat} {x : Str} (hN : X.N.Nodup) (hi : X.N[i]? = some x) (hx : Loc X.env.scope x) (hf : X.fn x = true ∨ X.env.scope.names.lookup x = some .local := by first | exact .inl rfl | exact .inr rfl | assumption) : PG X (.Name x pos) (gName i) := by
  refine ⟨?_⟩
  intro pins s σ H v u Q I r h
  exact wpAny_assign_Name (store_ok I hN hi hx r (fun s' I' => ⟨_, H, I', h⟩) hf)
def gNil : TGs := fun vs σ H Q => vs = [] ∧ Q σ H
def gCons (t : TG) (u : TGs) : TGs := fun vs σ H Q => ∃ v r, vs = v :: r ∧ t v σ H fun σ' H' => u r σ' H' Q
theorem pgs_nil : PGs X [] gNil := by
  refine ⟨?_⟩
  intro pins s σ H vs us Q I r h
  obtain ⟨e, h⟩ := h
  subst e
  cases r
  exact assignInOrder_nil ⟨σ, H, I, h⟩
theorem pgs_cons {e : Expr} {es : List Expr} {t : TG} {u : TGs} (h1 : PG X e t) (h2 : PGs X es u)
    (hs : (assignEach (e :: es) X.env).map (·.2) = assign e X.env :: (assignEach es X.env).map (·.2) := by rfl) : PGs X (e :: es) (gCons t u) := by
  refine ⟨?_⟩
  intro pins s σ H vs us Q I r h
  obtain ⟨v, vr, e1, h⟩ := h
  subst e1
  cases r with
  | cons r rr =>
    rw [hs]
    refine assignInOrder_cons (thn (h1 pins s σ H _ _ _ I r h) fun _ s1 ⟨σ1, H1, I1, q1⟩ => ?_)
    exact h2 pins s1 σ1 H1 _ _ Q I1 rr q1

def gTup (K : PySem.W.Frag) (n : Nat) (t : TGs) : TG := fun v σ H Q => ∃ a xs, v = .ref a ∧ SqT K H a xs ∧ xs.length = n ∧ t xs σ H Q
theorem pg_tup {es : List Expr} {k : Nat} {t : TGs} {n : Nat} (hc : X.calm = true) (h : PGs X es t)
    (hn : (assignEach es X.env).length = n := by rfl) (hst : (assignEach es X.env).findIdx? (·.1) = none := by rfl) : PG X (.Tuple es k pos) (gTup X.K n t) := by
  refine ⟨?_⟩
  intro pins s σ H v u Q I r hw
  obtain ⟨a, xs, e1, hq, hl, hw⟩ := hw
  subst e1
  cases r
  obtain ⟨its, rv, ht, hz⟩ := I.tuple hq
  refine assign_Tuple_tuple (I.ok.hd hc) ht (by simp [hn, ← hl, rv.length]) hst fun h' hx => ?_
  have I1 : Inv X pins σ H { s with heap := h' } := I.kept (t' := s.toks) fun b o e => hx b o (Nat.ne_of_lt (Heap.lt_size e)) e
  exact h pins _ σ H xs _ Q I1 (by simpa using rv) hw

def gSub (to ti : TE) (t : TSet) : TG := fun v σ H Q => to σ H fun o H1 => ti σ H1 fun i H2 => t o i v H2 fun H3 => Q σ H3
theorem pg_sub {o i : Expr} {to ti : TE} {t : TSet} (ho : PE X o to) (hi : PE X i ti) (hs : PSet X t)
    (ha : ∀ v, assign (.Subscript o i pos) X.env v = (do
      let ov ← holding [v] (eval o X.env)
      let iv ← holding [v, ov] (eval i X.env)
      standAt pos
      holding [v, ov, iv] (setItem ov iv v)
      release [v, ov, iv] []) := by intro _; rfl) : PG X (.Subscript o i pos) (gSub to ti t) := by
  refine ⟨?_⟩
  intro pins s σ H v u Q I r h
  rw [ha]
  refine wpAny_bind (wpAny_holding (thn (ho pins s σ H _ I h) fun ov s1 ⟨x, H1, I1, r1, q1⟩ => ?_))
  refine wpAny_bind (wpAny_holding (thn (hi pins s1 σ H1 _ I1 q1) fun iv s2 ⟨y, H2, I2, r2, q2⟩ => ?_))
  refine wpAny_bind (wpAny_standAt (wpAny_bind (wpAny_holding (thn (hs pins s2 σ H2 x y v ov iv u _ I2 r1 r2 r q2) fun _ s3 ⟨H3, I3, q3⟩ => ?_))))
  exact wpAny_release ⟨σ, H3, I3, q3⟩

def tAsg (te : TE) (g : TG) : TS := fun D σ H => te σ H fun x H1 => g x σ H1 D.nx
theorem ps_asg {tg e : Expr} {te : TE} {g : TG} (he : PE X e te) (hg : PG X tg g) (hs : swapsWithSole [tg] e pos.line X.env = pure false := by rfl) (hw : swappedStores [tg] e X.env = pure none := by rfl)
    (h1 : (assignEach [tg] X.env).map (·.2) = [assign tg X.env] := by rfl) : PS X (.Assign [tg] e pos) (tAsg te g) := by
  refine ⟨?_⟩
  intro pins s σ H D I h
  refine wpAny_Assign_stores (thn (he pins s σ H _ I h) fun v s1 ⟨x, H1, I1, r1, q1⟩ => ?_) hs hw
  rw [h1]
  exact thn (hg pins s1 σ H1 x v _ I1 r1 q1) fun _ s2 q => q

theorem ps_set {i : Nat} {x : Str} {e : Expr} {te : TE} {pos' : Pos} (hN : X.N.Nodup) (hi : X.N[i]? = some x) (hx : Loc X.env.scope x) (he : PE X e te) (hs : swapsWith e (some (.Name x pos')) pos.line X.env = pure false := by rfl) (hf : X.fn x = true ∨ X.env.scope.names.lookup x = some .local := by first | exact .inl rfl | exact .inr rfl | assumption) :
    PS X (.Assign [.Name x pos'] e pos) (tAsg te (gName i)) := by
  refine ⟨?_⟩
  intro pins s σ H D I h
  refine wpAny_Assign_Name (thn (he pins s σ H _ I h) fun v s1 ⟨y, H1, I1, r1, q1⟩ => ?_) hs
  exact store_ok I1 hN hi hx r1 (fun s2 I2 => ⟨_, H1, I2, q1⟩) hf

def tPar (i j : Nat) (ta : TA) : TS := fun D σ H => ta σ H fun vs H1 => ∃ v w, vs = [v, w] ∧ D.nx ((σ.set i (some v)).set j (some w)) H1
theorem ps_par {i j : Nat} {x y : Str} {a b : Expr} {ta : TA} {px py pt : Pos} {kt k2 pt2} (hc : X.calm = true) (hN : X.N.Nodup) (hi : X.N[i]? = some x) (hj : X.N[j]? = some y) (hij : i ≠ j)
    (hx : X.env.scope.names.lookup x = some .local) (hy : X.env.scope.names.lookup y = some .local) (ha : PA X [a, b] ta)
    (hw : swappedStores [.Tuple [.Name x px, .Name y py] kt pt] (.Tuple [a, b] k2 pt2) X.env = pure (some [x, y]))
    (hs : swapsWithSole [.Tuple [.Name x px, .Name y py] kt pt] (.Tuple [a, b] k2 pt2) pos.line X.env = pure false := by rfl) :
    PS X (.Assign [.Tuple [.Name x px, .Name y py] kt pt] (.Tuple [a, b] k2 pt2) pos) (tPar i j ta) := by
  refine ⟨?_⟩
  intro pins s σ H D I h
  rw [exec_Assign_arm]
  refine wpAny_bind (wpAny_standAt ?_)
  rw [hs]
  refine wpAny_bind (wpAny_pure ?_)
  rw [if_neg (by decide)]
  refine wpAny_bind (Tuple_ (thn (ha _ pins s σ H _ I h) fun us s1 ⟨vs, H1, I1, r1, q1⟩ => ?_))
  obtain ⟨v, w, e1, q1⟩ := q1
  subst e1
  obtain ⟨u1, u2, rfl, rv, rw'⟩ : ∃ u1 u2, us = [u1, u2] ∧ RelV v u1 ∧ RelV w u2 := by
    cases r1 with
    | cons p q =>
      cases q with
      | cons p' q' =>
        cases q'
        exact ⟨_, _, rfl, p, p'⟩
  refine wpAny_newObj_type ?_ (by show 2 ≤ sizeLine; decide)
  have I2 : Inv X pins σ H1 { s1 with heap := s1.heap.push { cls := .type "tuple", data := .seq [u1, u2].toArray } } := I1.kept (t' := s1.toks) fun b o e => Heap.get?_push_of_some _ e
  rw [hw]
  refine wpAny_bind (wpAny_pure ?_)
  show wpAny (model X.prog X.w) X.A (do rule "assign.swapped-stores"; let items ← unpackItems (.ref s1.heap.objs.size) 2 none; assignInOrder [fun v => bindName X.env y v, fun v => bindName X.env x v] items.reverse; pure Flow.next) _ _ _
  refine wpAny_bind (wpAny_rule (wpAny_bind (unpackItems_tuple (items := #[u1, u2]) (I.ok.hd hc) (IsTup.new s1.heap _) fun h' hx' => ?_)))
  have I3 := I2.kept (h' := h') (t' := s1.toks) fun b o e => hx' b o (Nat.ne_of_lt (Heap.lt_size e)) e
  show wpAny _ _ (assignInOrder [fun v => bindName X.env y v, fun v => bindName X.env x v] [u2, u1] >>= fun _ => pure Flow.next) _ _ _
  refine wpAny_bind (assignInOrder_cons (wpAny_bindName (store_ok I3 hN hj (.inl hy) rw' (fun s2 I4 => ?_) (.inr hy))))
  refine assignInOrder_cons (wpAny_bindName (store_ok I4 hN hi (.inl hx) rv (fun s3 I5 => assignInOrder_nil (wpAny_pure ?_)) (.inr hx)))
  rw [List.set_comm _ _ (Ne.symm hij)] at I5
  exact ⟨_, H1, I5, q1⟩

end

section
variable {X : Cx} {pos : Pos}

end

structure It where
  go : Nat → Hp → Prop
  yld : Nat → Hp → V → Hp → Prop
  stop : Nat → Hp → Prop

def FpOk (X : Cx) (pins : List (Addr × Obj)) (H : Hp) (b : Addr) : Prop :=
  H b = none ∧ b ≠ X.env.locals ∧ b ∉ X.fs ∧ (b ∈ X.ex ∨ X.s₀.heap.objs.size ≤ b) ∧ (∀ x c, X.env.cells.lookup x = some c → c ≠ b) ∧ ∀ p ∈ X.pn ++ pins, p.1 ≠ b
theorem Inv.fpOk {X : Cx} {pins : List (Addr × Obj)} {σ : St} {H H' : Hp} {s : Shared} {b : Addr} (I : Inv X pins σ H s) (hb : s.heap.objs.size ≤ b) (hn : H' b = none) : FpOk X pins H' b := by
  refine ⟨hn, Nat.ne_of_gt (Nat.lt_of_lt_of_le I.lt hb), I.nofs hb, .inr (Nat.le_trans I.sz hb), fun x c e z => ?_, fun p hp z => ?_⟩
  · obtain ⟨v, q⟩ := I.cell x c e
    exact absurd (Nat.lt_of_lt_of_le q.lt (by rw [z]; exact hb)) (Nat.lt_irrefl _)
  · exact absurd (Nat.lt_of_lt_of_le (Heap.lt_size (I.pin p hp).1) (by rw [z]; exact hb)) (Nat.lt_irrefl _)
structure Turn (P : Program) (w : World) (K : PySem.W.Frag) (tg : Expr) (J : It) (fp : List Addr) (it : Addr) (tn : Nat → Heap → Prop) : Prop where
  mem : it ∈ fp
  obj : ∀ i h, tn i h → ∀ b ∈ fp, ∃ o, h.get? b = some o ∧ ∀ v, o.data ≠ .cell v
  keep : ∀ i h h', tn i h → (∀ b ∈ fp, ∀ o, h.get? b = some o → h'.get? b = some o) → tn i h'
  item : ∀ (X : Cx), X.prog = P → X.w = w → X.K = K → X.calm = true → ∀ (i : Nat) (pins : List (Addr × Obj)) (s : Shared) (σ : St) (H : Hp) (E : Value → Shared → Prop), Inv X pins σ H s → (∀ b ∈ fp, FpOk X pins H b) → tn i s.heap → J.go i H →
    wpAny (model P w) X.A (pyNext (.ref it)) (fun r s1 => ∃ u, r = some u ∧
      wpAny (model P w) X.A (letOwnedTupleGo tg (.ref it) u) (fun _ s2 => ∃ x H', Inv X pins σ H' s2 ∧ RelV x u ∧ J.yld i H x H' ∧ tn (i + 1) s2.heap ∧ ∀ b ∈ fp, H' b = none) E s1) E s
  done : ∀ (X : Cx), X.prog = P → X.w = w → X.K = K → X.calm = true → ∀ (i : Nat) (pins : List (Addr × Obj)) (s : Shared) (σ : St) (H : Hp) (E : Value → Shared → Prop), Inv X pins σ H s → (∀ b ∈ fp, FpOk X pins H b) → tn i s.heap → J.stop i H →
    wpAny (model P w) X.A (pyNext (.ref it)) (fun r s1 => r = none ∧ Inv X pins σ H s1) E s
  self : ∀ (A : Around) (i : Nat) (s : Shared) (Q : Value → Shared → Prop) (E : Value → Shared → Prop), tn i s.heap → Q (.ref it) s → wpAny (model P w) A (pyIter (.ref it)) Q E s
abbrev TI := St → Hp → (It → Hp → Prop) → Prop

def PIE (X : Cx) (pins : List (Addr × Obj)) (σ : St) (tg : Expr) (R : It → Hp → Prop) (itv : Value) (s2 : Shared) : Prop :=
  ∃ (it : Addr) (fp : List Addr) (tn : Nat → Heap → Prop) (J : It) (H' : Hp), itv = .ref it ∧ Inv X pins σ H' s2 ∧ Turn X.prog X.w X.K tg J fp it tn ∧ tn 0 s2.heap ∧ (∀ b ∈ fp, FpOk X pins H' b) ∧ R J H'
structure PI (X : Cx) (tg iter : Expr) (wi : TI) : Prop where
  out :
    ∀ (pins : List (Addr × Obj)) (s : Shared) (σ : St) (H : Hp) (R : It → Hp → Prop), Inv X pins σ H s → wi σ H R →
      wpAny (model X.prog X.w) X.A (eval iter X.env) (fun v s1 => wpAny (model X.prog X.w) X.A (pyIter v) (PIE X pins σ tg R) X.xe s1) X.xe s
instance {X : Cx} {tg iter : Expr} {wi : TI} : CoeFun (PI X tg iter wi) fun _ =>
  ∀ (pins : List (Addr × Obj)) (s : Shared) (σ : St) (H : Hp) (R : It → Hp → Prop), Inv X pins σ H s → wi σ H R →
    wpAny (model X.prog X.w) X.A (eval iter X.env) (fun v s1 => wpAny (model X.prog X.w) X.A (pyIter v) (PIE X pins σ tg R) X.xe s1) X.xe s := ⟨PI.out⟩

theorem go_of {M : Model} {A : Around} {E : Value → Shared → Prop} {s : Shared} {tg : Expr} {it : Addr} {u : Value} {o : Obj} {n : String} {vs : Array Value} {Q : Unit → Shared → Prop} (ho : s.heap.get? it = some o) (hc : o.cls = .type n) (hd : o.data = .fields vs)
    (hn : ["enumerate", "zip", "dict_itemiterator", "dict_reverseitemiterator", "odict_iterator", "itertools.zip_longest", "itertools.pairwise"].contains n = false) (hQ : Q () s) : wpAny M A (letOwnedTupleGo tg (.ref it) u) Q E s := by
  unfold letOwnedTupleGo
  cases tg <;> first
    | exact wpAny_pure hQ
    | (cases u <;> first
        | exact wpAny_pure hQ
        | (refine wpAny_bind (wpAny_load ho ?_)
           rw [hc, hd]
           show wpAny M A (if (["enumerate", "zip", "dict_itemiterator", "dict_reverseitemiterator", "odict_iterator", "itertools.zip_longest", "itertools.pairwise"].contains n && vs[0]? == some (rawInt _)) = true then _ else _) Q E s
           rw [if_neg (by intro h; rw [hn, Bool.false_and] at h; cases h)]
           exact wpAny_pure hQ))

def Itl (K : PySem.W.Frag) (a : Addr) : It :=
  ⟨fun i H => ∃ xs x, SqL K H a xs ∧ xs[i]? = some x, fun i H x H' => H' = H ∧ ∀ xs, SqL K H a xs → xs[i]? = some x, fun i H => ∃ xs, SqL K H a xs ∧ xs.length ≤ i⟩
def Itt (K : PySem.W.Frag) (a : Addr) : It :=
  ⟨fun i H => ∃ xs x, SqT K H a xs ∧ xs[i]? = some x, fun i H x H' => H' = H ∧ ∀ xs, SqT K H a xs → xs[i]? = some x, fun i H => ∃ xs, SqT K H a xs ∧ xs.length ≤ i⟩

def Itr (lo : Int) (n : Nat) : It := ⟨fun i _ => i < n, fun i H x H' => H' = H ∧ x = .int (lo + i), fun i _ => n ≤ i⟩
theorem turn_list {P : Program} {w : World} {K : PySem.W.Frag} {tg : Expr} (a it : Addr) : Turn P w K tg (Itl K a) [it] it (fun i h => h.IsListIter it a i) where
  mem := by simp
  obj := fun i h st b hb => by
    have e : b = it := by simpa using hb
    subst e
    obtain ⟨o, e, c, d⟩ := st
    exact ⟨o, e, fun v z => by rw [d] at z; cases z⟩
  keep := fun i h h' st k => st.at fun o e => k it (by simp) o e
  item := by
    intro X hP hw hK hc i pins s σ H E I hf st hg
    subst hP hw hK
    obtain ⟨xs, x, hq, hx⟩ := hg
    obtain ⟨its, rv, p, hz⟩ := I.list hq
    obtain ⟨u, hu, ru⟩ := rv.get hx
    obtain ⟨f0, f1, f2, f3, f4, f5⟩ := hf it (by simp)
    refine wpAny_pyNext_list_item st p.isList (x := u) (by simpa using hu) fun h' st' sb => ?_
    have I1 : Inv X pins σ H { s with heap := h' } := I.turned (t' := s.toks) (fun b o hb e => (sb.2 b hb).trans e) f0 f1 f3 f4 f5
    obtain ⟨o, e, c, d⟩ := id st'
    exact ⟨u, rfl, go_of (s := { s with heap := h' }) e c d (by decide) ⟨x, H, I1, ru, ⟨rfl, fun ys hy => by rw [I.list_inj hy hq]; exact hx⟩, st', fun b hb => (hf b hb).1⟩⟩
  done := by
    intro X hP hw hK hc i pins s σ H E I hf st hg
    subst hP hw hK
    obtain ⟨xs, hq, hx⟩ := hg
    obtain ⟨its, rv, p, hz⟩ := I.list hq
    obtain ⟨f0, f1, f2, f3, f4, f5⟩ := hf it (by simp)
    have hl := rv.length
    exact wpAny_pyNext_list_end (I.ok.hd hc) st p.isList (by simp; omega) fun h' eb => ⟨rfl, I.turned (t' := s.toks) (fun b o hb e => eb b o hb e) f0 f1 f3 f4 f5⟩
  self := fun _ _ _ _ _ st h => wpAny_pyIter_listiter st h
theorem turn_tuple {P : Program} {w : World} {K : PySem.W.Frag} {tg : Expr} (a it : Addr) : Turn P w K tg (Itt K a) [it] it (fun i h => h.IsTupleIter it a i) where
  mem := by simp
  obj := fun i h st b hb => by
    have e : b = it := by simpa using hb
    subst e
    obtain ⟨o, e, c, d⟩ := st
    exact ⟨o, e, fun v z => by rw [d] at z; cases z⟩
  keep := fun i h h' st k => st.at fun o e => k it (by simp) o e
  item := by
    intro X hP hw hK hc i pins s σ H E I hf st hg
    subst hP hw hK
    obtain ⟨xs, x, hq, hx⟩ := hg
    obtain ⟨its, rv, p, hz⟩ := I.tuple hq
    obtain ⟨u, hu, ru⟩ := rv.get hx
    obtain ⟨f0, f1, f2, f3, f4, f5⟩ := hf it (by simp)
    refine wpAny_pyNext_tuple_item st (show s.heap.IsTuple a its.toArray from p) (x := u) (by simpa using hu) fun h' st' sb => ?_
    have I1 : Inv X pins σ H { s with heap := h' } := I.turned (t' := s.toks) (fun b o hb e => (sb.2 b hb).trans e) f0 f1 f3 f4 f5
    obtain ⟨o, e, c, d⟩ := id st'
    exact ⟨u, rfl, go_of (s := { s with heap := h' }) e c d (by decide) ⟨x, H, I1, ru, ⟨rfl, fun ys hy => by rw [I.tuple_inj hy hq]; exact hx⟩, st', fun b hb => (hf b hb).1⟩⟩
  done := by
    intro X hP hw hK hc i pins s σ H E I hf st hg
    subst hP hw hK
    obtain ⟨xs, hq, hx⟩ := hg
    obtain ⟨its, rv, p, hz⟩ := I.tuple hq
    obtain ⟨f0, f1, f2, f3, f4, f5⟩ := hf it (by simp)
    have hl := rv.length
    exact wpAny_pyNext_tuple_end (I.ok.hd hc) st (show s.heap.IsTuple a its.toArray from p) (by simp; omega) fun h' eb => ⟨rfl, I.turned (t' := s.toks) (fun b o hb e => eb b o hb e) f0 f1 f3 f4 f5⟩
  self := fun _ _ _ _ _ st h => wpAny_pyIter_tupleiter st h
theorem turn_range {P : Program} {w : World} {K : PySem.W.Frag} {tg : Expr} (it : Addr) (lo : Int) (n : Nat) : Turn P w K tg (Itr lo n) [it] it (fun i h => IsRangeIter h it (lo + (i : Nat) * 1) ((n : Int) - (i : Nat)) 1) where
  mem := by simp
  obj := fun i h st b hb => by
    have e : b = it := by simpa using hb
    subst e
    exact ⟨_, st, fun v z => by
      have z' : Data.fields _ = Data.cell v := z
      cases z'⟩
  keep := fun i h h' st k => k it (by simp) _ st
  item := by
    intro X hP hw hK hc i pins s σ H E I hf st hg
    subst hP hw hK
    obtain ⟨f0, f1, f2, f3, f4, f5⟩ := hf it (by simp)
    have W := Walks.range (prog := X.prog) (w := X.w) (I.ok.hd hc) it lo 1 n
    refine W.item i s _ _ hg st fun v h' tk hv st' kk => ?_
    obtain ⟨t, rfl⟩ := hv
    have I1 : Inv X pins σ H { s with heap := h', toks := tk } := I.turned (fun b o hb e => kk b o (by simpa using hb) e) f0 f1 f3 f4 f5
    refine ⟨_, rfl, go_of (s := { s with heap := h', toks := tk }) (n := "range_iterator") st' rfl rfl (by decide) ⟨.int (lo + i), H, I1, ⟨t, ?_⟩, ⟨rfl, rfl⟩, st', fun b hb => (hf b hb).1⟩⟩
    rw [Int.mul_one]
  done := by
    intro X hP hw hK hc i pins s σ H E I hf st hg
    subst hP hw hK
    obtain ⟨f0, f1, f2, f3, f4, f5⟩ := hf it (by simp)
    exact wpAny_pyNext_range_end (I.ok.hd hc) st (by have : n ≤ i := hg; omega) fun h' eb => ⟨rfl, I.turned (t' := s.toks) (fun b o hb e => eb b o hb e) f0 f1 f3 f4 f5⟩
  self := fun _ _ _ _ _ st h => wpAny_pyIter_rangeiter st h
end L2

namespace L2
open PySem PySem.Spec PyProof.Rows
section
variable {X : Cx} {tg : Expr}
theorem range_it {pins : List (Addr × Obj)} {σ : St} {H : Hp} {s : Shared} {R : It → Hp → Prop} {E : Value → Shared → Prop} {lo hi : Int} {t u v : Tok} {tk : Nat} (I : Inv X pins σ H s) (h1 : -(2 ^ 62) ≤ lo) (h2 : lo < 2 ^ 62) (h3 : -(2 ^ 62) ≤ hi) (h4 : hi < 2 ^ 62)
    (q : R (Itr lo (hi - lo).toNat) H) : wpAny (model X.prog X.w) X.A (pyIter (.ref s.heap.objs.size)) (PIE X pins σ tg R) E { s with heap := s.heap.push { cls := .type "range", data := .fields #[.int lo t, .int hi u, .int 1 v] }, toks := tk } := by
  refine wpAny_pyIter_range (IsRange.new ..) (small_one h1 h2 h3 h4) ?_
  have I1 : Inv X pins σ H { s with heap := s.heap.push { cls := .type "range", data := .fields #[.int lo t, .int hi u, .int 1 v] }, toks := tk } := I.kept fun b o e => Heap.get?_push_of_some _ e
  refine ⟨(s.heap.push { cls := .type "range", data := .fields #[.int lo t, .int hi u, .int 1 v] }).objs.size, [(s.heap.push { cls := .type "range", data := .fields #[.int lo t, .int hi u, .int 1 v] }).objs.size], _, _, H, rfl,
    I1.kept (t' := tk) fun b o e => Heap.get?_push_of_some _ e, turn_range _ lo (hi - lo).toNat, ?_, fun b hb => ?_, q⟩
  · have e1 : lo + ((0 : Nat) : Int) * 1 = lo := by simp
    have e2 : (((hi - lo).toNat : Nat) : Int) - ((0 : Nat) : Int) = Builtin.Range.rangeSize lo hi 1 := by rw [rangeSize_one]; split <;> omega
    show IsRangeIter _ _ (lo + ((0 : Nat) : Int) * 1) ((((hi - lo).toNat : Nat) : Int) - ((0 : Nat) : Int)) 1
    rw [e1, e2]
    exact Heap.get?_push_size _ rfl
  · have e : b = (s.heap.push { cls := .type "range", data := .fields #[.int lo t, .int hi u, .int 1 v] }).objs.size := by simpa using hb
    subst e
    exact I1.fpOk (Nat.le_refl _) (I1.hok.fresh (Nat.le_refl _))
def iRng1 (ta : TA) : TI := fun σ H R => ta σ H fun vs H1 => ∃ j : Int, vs = [.int j] ∧ -(2 ^ 62) ≤ j ∧ j < 2 ^ 62 ∧ R (Itr 0 j.toNat) H1
theorem pi_range1 {a : Expr} {ta : TA} {p pos : Pos} (hg : Gl X "range") (hm : X.mg "range" = none) (ha : PA X [a] ta) (hs : starEach [a] X.env = [(false, eval a X.env)] := by rfl) : PI X tg (.Call (.Name "range" p) [a] [] pos) (iRng1 ta) := by
  refine ⟨?_⟩
  intro pins s σ H R I h
  refine Call_ (ld_blt I hg hm boot_range (PyProof.Rows.callWith_type1 (thn (ha pos pins s σ H _ I h) fun us s1 ⟨vs, H1, I1, r1, q1⟩ => ?_) hs rfl))
  obtain ⟨j, e, q1, q2, q⟩ := q1
  subst e
  cases r1 with
  | cons r rr =>
    cases rr
    obtain ⟨t, rfl⟩ := r
    exact call_range_1 (range_it I1 (by omega) (by omega) q1 q2 (by simpa using q))
def tFor (wi : TI) (g : TG) (tb : TS) : TS := fun D σ H => wi σ H fun J H1 => ∃ W : Nat → Nat → St → Hp → Prop, (∃ m, W 0 m σ H1) ∧ ∀ i m σ H, W i m σ H →
  (J.stop i H ∧ D.nx σ H) ∨ (J.go i H ∧ ∃ N : St → Hp → Prop, (∀ σ' H', N σ' H' → ∃ m', m' < m ∧ W (i + 1) m' σ' H') ∧ ∀ x H', J.yld i H x H' → g x σ H' fun σ2 H2 => tb { D with nx := N, ct := N, bk := D.nx } σ2 H2)

def pinsAt (fp : List Addr) (h : Heap) : List (Addr × Obj) := fp.filterMap fun b => (h.get? b).map fun o => (b, o)
theorem mem_pinsAt {fp : List Addr} {h : Heap} {b : Addr} {o : Obj} (hb : b ∈ fp) (e : h.get? b = some o) : (b, o) ∈ pinsAt fp h := List.mem_filterMap.mpr ⟨b, hb, by rw [e]; rfl⟩
theorem of_pinsAt {fp : List Addr} {h : Heap} {p : Addr × Obj} (hp : p ∈ pinsAt fp h) : p.1 ∈ fp ∧ h.get? p.1 = some p.2 := by
  obtain ⟨b, hb, e⟩ := List.mem_filterMap.mp hp
  cases q : h.get? b with
  | none => rw [q] at e; cases e
  | some o =>
    rw [q] at e
    have e' : (b, o) = p := Option.some.inj e
    subst e'
    exact ⟨hb, q⟩
theorem Inv.pinned {pins : List (Addr × Obj)} {σ : St} {H : Hp} {s : Shared} {fp : List Addr} (I : Inv X pins σ H s) (hf : ∀ b ∈ fp, FpOk X pins H b) (ho : ∀ b ∈ fp, ∃ o, s.heap.get? b = some o ∧ ∀ v, o.data ≠ .cell v) : Inv X (pins ++ pinsAt fp s.heap) σ H s :=
  I.pins_of fun p hp => (List.mem_append.mp hp).elim (fun z => I.pin p (List.mem_append_right _ z)) fun z => by
    obtain ⟨hb, e⟩ := of_pinsAt z
    obtain ⟨f0, f1, f2, _⟩ := hf p.1 hb
    obtain ⟨o, e', d⟩ := ho p.1 hb
    rw [e] at e'; cases e'
    exact ⟨e, f0, f1, f2, d⟩
theorem Inv.unpinned {pins pl : List (Addr × Obj)} {σ : St} {H : Hp} {s : Shared} (I : Inv X (pins ++ pl) σ H s) : Inv X pins σ H s := I.pins_of fun p hp => I.pin p (List.mem_append_right _ (List.mem_append_left _ hp))
theorem ps_for {iter : Expr} {body : List Stmt} {wi : TI} {g : TG} {tb : TS} {pos : Pos} (hp : PassesOwn (model X.prog X.w) X.A X.env X.xe) (hc : X.calm = true) (hi : PI X tg iter wi) (hg : PG X tg g) (hb : PSs X body tb)
    (hs : ∀ x, foldedSetIterable iter X.env x = pure x := by intro _; rfl) : PS X (.For tg iter body [] pos) (tFor wi g tb) := by
  refine ⟨?_⟩
  intro pins s σ H D I h
  refine wpAny_For (thn (hi pins s σ H _ I h) fun v s1 h1 => thn h1 fun itv s2 h2 => ?_) hs
  obtain ⟨it, fp, tn, J, H2, e, I2, T, st2, f2, W, ⟨m0, w0⟩, turn⟩ := h2
  subst e

  have stat : ∀ {H' : Hp}, (∀ b ∈ fp, H' b = none) → ∀ b ∈ fp, FpOk X pins H' b := fun hn b hb => ⟨hn b hb, (f2 b hb).2⟩
  refine codeAny_forLoop_any (fun n s' => ∃ i σ' H', Inv X pins σ' H' s' ∧ tn i s'.heap ∧ (∀ b ∈ fp, H' b = none) ∧ W i n σ' H') ?_ m0 ⟨0, σ, H2, I2, st2, fun b hb => (f2 b hb).1, w0⟩
  rintro n s3 ⟨i, σ3, H3, I3, st3, fr3, w3⟩
  rcases turn i n σ3 H3 w3 with ⟨stop, qn⟩ | ⟨go, N, hN, step⟩
  · refine wpAny_passesOwn hp (thn (T.done X rfl rfl rfl hc i pins s3 σ3 H3 X.xe I3 (stat fr3) st3 stop) fun r s4 ⟨hr, I4⟩ => ?_)
    subst hr
    exact wpAny_execs_nil ⟨σ3, H3, I4, qn⟩
  · refine wpAny_passesOwn hp (thn (T.item X rfl rfl rfl hc i pins s3 σ3 H3 X.xe I3 (stat fr3) st3 go) fun r s4 ⟨u, hr, h4⟩ => ?_)
    subst hr
    refine wpAny_passesOwn hp (thn h4 fun _ s5 ⟨x, H5, I5, r5, y5, st5, fr5⟩ => ?_)
    have I5' := I5.pinned (stat fr5) (T.obj _ _ st5)
    refine wpAny_passesOwn hp (thn (hg _ s5 σ3 H5 x u _ I5' r5 (step x H5 y5)) fun _ s6 ⟨σ6, H6, I6, q6⟩ => ?_)
    refine wpAny_passesOwn hp (thn (hb _ s6 σ6 H6 _ I6 q6) fun f s7 q7 => ?_)
    have again : ∀ {σ7 : St} {H7 : Hp}, Inv X (pins ++ pinsAt fp s5.heap) σ7 H7 s7 → N σ7 H7 → ∃ m, m < n ∧ ∃ i σ' H', Inv X pins σ' H' s7 ∧ tn i s7.heap ∧ (∀ b ∈ fp, H' b = none) ∧ W i m σ' H' := fun {σ7 H7} I7 n7 => by
      obtain ⟨m', hm, w7⟩ := hN σ7 H7 n7
      refine ⟨m', hm, i + 1, σ7, H7, I7.unpinned, T.keep _ _ _ st5 fun b hb o e => (I7.pin (b, o) (List.mem_append_right _ (List.mem_append_right _ (mem_pinsAt hb e)))).1, fun b hb => ?_, w7⟩
      obtain ⟨o, e, d⟩ := T.obj _ _ st5 b hb
      exact (I7.pin (b, o) (List.mem_append_right _ (List.mem_append_right _ (mem_pinsAt hb e)))).2.1
    cases f with
    | next => obtain ⟨σ7, H7, I7, n7⟩ := q7; exact again I7 n7
    | cont => obtain ⟨σ7, H7, I7, n7⟩ := q7; exact again I7 n7
    | brk => obtain ⟨σ7, H7, I7, q7⟩ := q7; exact ⟨σ7, H7, I7.unpinned, q7⟩
    | ret v => obtain ⟨x7, σ7, H7, I7, r7, q7⟩ := q7; exact ⟨x7, σ7, H7, I7.unpinned, r7, q7⟩
end

theorem for_list {K : PySem.W.Frag} {a : Addr} {xs : List V} {g : TG} {tb : TS} {D : Ends} {σ : St} {H : Hp} (Pv : Nat → St → Hp → Prop) (h0 : Pv 0 σ H) (hl : ∀ i σ H, i ≤ xs.length → Pv i σ H → SqL K H a xs)
    (hs : ∀ i x σ H, xs[i]? = some x → Pv i σ H → g x σ H fun σ2 H2 => tb { D with nx := Pv (i + 1), ct := Pv (i + 1), bk := D.nx } σ2 H2) (hd : ∀ σ H, Pv xs.length σ H → D.nx σ H) :
    ∃ W : Nat → Nat → St → Hp → Prop, (∃ m, W 0 m σ H) ∧ ∀ i m σ H, W i m σ H →
      ((Itl K a).stop i H ∧ D.nx σ H) ∨ ((Itl K a).go i H ∧ ∃ N : St → Hp → Prop, (∀ σ' H', N σ' H' → ∃ m', m' < m ∧ W (i + 1) m' σ' H') ∧ ∀ x H', (Itl K a).yld i H x H' → g x σ H' fun σ2 H2 => tb { D with nx := N, ct := N, bk := D.nx } σ2 H2) := by
  refine ⟨fun i m σ H => m = xs.length - i ∧ i ≤ xs.length ∧ Pv i σ H, ⟨xs.length, by simp, Nat.zero_le _, h0⟩, ?_⟩
  rintro i m σ H ⟨rfl, hi, p⟩
  have q := hl i σ H hi p
  by_cases hlt : i < xs.length
  · refine .inr ⟨⟨xs, xs[i], q, by simp [hlt]⟩, Pv (i + 1), fun σ' H' p' => ⟨xs.length - (i + 1), by omega, rfl, hlt, p'⟩, fun x H' y => ?_⟩
    obtain ⟨e, y⟩ := y
    subst e
    exact hs i x σ _ (y xs q) p
  · have e : i = xs.length := by omega
    subst e
    exact .inl ⟨⟨xs, q, Nat.le_refl _⟩, hd σ H p⟩
theorem for_range {lo : Int} {n : Nat} {g : TG} {tb : TS} {D : Ends} {σ : St} {H : Hp} (Pv : Nat → St → Hp → Prop) (h0 : Pv 0 σ H)
    (hs : ∀ i σ H, i < n → Pv i σ H → g (.int (lo + i)) σ H fun σ2 H2 => tb { D with nx := Pv (i + 1), ct := Pv (i + 1), bk := D.nx } σ2 H2) (hd : ∀ σ H, Pv n σ H → D.nx σ H) :
    ∃ W : Nat → Nat → St → Hp → Prop, (∃ m, W 0 m σ H) ∧ ∀ i m σ H, W i m σ H →
      ((Itr lo n).stop i H ∧ D.nx σ H) ∨ ((Itr lo n).go i H ∧ ∃ N : St → Hp → Prop, (∀ σ' H', N σ' H' → ∃ m', m' < m ∧ W (i + 1) m' σ' H') ∧ ∀ x H', (Itr lo n).yld i H x H' → g x σ H' fun σ2 H2 => tb { D with nx := N, ct := N, bk := D.nx } σ2 H2) := by
  refine ⟨fun i m σ H => m = n - i ∧ i ≤ n ∧ Pv i σ H, ⟨n, by simp, Nat.zero_le _, h0⟩, ?_⟩
  rintro i m σ H ⟨rfl, hi, p⟩
  by_cases hlt : i < n
  · refine .inr ⟨hlt, Pv (i + 1), fun σ' H' p' => ⟨n - (i + 1), by omega, rfl, hlt, p'⟩, fun x H' y => ?_⟩
    obtain ⟨e, y⟩ := y
    subst e y
    exact hs i σ _ hlt p
  · have e : i = n := by omega
    subst e
    exact .inl ⟨Nat.le_refl _, hd σ H p⟩

end L2

namespace L2
open PySem PySem.Spec PyProof.Rows

abbrev R2 := V → V → Hp → VK → Prop

def OpR (X : Cx) (f : Value → Value → Sem Value) (r : R2) : Prop :=
  ∀ (pins : List (Addr × Obj)) (s : Shared) (σ : St) (H : Hp) (x y : V) (v u : Value) (Q : VK), Inv X pins σ H s → RelV x v → RelV y u → r x y H Q →
    wpAny (model X.prog X.w) X.A (f v u) (EP X pins σ Q) X.xe s

def CallR (X : Cx) (f : Value) (r : List V → Hp → VK → Prop) : Prop :=
  ∀ (pins : List (Addr × Obj)) (s : Shared) (σ : St) (H : Hp) (xs : List V) (us : List Value) (Q : VK), Inv X pins σ H s → Vals xs us → r xs H Q →
    wpAny (model X.prog X.w) X.A (call f us) (EP X pins σ Q) X.xe s

def TruR (X : Cx) (r : V → Hp → (Bool → Hp → Prop) → Prop) : Prop :=
  ∀ (pins : List (Addr × Obj)) (s : Shared) (σ : St) (H : Hp) (x : V) (v : Value) (Q : Bool → Hp → Prop), Inv X pins σ H s → RelV x v → r x H Q →
    wpAny (model X.prog X.w) X.A (truthy v) (TP X pins σ Q) X.xe s

def tOp (r : R2) (ta tb : TE) : TE := fun σ H Q => ta σ H fun x H1 => tb σ H1 fun y H2 => r x y H2 Q
def rI (C : Int → Int → Prop) (g : Int → Int → V) : R2 := fun x y H Q => ∃ i j, x = .int i ∧ y = .int j ∧ C i j ∧ Q (g i j) H
def rI0 (g : Int → Int → V) : R2 := fun x y H Q => ∃ i j, x = .int i ∧ y = .int j ∧ Q (g i j) H
section
variable {X : Cx} {a b c : Expr} {ta tb tc : TE} {pos : Pos}

theorem binT (ha : PE X a ta) (hb : PE X b tb) {pins : List (Addr × Obj)} {s : Shared} {σ : St} {H : Hp} {R : V → V → Hp → Prop} (I : Inv X pins σ H s)
    (h : ta σ H fun x H1 => tb σ H1 fun y H2 => R x y H2) {Q : Value → Shared → Prop} {f : Value → Value → Sem Value}
    (hf : ∀ v u s2 x y H2, Inv X pins σ H2 s2 → RelV x v → RelV y u → R x y H2 → wpAny (model X.prog X.w) X.A (f v u) Q X.xe s2) :
    wpAny (model X.prog X.w) X.A (eval a X.env) (fun v s₁ => wpAny (model X.prog X.w) X.A (eval b X.env) (fun u s₂ => wpAny (model X.prog X.w) X.A (f v u) Q X.xe s₂) X.xe s₁) X.xe s := by
  refine thn (ha pins s σ H _ I h) fun v s1 ⟨x, H1, I1, r1, q1⟩ => ?_
  refine thn (hb pins s1 σ H1 _ I1 q1) fun u s2 ⟨y, H2, I2, r2, q2⟩ => ?_
  exact hf v u s2 x y H2 I2 r1 r2 q2

theorem pe_op {op : Operator} {r : R2} (ho : OpR X (binaryOp op) r) (ha : PE X a ta) (hb : PE X b tb) : PE X (.BinOp a op b pos) (tOp r ta tb) := by
  refine ⟨?_⟩
  intro pins s σ H Q I h
  exact wpAny_BinOp (binT ha hb I h fun v u s2 x y H2 I2 rx ry q => ho pins s2 σ H2 x y v u Q I2 rx ry q)
theorem opI {f : Value → Value → Sem Value} {C : Int → Int → Prop} {g : Int → Int → Int}
    (rule : ∀ (i j : Int) (t u : Tok) (s : Shared) (Q : Value → Shared → Prop) (E : Value → Shared → Prop), C i j → Q (.int (g i j) s.toks) { s with toks := s.toks + 1 } → wpAny (model X.prog X.w) X.A (f (.int i t) (.int j u)) Q E s) :
    OpR X f (rI C fun i j => .int (g i j)) := by
  intro pins s σ H x y v u Q I rx ry h
  obtain ⟨i, j, rfl, rfl, hc, q⟩ := h
  obtain ⟨t, rfl⟩ := rx
  obtain ⟨t', rfl⟩ := ry
  exact rule i j t t' s _ _ hc ⟨.int (g i j), H, I.tok _, ⟨_, rfl⟩, q⟩
theorem opI0 {f : Value → Value → Sem Value} {g : Int → Int → Int}
    (rule : ∀ (i j : Int) (t u : Tok) (s : Shared) (Q : Value → Shared → Prop) (E : Value → Shared → Prop), Q (.int (g i j) s.toks) { s with toks := s.toks + 1 } → wpAny (model X.prog X.w) X.A (f (.int i t) (.int j u)) Q E s) :
    OpR X f (rI0 fun i j => .int (g i j)) := by
  intro pins s σ H x y v u Q I rx ry h
  obtain ⟨i, j, rfl, rfl, q⟩ := h
  obtain ⟨t, rfl⟩ := rx
  obtain ⟨t', rfl⟩ := ry
  exact rule i j t t' s _ _ ⟨.int (g i j), H, I.tok _, ⟨_, rfl⟩, q⟩
theorem opB0 {f : Value → Value → Sem Value} {g : Int → Int → Bool}
    (rule : ∀ (i j : Int) (t u : Tok) (s : Shared) (Q : Value → Shared → Prop) (E : Value → Shared → Prop), Q (.bool (g i j)) s → wpAny (model X.prog X.w) X.A (f (.int i t) (.int j u)) Q E s) :
    OpR X f (rI0 fun i j => .bl (g i j)) := by
  intro pins s σ H x y v u Q I rx ry h
  obtain ⟨i, j, rfl, rfl, q⟩ := h
  obtain ⟨t, rfl⟩ := rx
  obtain ⟨t', rfl⟩ := ry
  exact rule i j t t' s _ _ ⟨.bl (g i j), H, I, rfl, q⟩

def CPow (i j : Int) : Prop := 0 ≤ j ∧ j ≤ 1000000 ∧ i.natAbs < 2 ^ 64
def CMul (i j : Int) : Prop := (-(2 ^ 64) < i ∧ i < 2 ^ 64) ∨ (-(2 ^ 64) < j ∧ j < 2 ^ 64)
theorem CMul.ok {i j : Int} (h : CMul i j) : IntMulOk i j := by
  rcases h with ⟨h1, h2⟩ | ⟨h1, h2⟩
  · exact .of_left (intBits_le_64 h1 h2)
  · exact .of_right (intBits_le_64 h1 h2)
theorem op_add : OpR X (binaryOp .Add) (rI0 fun i j => .int (i + j)) := opI0 fun _ _ _ _ _ _ _ q => add_int q
theorem op_sub : OpR X (binaryOp .Sub) (rI0 fun i j => .int (i - j)) := opI0 fun _ _ _ _ _ _ _ q => sub_int q
theorem op_mul : OpR X (binaryOp .Mult) (rI CMul fun i j => .int (i * j)) := opI fun _ _ _ _ _ _ _ hc q => mul_int q hc.ok

theorem op_mod : OpR X (binaryOp .Mod) (rI (fun _ j => 0 < j) fun i j => .int (i % j)) := opI fun i j _ _ _ _ _ hc q => by
  have h1 : (0 : Int) < j := hc
  exact mod_int' (by omega) (by rw [Int.fmod_eq_emod_of_nonneg i (by omega)]; exact q)
theorem op_pow : OpR X (binaryOp .Pow) (rI CPow fun i j => .int (i ^ j.toNat)) := opI fun _ _ _ _ _ _ _ hc q => pow_int_small hc.1 hc.2.1 hc.2.2 q
end

def scal : V → V → Bool
  | .non, .non => true | .non, .int _ => true | .int _, .non => true | .non, .bl _ => true | .bl _, .non => true | .non, .str _ => true | .str _, .non => true
  | .int _, .int _ => true | .bl _, .bl _ => true | .str _, .str _ => true | .byt _, .byt _ => true
  | .int _, .str _ => true | .str _, .int _ => true | .bl _, .str _ => true | .str _, .bl _ => true
  | _, _ => false
def rEq : R2 := fun x y H Q => scal x y = true ∧ Q (.bl (decide (x = y))) H
def rNe : R2 := fun x y H Q => scal x y = true ∧ Q (.bl (!decide (x = y))) H

theorem dec_int {i j : Int} : decide (V.int i = V.int j) = (i == j) := by
  rw [Bool.eq_iff_iff]
  simp
theorem dec_bl {i j : Bool} : decide (V.bl i = V.bl j) = (i == j) := by
  rw [Bool.eq_iff_iff]
  simp
theorem dec_str {i j : Str} : decide (V.str i = V.str j) = (i == j) := by
  rw [Bool.eq_iff_iff]
  simp
theorem dec_byt {i j : Array UInt8} : decide (V.byt i = V.byt j) = (i.toList == j.toList) := by
  rw [Bool.eq_iff_iff]
  cases i
  cases j
  simp

section
variable {X : Cx} {a b c : Expr} {ta tb tc : TE} {pos : Pos}
theorem fin_bl {pins : List (Addr × Obj)} {σ : St} {H : Hp} {s : Shared} {Q : VK} {k k' : Bool} (I : Inv X pins σ H s) (q : Q (.bl k) H) (e : k = k') : EP X pins σ Q (.bool k') s := by
  subst e
  exact ⟨.bl k, H, I, rfl, q⟩
theorem op_eq : OpR X (compareOp .Eq) rEq := by
  intro pins s σ H x y v u Q I rx ry h
  obtain ⟨hs, q⟩ := h
  cases x with
  | non =>
    cases rx
    cases y with
    | non => cases ry; exact PySem.EqNone.eq_none_none (fin_bl I q (by simp))
    | bl j => cases ry; exact PySem.EqNone.eq_none_bool (fin_bl I q (by simp))
    | int j => obtain ⟨t', rfl⟩ := ry; exact PySem.EqNone.eq_none_int (fin_bl I q (by simp))
    | str j => obtain ⟨t', rfl⟩ := ry; exact PySem.EqNone.eq_none_str (fin_bl I q (by simp))
    | _ => exact absurd (show false = true from hs) Bool.false_ne_true
  | bl i =>
    cases rx
    cases y with
    | non => cases ry; exact PySem.EqNone.eq_bool_none (fin_bl I q (by simp))
    | bl j => cases ry; exact eq_bool (fin_bl I q dec_bl)
    | str j => obtain ⟨t', rfl⟩ := ry; exact PySem.EqMixed.eq_bool_str (fin_bl I q (by simp))
    | _ => exact absurd (show false = true from hs) Bool.false_ne_true
  | int i =>
    obtain ⟨t, rfl⟩ := rx
    cases y with
    | non => cases ry; exact PySem.EqNone.eq_int_none (fin_bl I q (by simp))
    | int j => obtain ⟨t', rfl⟩ := ry; exact eq_int (fin_bl I q dec_int)
    | str j => obtain ⟨t', rfl⟩ := ry; exact PySem.EqMixed.eq_int_str (fin_bl I q (by simp))
    | _ => exact absurd (show false = true from hs) Bool.false_ne_true
  | str i =>
    obtain ⟨t, rfl⟩ := rx
    cases y with
    | non => cases ry; exact PySem.EqNone.eq_str_none (fin_bl I q (by simp))
    | bl j => cases ry; exact PySem.EqMixed.eq_str_bool (fin_bl I q (by simp))
    | int j => obtain ⟨t', rfl⟩ := ry; exact PySem.EqMixed.eq_str_int (fin_bl I q (by simp))
    | str j => obtain ⟨t', rfl⟩ := ry; exact eq_str (fin_bl I q dec_str)
    | _ => exact absurd (show false = true from hs) Bool.false_ne_true
  | byt i =>
    obtain ⟨t, rfl⟩ := rx
    cases y with
    | byt j => obtain ⟨t', rfl⟩ := ry; exact PySem.W.eq_bytes (fin_bl I q dec_byt)
    | _ => exact absurd (show false = true from hs) Bool.false_ne_true
  | _ => cases y <;> exact absurd (show false = true from hs) Bool.false_ne_true
theorem op_ne : OpR X (compareOp .NotEq) rNe := by
  intro pins s σ H x y v u Q I rx ry h
  obtain ⟨hs, q⟩ := h
  cases x with
  | non =>
    cases rx
    cases y with
    | non => cases ry; exact PySem.EqNone.ne_none_none (fin_bl I q (by simp))
    | bl j => cases ry; exact PySem.EqNone.ne_none_bool (fin_bl I q (by simp))
    | int j => obtain ⟨t', rfl⟩ := ry; exact PySem.EqNone.ne_none_int (fin_bl I q (by simp))
    | str j => obtain ⟨t', rfl⟩ := ry; exact PySem.EqNone.ne_none_str (fin_bl I q (by simp))
    | _ => exact absurd (show false = true from hs) Bool.false_ne_true
  | bl i =>
    cases rx
    cases y with
    | non => cases ry; exact PySem.EqNone.ne_bool_none (fin_bl I q (by simp))
    | bl j => cases ry; exact ne_bool (fin_bl I q (congrArg not dec_bl))
    | str j => obtain ⟨t', rfl⟩ := ry; exact PySem.EqMixed.ne_bool_str (fin_bl I q (by simp))
    | _ => exact absurd (show false = true from hs) Bool.false_ne_true
  | int i =>
    obtain ⟨t, rfl⟩ := rx
    cases y with
    | non => cases ry; exact PySem.EqNone.ne_int_none (fin_bl I q (by simp))
    | int j => obtain ⟨t', rfl⟩ := ry; exact ne_int (fin_bl I q (congrArg not dec_int))
    | str j => obtain ⟨t', rfl⟩ := ry; exact PySem.EqMixed.ne_int_str (fin_bl I q (by simp))
    | _ => exact absurd (show false = true from hs) Bool.false_ne_true
  | str i =>
    obtain ⟨t, rfl⟩ := rx
    cases y with
    | non => cases ry; exact PySem.EqNone.ne_str_none (fin_bl I q (by simp))
    | bl j => cases ry; exact PySem.EqMixed.ne_str_bool (fin_bl I q (by simp))
    | int j => obtain ⟨t', rfl⟩ := ry; exact PySem.EqMixed.ne_str_int (fin_bl I q (by simp))
    | str j => obtain ⟨t', rfl⟩ := ry; exact ne_str (fin_bl I q (congrArg not dec_str))
    | _ => exact absurd (show false = true from hs) Bool.false_ne_true
  | byt i =>
    obtain ⟨t, rfl⟩ := rx
    cases y with
    | byt j => obtain ⟨t', rfl⟩ := ry; exact PySem.W.ne_bytes (fin_bl I q (congrArg not dec_byt))
    | _ => exact absurd (show false = true from hs) Bool.false_ne_true
  | _ => cases y <;> exact absurd (show false = true from hs) Bool.false_ne_true

theorem op_lt : OpR X (compareOp .Lt) (rI0 fun i j => .bl (decide (i < j))) := opB0 fun _ _ _ _ _ _ _ q => lt_int q
theorem op_gt : OpR X (compareOp .Gt) (rI0 fun i j => .bl (decide (j < i))) := opB0 fun _ _ _ _ _ _ _ q => gt_int q
theorem nomark (b : Expr) {op : CmpOp} (h : op ≠ .In := by decide) (h2 : op ≠ .NotIn := by decide) : behindInMarks op b = false := by
  have e1 : (op == CmpOp.In) = false := by cases op <;> first | rfl | exact absurd rfl h
  have e2 : (op == CmpOp.NotIn) = false := by cases op <;> first | rfl | exact absurd rfl h2
  cases b <;> simp [behindInMarks, e1, e2]

theorem pe_cmpR {op : CmpOp} {r : R2} (ho : OpR X (compareOp op) r) (ha : PE X a ta) (hb : PE X b tb) (hm : behindInMarks op b = false) : PE X (.Compare a [op] [b] pos) (tOp r ta tb) := by
  refine ⟨?_⟩
  intro pins s σ H Q I h
  exact wpAny_Compare1 (binT ha hb I h fun v u s2 x y H2 I2 rx ry q => ho pins s2 σ H2 x y v u Q I2 rx ry q) hm

def tTest (t : TE) : TT := fun σ H Q => t σ H fun x H' => ∃ k, x = .bl k ∧ Q k H'
theorem pt_cmpR {op : CmpOp} {r : R2} (ho : OpR X (compareOp op) r) (ha : PE X a ta) (hb : PE X b tb) (hm : behindInMarks op b = false) : PT X (.Compare a [op] [b] pos) (tTest (tOp r ta tb)) := by
  refine ⟨?_⟩
  intro pins s σ H Q I h
  refine wpAny_isTrue_Compare1 (thn (ha pins s σ H _ I h) fun v s1 ⟨x, H1, I1, r1, q1⟩ => thn (hb pins s1 σ H1 _ I1 q1) fun u s2 ⟨y, H2, I2, r2, q2⟩ =>
    thn (ho pins s2 σ H2 x y v u _ I2 r1 r2 q2) fun c s3 ⟨z, H3, I3, r3, k, e, q3⟩ => ?_) hm
  subst e
  cases r3
  exact wpAny_truthy_bool ⟨H3, I3, q3⟩

def TruV (K : PySem.W.Frag) (x : V) (H : Hp) (k : Bool) : Prop :=
  match x with
  | .non => k = false
  | .bl b => k = b
  | .int i => k = (i != 0)
  | .str y => y.length ≤ sizeLine ∧ k = ((y.length : Int) != 0)
  | .byt y => y.size ≤ sizeLine ∧ k = ((y.size : Int) != 0)
  | .ref p => (∃ xs, SqL K H p xs ∧ k = !xs.isEmpty) ∨ (∃ xs, SqT K H p xs ∧ k = !xs.isEmpty) ∨ ∃ kvs, H p = some (.dK kvs) ∧ k = !kvs.isEmpty
  | _ => False
theorem isEmpty_kv {κ : Type} {kvs : List (κ × V)} {vs : List (κ × Value)} (r : KV kvs vs) : (!vs.isEmpty) = !kvs.isEmpty := by
  cases r <;> rfl
theorem isEmpty_of {xs : List V} {its : List Value} (r : Vals xs its) : (!its.toArray.isEmpty) = !xs.isEmpty := by
  cases r <;> simp
theorem line63 : (sizeLine : Nat) < 2 ^ 63 := by rw [sizeLine_eq]; decide
theorem tru_ok : TruR X (fun x H Q => ∃ k, TruV X.K x H k ∧ Q k H) := by
  intro pins s σ H x v Q I rx h
  obtain ⟨k, e, q⟩ := h
  have hl := line63
  have hs : sizeLine = 16777216 := sizeLine_eq
  cases x with
  | non =>
    cases rx
    have e' : k = false := e
    subst e'
    exact truthy_none ⟨H, I, q⟩
  | bl b =>
    cases rx
    have e' : k = b := e
    subst e'
    exact wpAny_truthy_bool ⟨H, I, q⟩
  | int i =>
    obtain ⟨t, rfl⟩ := rx
    have e' : k = (i != 0) := e
    subst e'
    exact PySem.P.truthy_int ⟨H, I, q⟩
  | str y =>
    obtain ⟨t, rfl⟩ := rx
    obtain ⟨hy, e'⟩ : y.length ≤ sizeLine ∧ k = ((y.length : Int) != 0) := e
    subst e'
    exact PySem.P.truthy_str (by omega) ⟨H, I.tok _, q⟩
  | byt y =>
    obtain ⟨t, rfl⟩ := rx
    obtain ⟨hy, e'⟩ : y.size ≤ sizeLine ∧ k = ((y.size : Int) != 0) := e
    subst e'
    exact PySem.W.truthy_bytes (by omega) ⟨H, I.tok _, q⟩
  | ref p =>
    cases rx
    have e' : (∃ xs, SqL X.K H p xs ∧ k = !xs.isEmpty) ∨ (∃ xs, SqT X.K H p xs ∧ k = !xs.isEmpty) ∨ ∃ kvs, H p = some (.dK kvs) ∧ k = !kvs.isEmpty := e
    rcases e' with ⟨xs, hx, e'⟩ | ⟨xs, hx, e'⟩ | ⟨kvs, hx, e'⟩
    · subst e'
      obtain ⟨its, r, pl, hz⟩ := I.list hx
      have hlen := r.length
      exact wpAny_truthy_list pl.isList (by simp only [List.size_toArray]; omega) ⟨H, I.tok _, by rw [isEmpty_of r]; exact q⟩
    · subst e'
      obtain ⟨its, r, pl, hz⟩ := I.tuple hx
      have hlen := r.length
      exact truthy_tuple pl (by simp only [List.size_toArray]; omega) ⟨H, I.tok _, by rw [isEmpty_of r]; exact q⟩
    · subst e'
      obtain ⟨hz, hS, vs, r, m⟩ : kvs.length ≤ sizeLine ∧ (p == sysModules) = false ∧ ∃ vs, KV kvs vs ∧ s.heap.DictOf (mixKind X.prog X.w) p vs := I.hok p _ hx
      have hlen : kvs.length = vs.length := Paired.length r
      exact wpAny_truthy_dict hS m (by omega) ⟨H, I.tok _, by rw [isEmpty_kv r]; exact q⟩
  | _ => exact (show False from e).elim

theorem op_add_str : OpR X (binaryOp .Add) (fun x y H Q => ∃ i j, x = .str i ∧ y = .str j ∧ i.length + j.length ≤ sizeLine ∧ Q (.str (i ++ j)) H) := by
  intro pins s σ H x y v u Q I rx ry h
  obtain ⟨i, j, rfl, rfl, hz, q⟩ := h
  obtain ⟨t, rfl⟩ := rx
  obtain ⟨t', rfl⟩ := ry
  exact add_str (fun t' tk => ⟨.str (i ++ j), H, I.tok _, ⟨_, rfl⟩, q⟩) hz
theorem vals1 {x : V} {us : List Value} (r : Vals [x] us) : ∃ u, us = [u] ∧ RelV x u := by
  cases r with
  | cons r1 r2 => cases r2; exact ⟨_, rfl, r1⟩
theorem vals2 {x y : V} {us : List Value} (r : Vals [x, y] us) : ∃ u w', us = [u, w'] ∧ RelV x u ∧ RelV y w' := by
  cases r with
  | cons r1 r2 =>
    cases r2 with
    | cons r3 r4 => cases r4; exact ⟨_, _, rfl, r1, r3⟩
theorem call_abs : CallR X (.builtin "abs") (fun xs H Q => ∃ i, xs = [.int i] ∧ Q (.int (if i < 0 then -i else i)) H) := by
  intro pins s σ H xs us Q I r h
  obtain ⟨i, rfl, q⟩ := h
  obtain ⟨u, rfl, t, rfl⟩ := vals1 r
  exact call_abs_int fun u tk => ⟨.int (if i < 0 then -i else i), H, I.tok _, ⟨_, rfl⟩, q⟩
theorem call_max2 (hc : X.calm = true) : CallR X (.builtin "max") (fun xs H Q => ∃ i j, xs = [.int i, .int j] ∧ Q (.int (if j > i then j else i)) H) := by
  intro pins s σ H xs us Q I r h
  obtain ⟨i, j, rfl, q⟩ := h
  obtain ⟨u, w', rfl, ⟨t, rfl⟩, ⟨t', rfl⟩⟩ := vals2 r
  refine max_two_ints (I.ok.hd hc) fun h' tk k => ⟨_, H, I.kept k, ?_, q⟩
  by_cases hj : j > i
  · rw [if_pos hj, if_pos hj]; exact ⟨_, rfl⟩
  · rw [if_neg hj, if_neg hj]; exact ⟨_, rfl⟩
theorem call_min2 (hc : X.calm = true) : CallR X (.builtin "min") (fun xs H Q => ∃ i j, xs = [.int i, .int j] ∧ Q (.int (if j < i then j else i)) H) := by
  intro pins s σ H xs us Q I r h
  obtain ⟨i, j, rfl, q⟩ := h
  obtain ⟨u, w', rfl, ⟨t, rfl⟩, ⟨t', rfl⟩⟩ := vals2 r
  refine min_two_ints (I.ok.hd hc) fun h' tk k => ⟨_, H, I.kept k, ?_, q⟩
  by_cases hj : j < i
  · rw [if_pos hj, if_pos hj]; exact ⟨_, rfl⟩
  · rw [if_neg hj, if_neg hj]; exact ⟨_, rfl⟩
def LenV (K : PySem.W.Frag) (x : V) (H : Hp) (n : Nat) : Prop :=
  match x with
  | .str y => y.length ≤ sizeLine ∧ n = y.length
  | .byt y => y.size ≤ sizeLine ∧ n = y.size
  | .ref p => (∃ xs, SqL K H p xs ∧ n = xs.length) ∨ ∃ xs, SqT K H p xs ∧ n = xs.length
  | _ => False
theorem call_len : CallR X (.builtin "len") (fun xs H Q => ∃ x n, xs = [x] ∧ LenV X.K x H n ∧ Q (.int n) H) := by
  intro pins s σ H xs us Q I r h
  obtain ⟨x, n, rfl, e, q⟩ := h
  obtain ⟨u, rfl, rx⟩ := vals1 r
  have hl := line63
  have hs : sizeLine = 16777216 := sizeLine_eq
  cases x with
  | str y =>
    obtain ⟨t, rfl⟩ := rx
    obtain ⟨hy, e'⟩ : y.length ≤ sizeLine ∧ n = y.length := e
    subst e'
    exact len_str (by omega) ⟨.int _, H, I.tok _, ⟨_, rfl⟩, q⟩
  | byt y =>
    obtain ⟨t, rfl⟩ := rx
    obtain ⟨hy, e'⟩ : y.size ≤ sizeLine ∧ n = y.size := e
    subst e'
    exact PySem.W.len_bytes (by omega) ⟨.int _, H, I.tok _, ⟨_, rfl⟩, q⟩
  | ref p =>
    cases rx
    have e' : (∃ xs, SqL X.K H p xs ∧ n = xs.length) ∨ ∃ xs, SqT X.K H p xs ∧ n = xs.length := e
    rcases e' with ⟨xs, hx, e'⟩ | ⟨xs, hx, e'⟩
    · subst e'
      obtain ⟨its, r', pl, hz⟩ := I.list hx
      have hlen := r'.length
      exact Calls.call_len_list pl.isList (by simp only [List.size_toArray]; omega) ⟨.int xs.length, H, I.tok _, ⟨_, by simp only [List.size_toArray]; rw [hlen]⟩, q⟩
    · subst e'
      obtain ⟨its, r', pl, hz⟩ := I.tuple hx
      have hlen := r'.length
      exact len_tuple pl (by simp only [List.size_toArray]; omega) ⟨.int xs.length, H, I.tok _, ⟨_, by simp only [List.size_toArray]; rw [hlen]⟩, q⟩
  | _ => exact (show False from e).elim

end
end L2

namespace L2
open PySem PySem.Spec PyProof.Rows

theorem lookIn_ns {h : Heap} {dx : Addr} {mA : Str → Option Value} (n : h.Ns1 dx mA) : ∃ od, h.get? dx = some od ∧ ∀ name, PySem.W.lookIn name od = some (mA name) := by
  obtain ⟨o, es, ep, ho, hd, hk, _, hm⟩ := n
  refine ⟨o, ho, fun name => ?_⟩
  have e := hm name
  unfold nsFind findBy at e
  rw [← Array.find?_toList] at e
  unfold PySem.W.lookIn
  rw [hd]
  dsimp only
  split
  · rename_i y q
    rw [q] at e
    exact congrArg some e
  · rename_i q
    rw [q] at e
    have a : es.toList.any (·.refKey) = false := by
      rw [List.any_eq_false]
      intro y hy
      obtain ⟨z, t, hkey⟩ := hk y (Array.mem_toList_iff.mp hy)
      simp [DictEntry.refKey, hkey]
    have a' : ¬ es.toList.any (·.refKey) = true := by rw [a]; exact Bool.false_ne_true
    rw [if_neg a']
    exact congrArg some e

section
variable {prog : Program} {w : World} {A : Around} {E : Value → Shared → Prop} {s : Shared} {K : PySem.W.Frag} {x dx C f : Addr} {mA : Str → Option Value} {name : Str} {v : Value}

end

def putF (f : Str) (v : V) : List (Str × V) → List (Str × V)
  | [] => [(f, v)]
  | (g, x) :: r => if g = f then (g, v) :: r else (g, x) :: putF f v r
theorem lookup_putF (f g : Str) (v : V) : ∀ fs : List (Str × V), (putF f v fs).lookup g = if g = f then some v else fs.lookup g
  | [] => by
    show List.lookup g [(f, v)] = _
    by_cases h : g = f
    · have hb : (g == f) = true := beq_iff_eq.mpr h
      simp only [List.lookup, hb, if_pos h]
    · have hb : (g == f) = false := beq_eq_false_iff_ne.mpr h
      simp only [List.lookup, hb, if_neg h]
  | (k, x) :: r => by
    have ih := lookup_putF f g v r
    rw [show putF f v ((k, x) :: r) = (if k = f then (k, v) :: r else (k, x) :: putF f v r) from rfl]
    by_cases hk : k = f
    · rw [if_pos hk]
      by_cases h : g = k
      · have hb : (g == k) = true := beq_iff_eq.mpr h
        simp only [List.lookup, hb, if_pos (h.trans hk)]
      · have hb : (g == k) = false := beq_eq_false_iff_ne.mpr h
        simp only [List.lookup, hb, if_neg (fun e : g = f => h (e.trans hk.symm))]
    · rw [if_neg hk]
      by_cases h : g = k
      · have hb : (g == k) = true := beq_iff_eq.mpr h
        simp only [List.lookup, hb, if_neg (fun e : g = f => hk (h.symm.trans e))]
      · have hb : (g == k) = false := beq_eq_false_iff_ne.mpr h
        simp only [List.lookup, hb]
        exact ih
theorem keys_putF (f : Str) (v : V) : ∀ fs : List (Str × V), f ∈ (putF f v fs).map (·.1) ∧ ∀ g, g ∈ fs.map (·.1) → g ∈ (putF f v fs).map (·.1)
  | [] => ⟨by simp [putF], fun g h => by simp at h⟩
  | (k, x) :: r => by
    obtain ⟨i1, i2⟩ := keys_putF f v r
    rw [show putF f v ((k, x) :: r) = (if k = f then (k, v) :: r else (k, x) :: putF f v r) from rfl]
    by_cases hk : k = f
    · rw [if_pos hk]
      subst hk
      exact ⟨by simp, fun g h => by simpa using h⟩
    · rw [if_neg hk]
      refine ⟨?_, fun g h => ?_⟩
      · rw [List.map_cons]
        exact List.mem_cons_of_mem _ i1
      · rw [List.map_cons] at h ⊢
        rcases List.mem_cons.mp h with e | e
        · exact List.mem_cons.mpr (.inl e)
        · exact List.mem_cons_of_mem _ (i2 g e)
theorem RelO.some_of {v : V} {o : Option Value} (r : RelO (some v) o) : ∃ u, o = some u ∧ RelV v u := by
  cases o with
  | none => exact (show False from r).elim
  | some u => exact ⟨u, rfl, r⟩
theorem handed_of {v : V} {u : Value} (r : RelV v u) : PySem.W.handedIn u = true := by
  cases v with
  | non => cases (show u = Value.none from r); rfl
  | bl b => cases (show u = Value.bool b from r); rfl
  | int i => obtain ⟨t, e⟩ := (show ∃ t, u = Value.int i t from r); cases e; rfl
  | str x => obtain ⟨t, e⟩ := (show ∃ t, u = Value.str x t from r); cases e; rfl
  | byt b => obtain ⟨t, e⟩ := (show ∃ t, u = Value.bytes b t from r); cases e; rfl
  | flt b => obtain ⟨t, e⟩ := (show ∃ t, u = Value.float b t from r); cases e; rfl
  | ref a => cases (show u = Value.ref a from r); rfl
  | ty n => cases (show u = Value.type n from r); rfl


def NoAttr (K : PySem.W.Frag) (C : Addr) (f : Str) : Prop := PySem.W.findIn K (.ref C) f = some none
section
variable {X : Cx} {pins : List (Addr × Obj)} {σ : St} {H : Hp} {s : Shared} {a C dx : Addr} {fs : List (Str × V)} {f : Str} {v : V} {A : Around} {E : Value → Shared → Prop}

theorem attr_of {prog : Program} {w : World} {env : Env} {e : Expr} {f : Str} {pos : Pos} {s : Shared} {Q : Value → Shared → Prop} (hb : attributeBase e f env (eval e env) = eval e env)
    (h : wpAny (model prog w) A (eval e env) (fun o s₁ => wpAny (model prog w) A (getAttr o f true) Q E s₁) E s) : wpAny (model prog w) A (eval (.Attribute e f pos) env) Q E s :=
  Attribute_any_ h (by rw [arm_eval_Attribute, hb])
end


section
variable {X : Cx} {pins : List (Addr × Obj)} {σ : St} {H : Hp} {s : Shared} {A : Around} {E : Value → Shared → Prop} {Q : Value → Shared → Prop} {c : Value} {b : Bool}

end
end L2

namespace L2
open PySem PySem.Spec PyProof.Rows

structure Room (k : Nat) (A : Around) : Prop where
  hd : A.handled = none
  dp : A.depth + 3 * k + 5 < recursionLimit
  un : A.units + 16 * k + 200 < cLine
theorem Room.mono {j k : Nat} {A : Around} (r : Room k A) (h : j ≤ k) : Room j A := ⟨r.hd, by have := r.dp; omega, by have := r.un; omega⟩
theorem Room.deeper {k : Nat} {A : Around} (r : Room (k + 1) A) (env : Env) : Room k (A.deeper env) :=
  ⟨r.hd, by have := r.dp; show A.depth + 1 + 3 * k + 5 < _; omega, by have := r.un; show A.units + 3 + 16 * k + 200 < _; omega⟩
theorem make_depth {A : Around} {C : Addr} {us : List Value} {kw : List (Str × Value)} : (A.under (.builtin "type.__call__" ⟨.ref C :: us, kw⟩)).depth = A.depth + 1 := by
  first | rfl | simp [Around.under, Code.weight, Code.isCreation, Code.isGuard, Code.isCaller, Code.frames, Code.isFrame, guardIds]
theorem make_units {A : Around} {C : Addr} {us : List Value} {kw : List (Str × Value)} : (A.under (.builtin "type.__call__" ⟨.ref C :: us, kw⟩)).units = A.units + 1 := by
  first | rfl | simp [Around.under, Code.cUnits, Code.frames, Code.isFrame]
theorem Room.make {k : Nat} {A : Around} (r : Room (k + 1) A) (C : Addr) (us : List Value) (kw : List (Str × Value)) : Room k (A.under (.builtin "type.__call__" ⟨.ref C :: us, kw⟩)) :=
  ⟨r.hd, by have := r.dp; rw [make_depth]; omega, by have := r.un; rw [make_units]; omega⟩
theorem Room.depth {k : Nat} {A : Around} (r : Room k A) : A.depth < recursionLimit := by have := r.dp; omega
theorem Room.units {k : Nat} {A : Around} (r : Room k A) : A.units + 64 < cLine := by have := r.un; omega
def tNil : TA := fun _ H Q => Q [] H
def tCons (ta : TE) (tr : TA) : TA := fun σ H Q => ta σ H fun x H1 => tr σ H1 fun xs H2 => Q (x :: xs) H2
section
variable {X : Cx} {e : Expr} {es : List Expr} {te : TE} {t : TA} {pos : Pos}
theorem pa_nil : PA X [] tNil := .mk fun _ _ _ _ H Q I h => Calls.spliced_nil ⟨[], H, I, .nil, h⟩
theorem pa_cons (ha : PE X e te) (hr : PA X es t) (hs : starEach (e :: es) X.env = (false, eval e X.env) :: starEach es X.env := by rfl) : PA X (e :: es) (tCons te t) := by
  refine ⟨?_⟩
  intro pos pins s σ H Q I h
  rw [hs]
  show wpAny _ _ (spliced ((false, eval e X.env) :: backTo pos (starEach es X.env))) _ _ s
  refine Calls.spliced_cons (thn (ha pins s σ H _ I h) fun u s1 ⟨x, H1, I1, r1, q1⟩ => ?_)
  exact thn (hr pos pins s1 σ H1 _ I1 q1) fun us s2 ⟨xs, H2, I2, r2, q2⟩ => ⟨x :: xs, H2, I2, .cons r1 r2, q2⟩

def tTup (t : TA) : TE := fun σ H Q => t σ H fun xs H1 => xs.length ≤ sizeLine ∧ ∀ p, H1 p = none → Q (.ref p) (upd H1 p (.tup xs))
def tLst (t : TA) : TE := fun σ H Q => t σ H fun xs H1 => xs.length ≤ sizeLine ∧ ∀ p, H1 p = none → Q (.ref p) (upd H1 p (.lst xs))
theorem pe_tup {x1} (h : PA X es t) : PE X (.Tuple es x1 pos) (tTup t) := by
  refine ⟨?_⟩
  intro pins s σ H Q I hq
  refine wpAny_Tuple_spliced (thn (h pos pins s σ H _ I hq) fun us s1 ⟨xs, H1, I1, r, z, q⟩ => ⟨by rw [← r.length]; exact z, ?_⟩)
  have hf : H1 s1.heap.objs.size = none := I1.hok.fresh (Nat.le_refl _)
  refine ⟨.ref s1.heap.objs.size, upd H1 s1.heap.objs.size (.tup xs), I1.laid (t' := s1.toks) (fun b u e => Heap.get?_push_of_some _ e) (Nat.le_refl _) ?_, rfl, q _ hf⟩
  exact ⟨z, us, r, ⟨_, Heap.get?_push_size _ rfl, rfl, _, rfl⟩⟩
theorem pe_lst (h : PA X es t) : PE X (.List es pos) (tLst t) := by
  refine ⟨?_⟩
  intro pins s σ H Q I hq
  refine wpAny_List_spliced (thn (h pos pins s σ H _ I hq) fun us s1 ⟨xs, H1, I1, r, z, q⟩ => ⟨by rw [← r.length]; exact z, ?_⟩)
  have hf : H1 s1.heap.objs.size = none := I1.hok.fresh (Nat.le_refl _)
  refine ⟨.ref s1.heap.objs.size, upd H1 s1.heap.objs.size (.lst xs), I1.laid (t' := s1.toks) (fun b u e => Heap.get?_push_of_some _ e) (Nat.le_refl _) ?_, rfl, q _ hf⟩
  exact ⟨z, us, 0, r, Heap.get?_push_size _ rfl⟩
end

abbrev Sp := List V → Hp → VK → XK → Prop

abbrev CXT := List Env → Hp → Shared → XK → Value → Shared → Prop

structure Env0 (P : Program) (w : World) (K : PySem.W.Frag) (mg : Str → Option Value) (base : Heap) (A : Around) (outer : List Env) (s : Shared) (H : Hp) : Prop where
  frames : A.frames = some outer
  mod : Mod K mg base
  bs : ∀ b o, base.get? b = some o → s.heap.get? b = some o ∧ H b = none
  bsz : base.objs.size ≤ s.heap.objs.size
  funs : s.heap.FunFrames base outer
  frf : ∀ b ∈ frs outer, H b = none
  hok : HOk P w H s.heap
  bare : AllBare s.gens

def CE (outer : List Env) (P : Program) (w : World) (H : Hp) (s : Shared) (Q : VK) (u : Value) (s' : Shared) : Prop :=
  ∃ v H', s'.os = s.os ∧ AllBare s'.gens ∧ Un (frs outer) [] H H' s.heap s'.heap ∧ HOk P w H' s'.heap ∧ RelV v u ∧ Q v H'
def CR (CX : CXT) (outer : List Env) (P : Program) (w : World) (H : Hp) (s : Shared) (Q : VK) (E : XK) (r : Result) (s' : Shared) : Prop :=
  match r with
  | .ok (.ret u) => CE outer P w H s Q u s'
  | .ok _ => False
  | .error e => CX outer H s E e s'
structure FnOk (P : Program) (w : World) (K : PySem.W.Frag) (mg : Str → Option Value) (base : Heap) (CX : CXT) (k : Nat) (f : Addr) (fd : FuncData) (ps : List Str) (sp : Sp) : Prop where
  len : ∀ vs H Q E, sp vs H Q E → vs.length = ps.length
  run : ∀ (A : Around) (outer : List Env) (s : Shared) (H : Hp) (args : Args) (us : List Value) (vs : List V) (Q : VK) (E : XK), Room k A → Env0 P w K mg base A outer s H → BindsTo s fd args (ps.zip us) → Vals vs us → sp vs H Q E →
    codeAny (model P w) A (.call (.ref f) args) (CR CX outer P w H s Q E) s
theorem Env0.make {P : Program} {w : World} {K : PySem.W.Frag} {mg : Str → Option Value} {base : Heap} {A : Around} {outer : List Env} {s : Shared} {H : Hp} (e : Env0 P w K mg base A outer s H) (C : Addr) (us : List Value) (kw : List (Str × Value)) :
    Env0 P w K mg base (A.under (.builtin "type.__call__" ⟨.ref C :: us, kw⟩)) outer s H := ⟨by first | exact e.frames | (simpa [Around.under, Code.envs, Code.isFrame, pushEnvs] using e.frames), e.mod, e.bs, e.bsz, e.funs, e.frf, e.hok, e.bare⟩
section
variable {X : Cx} {pins : List (Addr × Obj)} {σ : St} {H : Hp} {s s' : Shared}

theorem Inv.env0 (I : Inv X pins σ H s) : Env0 X.prog X.w X.K X.mg X.base X.A X.stack s H :=
  ⟨I.ok.frames, I.ok.mod, I.bs, Nat.le_trans I.ok.bsz I.sz, I.stack, I.stkFree, I.hok, I.bare⟩

theorem Inv.after {Q : VK} {u : Value} (I : Inv X pins σ H s) (h : CE X.stack X.prog X.w H s Q u s') : EP X pins σ Q u s' := by
  obtain ⟨v, H', os, bare, un, hok, r, q⟩ := h
  obtain ⟨hh, g, d, t, os'⟩ := s'
  obtain rfl : os' = s.os := os
  exact ⟨v, H', I.call (h' := hh) (g' := g) (d' := d) (t' := t) (ch := []) un hok bare (fun b z => absurd z (by simp)), r, q⟩
end

def tCall (sp : Sp) (dvs : List V) (E : XK) (t : TA) : TE := fun σ H Q => t σ H fun vs H1 => sp (vs ++ dvs) H1 Q E

def Binds (K : PySem.W.Frag) (fd : FuncData) (ps : List Str) (ds : List Value) : Prop :=
  ∀ (s : Shared) (us : List Value), K.In s.heap → (us ++ ds).length = ps.length → BindsTo s fd ⟨us, []⟩ (ps.zip (us ++ ds))

theorem Binds.all {K : PySem.W.Frag} {fd : FuncData} {ps : List Str} (h : ∀ us : List Value, us.length = ps.length → bindArgs fd ⟨us, []⟩ = pure (ps.zip us)) : Binds K fd ps [] := fun s us _ hl => by
  rw [List.append_nil] at hl ⊢
  exact .of_eq (h us hl)

def Passes (CX : CXT) (X : Cx) (E : XK) : Prop := ∀ (pins : List (Addr × Obj)) (σ : St) (H : Hp) (s : Shared) (e : Value) (s' : Shared), Inv X pins σ H s → CX X.stack H s E e s' → X.xe e s'

section
variable {X : Cx} {CX : CXT} {k : Nat} {f C : Addr} {fd : FuncData} {ps : List Str} {sp : Sp} {dvs : List V} {ds : List Value} {E : XK} {x m : Str} {p pos apos : Pos} {e o : Expr} {es : List Expr} {ta : TE} {t : TA}

theorem run_fn {pins : List (Addr × Obj)} {σ : St} {H : Hp} {s : Shared} {Q : VK} {us : List Value} {vs : List V} (F : FnOk X.prog X.w X.K X.mg X.base CX k f fd ps sp) (hr : Room k X.A) (hb : Binds X.K fd ps ds) (hd : Vals dvs ds) (hx : Passes CX X E)
    (I : Inv X pins σ H s) (r : Vals vs us) (h : sp (vs ++ dvs) H Q E) : wpAny (model X.prog X.w) X.A (call (.ref f) us) (EP X pins σ Q) X.xe s := by
  have r2 : Vals (vs ++ dvs) (us ++ ds) := r.append hd
  have hl : (us ++ ds).length = ps.length := by rw [← r2.length]; exact F.len _ _ _ _ h
  refine wpAny_call (codeAny_mono (F.run X.A X.stack s H ⟨us, []⟩ (us ++ ds) (vs ++ dvs) Q E hr I.env0 (hb s us I.kIn hl) r2 h) fun r s' hq => ?_)
  cases r with
  | error e => exact hx pins σ H s e s' I hq
  | ok fl =>
    cases fl with
    | ret u => exact I.after hq
    | next => exact False.elim hq
    | brk => exact False.elim hq
    | cont => exact False.elim hq

theorem pe_call (F : FnOk X.prog X.w X.K X.mg X.base CX k f fd ps sp) (hr : Room k X.A) (hg : Gl X x) (hm : X.mg x = some (.ref f)) (hk : PySem.W.keepIn X.K (.ref f) = true) (hb : Binds X.K fd ps ds) (hd : Vals dvs ds) (hx : Passes CX X E)
    (ha : PA X (e :: es) t) (hdb : (x == ("__debug__" : Str)) = false := by decide) (he : starEach (e :: es) X.env = (false, eval e X.env) :: starEach es X.env := by rfl) (hpl : (backTo pos (starEach es X.env)).any (·.1) = false := by rfl) :
    PE X (.Call (.Name x p) (e :: es) [] pos) (tCall sp dvs E t) := by
  refine ⟨?_⟩
  intro pins s σ H Q I h
  refine wpAny_Call_Name_kw (ld_glob I hg hm ?_ hdb)
  refine PySem.W.callWith_K (h₀ := X.base) I.ok.mod.kin hk (thn (ha pos pins s σ H _ I h) fun us s1 ⟨vs, H1, I1, r, q⟩ => ⟨I1.kIn, ?_⟩) he hpl
  exact run_fn F hr hb hd hx I1 r q
end


structure FnScope (N P : List Str) (sc : Scope) : Prop where
  kind : sc.kind = .function
  co : sc.isCoroutine = false
  gen : sc.isGenerator = false
  nd : N.Nodup
  pre : N.take P.length = P
  par : ∀ x ∈ P, sc.names.lookup x = some .local ∨ sc.names.lookup x = some .cell
  nofree : ∀ y ∈ sc.names, y.2 ≠ .free

theorem bindL_out {kindOf : Str → Option NameKind} {x : Str} : ∀ {binds : List (Str × Value)} {m : Str → Option Value}, (∀ v, (x, v) ∉ binds) → bindL kindOf binds m x = m x
  | [], _, _ => rfl
  | (n, v) :: r, m, h => by
    unfold bindL
    rw [bindL_out fun w hw => h w (List.mem_cons_of_mem _ hw)]
    split
    · have : x ≠ n := by rintro rfl; exact h v List.mem_cons_self
      simp [this]
    · rfl
theorem bindC_out {kindOf : Str → Option NameKind} {x : Str} : ∀ {binds : List (Str × Value)} {m : Str → Option Value}, (∀ v, (x, v) ∉ binds) → bindC kindOf binds m x = m x
  | [], _, _ => rfl
  | (n, v) :: r, m, h => by
    unfold bindC
    rw [bindC_out fun w hw => h w (List.mem_cons_of_mem _ hw)]
    split
    · rfl
    · have : x ≠ n := by rintro rfl; exact h v List.mem_cons_self
      simp [this]
theorem bindL_get {kindOf : Str → Option NameKind} {x : Str} {v : Value} : ∀ {P : List Str} {vs : List Value} {i : Nat} {m : Str → Option Value}, P.Nodup → P[i]? = some x → vs[i]? = some v → kindOf x = some .local →
    bindL kindOf (P.zip vs) m x = some v
  | [], _, _, _, _, h, _, _ => by simp at h
  | _ :: _, [], _, _, _, _, h, _ => by simp at h
  | p :: P, w :: vs, 0, m, nd, h1, h2, hk => by
    simp at h1 h2; subst h1; subst h2
    show bindL kindOf ((p, w) :: P.zip vs) m p = _
    unfold bindL
    rw [bindL_out fun v hv => (List.nodup_cons.mp nd).1 (List.of_mem_zip hv).1, if_pos hk]
    simp
  | p :: P, w :: vs, i + 1, m, nd, h1, h2, hk => by
    show bindL kindOf ((p, w) :: P.zip vs) m x = _
    unfold bindL
    exact bindL_get (i := i) (List.nodup_cons.mp nd).2 (by simpa using h1) (by simpa using h2) hk
theorem bindC_get {kindOf : Str → Option NameKind} {x : Str} {v : Value} : ∀ {P : List Str} {vs : List Value} {i : Nat} {m : Str → Option Value}, P.Nodup → P[i]? = some x → vs[i]? = some v → kindOf x ≠ some .local →
    bindC kindOf (P.zip vs) m x = some v
  | [], _, _, _, _, h, _, _ => by simp at h
  | _ :: _, [], _, _, _, _, h, _ => by simp at h
  | p :: P, w :: vs, 0, m, nd, h1, h2, hk => by
    simp at h1 h2; subst h1; subst h2
    show bindC kindOf ((p, w) :: P.zip vs) m p = _
    unfold bindC
    rw [bindC_out fun v hv => (List.nodup_cons.mp nd).1 (List.of_mem_zip hv).1, if_neg hk]
    simp
  | p :: P, w :: vs, i + 1, m, nd, h1, h2, hk => by
    show bindC kindOf ((p, w) :: P.zip vs) m x = _
    unfold bindC
    exact bindC_get (i := i) (List.nodup_cons.mp nd).2 (by simpa using h1) (by simpa using h2) hk

def start (N : List Str) (vs : List V) : St := vs.map some ++ List.replicate (N.length - vs.length) none

def cxOf (CX : CXT) (P : Program) (w : World) (K : PySem.W.Frag) (mg : Str → Option Value) (base : Heap) (N : List Str) (qual : Str) (scope : Scope) (f : Addr) (cd : Value) (A : Around) (outer : List Env) (s : Shared) (H : Hp) (E : XK) : Cx where
  prog := P
  w := w
  K := K
  mg := mg
  base := base
  A := A.deeper (envOfC qual scope s.heap.objs.size f cd)
  N := N
  s₀ := s
  H₀ := H
  env := envOfC qual scope s.heap.objs.size f cd
  outer := outer
  stack := envOfC qual scope s.heap.objs.size f cd :: outer
  ex := []
  calm := true
  fn := fun _ => true
  pn := []
  xe := fun e s' => wpAny (model P w) (A.deeper (envOfC qual scope s.heap.objs.size f cd)) (leaving (envOfC qual scope s.heap.objs.size f cd) e) (fun _ s'' => CX outer H s E e s'') (fun e' s'' => CX outer H s E e' s'') s'

theorem cell_has {sc : Scope} {n : Nat} {x : Str} (h : sc.names.lookup x = some .cell) : ∃ c, (cellsFrom n sc.names []).lookup x = some c := by
  have q := PySem.W.cellsFrom_some sc.names n [] (.inl h)
  exact Option.isSome_iff_exists.mp q

theorem inv_start {CX : CXT} {P : Program} {w : World} {K : PySem.W.Frag} {mg : Str → Option Value} {base : Heap} {N ps : List Str} {qual : Str} {scope : Scope} {f : Addr} {cd : Value} {A : Around} {outer : List Env} {s s1 : Shared} {H : Hp} {E : XK} {us : List Value} {vs : List V}
    (S : FnScope N ps scope) (hd : A.handled = none) (e0 : Env0 P w K mg base A outer s H) (hl : vs.length = ps.length) (r : Vals vs us)
    (x : InCallC s s.heap.objs.size (bindL (envOfC qual scope s.heap.objs.size f cd).kindOf (ps.zip us) fun _ => none) (cellsFrom (s.heap.objs.size + 1) scope.names []) (bindC (envOfC qual scope s.heap.objs.size f cd).kindOf (ps.zip us) fun _ => none) s1) :
    Inv (cxOf CX P w K mg base N qual scope f cd A outer s H E) [] (start N vs) H s1 := by
  have hpl : ps.length ≤ N.length := by have := congrArg List.length S.pre; rw [List.length_take] at this; omega
  obtain ⟨h1, tk, rfl, hk⟩ := x.done
  have noA : ∀ b : Addr, b ∉ (cxOf CX P w K mg base N qual scope f cd A outer s H E).ex := fun b z => absurd (show b ∈ ([] : List Addr) from z) (by simp)
  refine ⟨⟨e0.mod, S.kind, rfl, rfl, Nat.le_refl _, fun y z c h1 h2 => ?_, fun y hy => ?_, fun y c _ h => ?_, fun _ => hd, Around.frames_deeper e0.frames, .inr ⟨rfl, rfl⟩, fun b z => absurd z (noA b), e0.bs, e0.bsz, fun b _ _ => noA b, fun b z => absurd z (noA b), e0.funs, e0.frf⟩,
    rfl, e0.bare, Un.kept hk, ⟨_, x.toInCall.ns, fun i y v h1 h2 h3 => ?_⟩, fun y c h => ⟨_, x.cell y c h⟩, e0.hok.fresh (Nat.le_refl _), fun y c h => ?_, fun p hp => absurd (show p ∈ ([] : List (Addr × Obj)) from hp) (by simp), e0.hok.kept hk, ?_⟩
  · exact name_of_addr x.apart (PySem.mem_of_lookup h1) (PySem.mem_of_lookup h2)
  · have hy : scope.names.lookup y = some .cell ∨ scope.names.lookup y = some .free := hy
    rcases hy with hy | hy
    · exact cell_has hy
    · exact absurd rfl (S.nofree _ (PySem.mem_of_lookup hy))
  · exact Nat.le_of_lt (x.above y c (PySem.mem_of_lookup h))
  · have hi : i < vs.length := by
      unfold start at h2
      by_cases hi : i < vs.length
      · exact hi
      · rw [List.getElem?_append_right (by simpa using hi)] at h2
        rw [List.getElem?_replicate] at h2
        split at h2 <;> cases h2
    have ha : vs[i]? = some v := by
      unfold start at h2
      rw [List.getElem?_append_left (by simpa using hi), List.getElem?_map] at h2
      cases e : vs[i]? with
      | none => rw [e] at h2; cases h2
      | some a => rw [e] at h2; cases h2; rfl
    obtain ⟨u, hu, rv⟩ := r.get ha
    have hp : ps[i]? = some y := by
      rw [← S.pre, List.getElem?_take_of_lt (by omega)]; exact h1
    have ndP : ps.Nodup := by rw [← S.pre]; exact S.nd.sublist (List.take_sublist _ _)
    refine ⟨u, rv, ?_⟩
    rcases S.par y (List.mem_of_getElem? hp) with k | k
    · exact .inl ⟨k, bindL_get ndP hp hu k⟩
    · obtain ⟨c, e⟩ := cell_has (n := s.heap.objs.size + 1) k
      refine .inr ⟨.inl k, c, e, ?_⟩
      have q := x.cell y c e
      rw [bindC_get ndP hp hu (by show scope.names.lookup y ≠ _; rw [k]; decide)] at q
      exact q
  · exact e0.hok.fresh (Nat.le_of_lt (x.above y c (PySem.mem_of_lookup h)))
  · unfold start
    show _ = N.length
    rw [List.length_append, List.length_map, List.length_replicate]
    omega

theorem fn_of {CX : CXT} {P : Program} {w : World} {K : PySem.W.Frag} {mg : Str → Option Value} {base : Heap} {k : Nat} {f : Addr} {name qual : Str} {params : Arguments} {body : List Stmt} {scope : Scope} {dV kV doc pm cdv ct oc : Value} {an od : Option Addr}
    {osl : Array (Option Value)} {N ps : List Str} {sp : Sp} (lk : K.lookup f = some ⟨oc, od, .func (PySem.W.fnOf name qual params body scope dV kV doc pm an cdv ct), osl⟩) (hcd : PySem.W.codeIn K cdv qual = true) (S : FnScope N ps scope)
    (len : ∀ vs H Q E, sp vs H Q E → vs.length = ps.length)
    (hbody : ∀ (A : Around) (outer : List Env) (s : Shared) (H : Hp) (vs : List V) (Q : VK) (E : XK), Room k (A.deeper (envOfC qual scope s.heap.objs.size f cdv)) → sp vs H Q E →
      ∃ t, PSs (cxOf CX P w K mg base N qual scope f cdv A outer s H E) body t ∧ t { nx := fun _ H' => Q .non H', rt := Q } (start N vs) H) :
    FnOk P w K mg base CX (k + 1) f (PySem.W.fnOf name qual params body scope dV kV doc pm an cdv ct) ps sp := by
  refine ⟨len, fun A outer s H args us vs Q E hr e0 hb r hsp => ?_⟩
  have hl := len _ _ _ _ hsp
  have KX : K.In s.heap := e0.mod.kin.keeps fun b o e => (e0.bs b o e).1
  have lim : s.heap.NoLimit := e0.mod.nolimit.keeps fun b o e => (e0.bs b o e).1
  have hkind : ∀ y ∈ ps.zip us, scope.names.lookup y.1 = some .local ∨ (scope.names.lookup y.1 = some .cell ∧ ((cellsFrom (s.heap.objs.size + 1) scope.names []).lookup y.1).isSome = true) := fun ⟨n, v⟩ hy => by
    rcases S.par n (List.of_mem_zip hy).1 with q | q
    · exact .inl q
    · exact .inr ⟨q, PySem.W.cellsFrom_some _ _ _ (.inl q)⟩
  refine codeAny_call_function hr.depth (KX _ _ lk) rfl S.co S.gen rfl (PySem.W.codeRec_of KX hcd) (hb _ _ _ _ ?_)
  refine wpAny_newFunctionEnv_cells S.kind hkind fun env he s1 x => ?_
  subst he
  refine ⟨lim.keeps x.toInCall.keep, codeAny_func ?_⟩
  obtain ⟨t, ht, hq⟩ := hbody A outer s H vs Q E (hr.deeper _) hsp
  have I : Inv (cxOf CX P w K mg base N qual scope f cdv A outer s H E) [] (start N vs) H s1 := inv_start S hr.hd e0 hl r x
  refine wpAny_mono (ht [] s1 (start N vs) H _ I hq) (fun fl s' hs => ?_) fun e s' hs => hs
  have fin : ∀ {σ' : St} {H' : Hp} {v : V} {u : Value}, Inv (cxOf CX P w K mg base N qual scope f cdv A outer s H E) [] σ' H' s' → RelV v u → Q v H' → CE outer P w H s Q u s' :=
    fun {σ' H' v u} J rv q => ⟨v, H', J.os, J.bare, J.base, J.hok, rv, q⟩
  cases fl with
  | ret u =>
    obtain ⟨v, σ', H', J, rv, q⟩ := hs
    exact fin J rv q
  | next =>
    obtain ⟨σ', H', J, q⟩ := hs
    exact fin (v := V.non) (u := Value.none) J rfl q
  | brk =>
    obtain ⟨_, _, _, q⟩ := hs
    exact False.elim q
  | cont =>
    obtain ⟨_, _, _, q⟩ := hs
    exact False.elim q
end L2

namespace L2
open PySem PySem.Spec PyProof.Rows
section
variable {X : Cx} {x : Str} {p pos : Pos} {e : Expr} {es : List Expr} {t : TA} {id T : String} {r : List V → Hp → VK → Prop}

def tCB (r : List V → Hp → VK → Prop) (t : TA) : TE := fun σ H Q => t σ H fun vs H1 => r vs H1 Q

theorem pe_callB (hc : CallR X (.builtin id) r) (hg : Gl X x) (hm : X.mg x = none) (hv : bootBuiltins x = some (.builtin id)) (ha : PA X (e :: es) t) (hn : x ≠ "__name__" := by decide) (hdb : (x == ("__debug__" : Str)) = false := by decide)
    (he : starEach (e :: es) X.env = (false, eval e X.env) :: starEach es X.env := by rfl) (hpl : (backTo pos (starEach es X.env)).any (·.1) = false := by rfl) : PE X (.Call (.Name x p) (e :: es) [] pos) (tCB r t) := by
  refine ⟨?_⟩
  intro pins s σ H Q I h
  refine wpAny_Call_Name_kw (ld_blt I hg hm hv ?_ hn hdb)
  exact PyProof.Rows.callWith_builtin1 (thn (ha pos pins s σ H _ I h) fun us s1 ⟨vs, H1, I1, r1, q1⟩ => hc pins s1 σ H1 vs us Q I1 r1 q1) he hpl

theorem pe_callTy (hc : CallR X (.type T) r) (hg : Gl X x) (hm : X.mg x = none) (hv : bootBuiltins x = some (.type T)) (ha : PA X (e :: es) t) (hn : x ≠ "__name__" := by decide) (hdb : (x == ("__debug__" : Str)) = false := by decide)
    (he : starEach (e :: es) X.env = (false, eval e X.env) :: starEach es X.env := by rfl) (hpl : (backTo pos (starEach es X.env)).any (·.1) = false := by rfl) : PE X (.Call (.Name x p) (e :: es) [] pos) (tCB r t) := by
  refine ⟨?_⟩
  intro pins s σ H Q I h
  refine wpAny_Call_Name_kw (ld_blt I hg hm hv ?_ hn hdb)
  exact PyProof.Rows.callWith_type1 (thn (ha pos pins s σ H _ I h) fun us s1 ⟨vs, H1, I1, r1, q1⟩ => hc pins s1 σ H1 vs us Q I1 r1 q1) he hpl

end
end L2

namespace HT
open PySem PyProof.Rows

section
open PySem.SeqAt
open PySem.AutoSeq1 (wpAny_loadPart')
open PySem.MeetsSeq PySem.MeetsSeq2 PySem.MeetsSeq3

end

section
variable {prog : Program} {w : World} {A : Around} {E : Value → Shared → Prop} {s : Shared}

def sIx (n d : Nat) : Option Int → Nat
  | none => d
  | some v => if v < 0 then (v + (n : Int)).toNat else min v.toNat n
end
end HT

namespace L2
open PySem PySem.Spec PyProof.Rows

abbrev TO := St → Hp → (Option Int → Hp → Prop) → Prop

section
variable {X : Cx} {e : Expr} {te : TE} {lo hi : Option Expr} {tl th : TO} {pos p2 : Pos}

def SlR (X : Cx) (r : V → Option Int → Option Int → Hp → VK → Prop) : Prop :=
  ∀ (pins : List (Addr × Obj)) (s : Shared) (σ : St) (H : Hp) (x : V) (v vl vu : Value) (lo hi : Option Int) (sl : Addr) (Q : VK), Inv X pins σ H s → RelV x v → s.heap.IsSliceOf sl vl vu .none → IsPart vl lo → IsPart vu hi → r x lo hi H Q →
    ∃ T id, typeLookup (.type T) "__getitem__" = pure (some (.builtin id)) ∧ s.TypeIs v T ∧ wpAny (model X.prog X.w) X.A (getItem v (.ref sl)) (EP X pins σ Q) X.xe s
def cutV (xs : List V) (lo hi : Option Int) : List V := (xs.drop (HT.sIx xs.length 0 lo)).take (HT.sIx xs.length xs.length hi - HT.sIx xs.length 0 lo)
theorem cutV_length (xs : List V) (lo hi : Option Int) : (cutV xs lo hi).length ≤ xs.length := by
  unfold cutV
  rw [List.length_take, List.length_drop]
  omega

end
end L2

namespace L2
open PySem PySem.Spec PyProof.Rows

def ixN (n : Nat) (i : Int) : Option Nat := if 0 ≤ i then (if i < n then some i.toNat else none) else if -(n : Int) ≤ i then some (i + n).toNat else none
def atI {α : Type} (xs : List α) (i : Int) : Option α := (ixN xs.length i).bind fun j => xs[j]?
theorem ixN_seq {n : Nat} {i : Int} {j : Nat} (h : ixN n i = some j) : seqIndex? i n = some j ∧ j < n ∧ -(n : Int) ≤ i ∧ i < n := by
  unfold ixN at h
  by_cases h0 : 0 ≤ i
  · rw [if_pos h0] at h
    by_cases h1 : i < n
    · rw [if_pos h1] at h
      have e : i.toNat = j := Option.some.inj h
      exact ⟨by rw [seqIndex_of h0 h1, e], by omega, by omega, h1⟩
    · rw [if_neg h1] at h; cases h
  · rw [if_neg h0] at h
    by_cases h1 : -(n : Int) ≤ i
    · rw [if_pos h1] at h
      have e : (i + n).toNat = j := Option.some.inj h
      exact ⟨by rw [seqIndex_neg (by omega) h1, e], by omega, h1, by omega⟩
    · rw [if_neg h1] at h; cases h
theorem atI_get {α : Type} {xs : List α} {i : Int} {v : α} (h : atI xs i = some v) : ∃ j, seqIndex? i xs.length = some j ∧ xs[j]? = some v ∧ j < xs.length ∧ -(xs.length : Int) ≤ i ∧ i < xs.length := by
  unfold atI at h
  cases e : ixN xs.length i with
  | none => rw [e] at h; cases h
  | some j =>
    rw [e] at h
    obtain ⟨h1, h2, h3, h4⟩ := ixN_seq e
    exact ⟨j, h1, h, h2, h3, h4⟩
theorem atI_nat {α : Type} {xs : List α} {j : Nat} {v : α} (h : xs[j]? = some v) : atI xs (j : Int) = some v := by
  have hj : j < xs.length := (List.getElem?_eq_some_iff.mp h).1
  have e : ixN xs.length (j : Int) = some j := by
    unfold ixN
    rw [if_pos (by omega), if_pos (by omega)]; simp
  unfold atI; rw [e]; exact h
def PlainIx (b : Expr) : Prop := ∀ o i, subscripted b false o i = operate [o, i] (getItem o i)

def IxR (X : Cx) (r : R2) : Prop :=
  ∀ (value slice : Expr) (pins : List (Addr × Obj)) (s : Shared) (σ : St) (H : Hp) (x y : V) (v u : Value) (Q : VK), Inv X pins σ H s → RelV x v → RelV y u → r x y H Q →
    subscripted slice false v u = operate [v, u] (getItem v u) → wpAny (model X.prog X.w) X.A (subscriptTail value slice v u) (EP X pins σ Q) X.xe s

def MtR (X : Cx) (id : String) (r : V → List V → Hp → VK → Prop) : Prop :=
  ∀ (pins : List (Addr × Obj)) (s : Shared) (σ : St) (H : Hp) (x : V) (xs : List V) (v : Value) (us : List Value) (Q : VK), Inv X pins σ H s → RelV x v → Vals xs us → r x xs H Q →
    wpAny (model X.prog X.w) X.A (call (.builtin id) (v :: us)) (EP X pins σ Q) X.xe s
section
variable {X : Cx} {a b : Expr} {ta tb : TE} {pos : Pos}
theorem pe_ix {r : R2} (hr : IxR X r) (ha : PE X a ta) (hb : PE X b tb) (hs : PlainIx b) : PE X (.Subscript a b pos) (tOp r ta tb) := by
  refine ⟨?_⟩
  intro pins s σ H Q I h
  exact Subscript_ (binT ha hb I h fun v u s2 x y H2 I2 rx ry q => hr a b pins s2 σ H2 x y v u Q I2 rx ry q (hs _ _))

def rIxL (K : PySem.W.Frag) : R2 := fun x y H Q => ∃ p xs i v, x = .ref p ∧ y = .int i ∧ SqL K H p xs ∧ atI xs i = some v ∧ Q v H
def rIxT (K : PySem.W.Frag) : R2 := fun x y H Q => ∃ p xs i v, x = .ref p ∧ y = .int i ∧ SqT K H p xs ∧ atI xs i = some v ∧ Q v H
def rIxS : R2 := fun x y H Q => ∃ z i c, x = .str z ∧ y = .int i ∧ z.length ≤ sizeLine ∧ atI z.cps.toList i = some c ∧ Q (.str ⟨#[c]⟩) H
theorem ix_list : IxR X (rIxL X.K) := by
  intro value slice pins s σ H x y v u Q I rx ry h hs
  obtain ⟨p, xs, i, z, rfl, rfl, hq, he, q⟩ := h
  cases rx
  obtain ⟨t, rfl⟩ := ry
  obtain ⟨its, r, pl, hz⟩ := I.list hq
  obtain ⟨j, h1, h2, h3, h4, h5⟩ := atI_get he
  obtain ⟨w, ew, rw'⟩ := r.get h2
  have hl := r.length
  have hn := line63
  have fin : EP X pins σ Q w s := ⟨z, H, I, rw', q⟩
  by_cases h0 : 0 ≤ i
  · have hj : i.toNat = j := by
      rw [seqIndex_of h0 h5] at h1
      exact Option.some.inj h1
    exact item_listR pl.isList h0 (by omega) (by rw [hj]; simpa using ew) fin hs
  · have hj : (i + (its.toArray.size : Int)).toNat = j := by
      rw [seqIndex_neg (by omega) h4] at h1
      rw [List.size_toArray, ← hl]
      exact Option.some.inj h1
    exact subscriptTail_builtinR (x := w) pl.isList.typeIs slot_list_getitem.lookup
      (wpAny_getItem_list_neg (Q := fun r s' => r = w ∧ EP X pins σ Q r s') pl.isList (by omega) (by rw [List.size_toArray] <;> omega) (by omega) (by rw [hj]; simpa using ew) ⟨rfl, fin⟩) hs
theorem ix_tup : IxR X (rIxT X.K) := by
  intro value slice pins s σ H x y v u Q I rx ry h hs
  obtain ⟨p, xs, i, z, rfl, rfl, hq, he, q⟩ := h
  cases rx
  obtain ⟨t, rfl⟩ := ry
  obtain ⟨its, r, pl, hz⟩ := I.tuple hq
  obtain ⟨j, h1, h2, h3, h4, h5⟩ := atI_get he
  obtain ⟨w, ew, rw'⟩ := r.get h2
  have hl := r.length
  have hn := line63
  have fin : EP X pins σ Q w s := ⟨z, H, I, rw', q⟩
  exact subscriptTail_builtinR (x := w) pl.typeIs slot_tuple_getitem.lookup
    (getItem_tuple (j := j) (Q := fun r s' => r = w ∧ EP X pins σ Q r s') pl (by omega) (by omega) (by rw [List.size_toArray, ← hl]; exact h1) (by simpa using ew) ⟨rfl, fin⟩) hs
theorem ix_str : IxR X rIxS := by
  intro value slice pins s σ H x y v u Q I rx ry h hs
  obtain ⟨z, i, c, rfl, rfl, hz, he, q⟩ := h
  obtain ⟨t, rfl⟩ := rx
  obtain ⟨t', rfl⟩ := ry
  obtain ⟨j, h1, h2, h3, h4, h5⟩ := atI_get he
  have hl : z.cps.toList.length = z.length := by simp [Str.length]
  rw [hl] at h1 h4 h5
  have hn := line63
  exact tail_any (typeIs_str s z t) slot_str_getitem.lookup (getItem_str (c := c) (by
    have e1 : decide (i < -(2 ^ 63 : Int)) = false := decide_eq_false (by omega)
    have e2 : decide (i ≥ 2 ^ 63) = false := decide_eq_false (by omega)
    rw [e1, e2, Bool.or_false]) (by rw [h1]; simpa using h2) ⟨.str ⟨#[c]⟩, H, I.tok _, ⟨_, rfl⟩, q⟩) hs

theorem mapSeq_set (its : List Value) (n j : Nat) (u : Value) : Obj.mapSeq (·.setIfInBounds j u) { cls := .type "list", data := .seq its.toArray n } = { cls := .type "list", data := .seq (its.set j u).toArray n } := by
  simp [Obj.mapSeq]
theorem Inv.lst {pins : List (Addr × Obj)} {σ : St} {H : Hp} {s : Shared} {p : Addr} {xs : List V} (I : Inv X pins σ H s) (h : H p = some (.lst xs)) :
    ∃ (its : List Value) (n : Nat), Vals xs its ∧ s.heap.get? p = some { cls := .type "list", data := .seq its.toArray n } ∧ xs.length ≤ sizeLine := by
  obtain ⟨z, its, n, r, e⟩ := I.hok p _ h
  exact ⟨its, n, r, e, z⟩

theorem Inv.lstUpd {pins : List (Addr × Obj)} {σ : St} {H : Hp} {s : Shared} {p : Addr} {xs ys : List V} {its its' : List Value} {n n' : Nat} {f : Obj → Obj} (I : Inv X pins σ H s) (h : H p = some (.lst xs))
    (ho : s.heap.get? p = some { cls := .type "list", data := .seq its.toArray n }) (hf : f { cls := .type "list", data := .seq its.toArray n } = { cls := .type "list", data := .seq its'.toArray n' }) (r : Vals ys its') (hz : ys.length ≤ sizeLine) (t : Nat) :
    Inv X pins σ (upd H p (.lst ys)) { s with heap := s.heap.update p f, toks := t } := by
  have e : (s.heap.update p f).get? p = some { cls := .type "list", data := .seq its'.toArray n' } := by
    rw [Heap.get?_update_self f ho (by rw [hf] <;> rfl), hf]
  refine I.write (x := p) (e := p) (by rw [h]; trivial) (.inl rfl) (fun b u hb q => (Heap.get?_update_other _ _ (Ne.symm hb)).trans q) ⟨_, e⟩ ?_
  exact ⟨hz, its', n', r, e⟩
def rSetL : V → V → V → Hp → (Hp → Prop) → Prop := fun o i v H Q => ∃ p xs k j, o = .ref p ∧ i = .int k ∧ H p = some (.lst xs) ∧ ixN xs.length k = some j ∧ Q (upd H p (.lst (xs.set j v)))
theorem set_list : PSet X rSetL := by
  intro pins s σ H o i v ov iv u Q I ro ri rv h
  obtain ⟨p, xs, k, j, rfl, rfl, hp, hj, q⟩ := h
  cases ro
  obtain ⟨t, rfl⟩ := ri
  obtain ⟨its, n, r, ho, hz⟩ := I.lst hp
  obtain ⟨h1, h2, h3, h4⟩ := ixN_seq hj
  have hl := r.length
  have hn := line63
  have I' : Inv X pins σ (upd H p (.lst (xs.set j v))) { s with heap := s.heap.update p (Obj.mapSeq (·.setIfInBounds j u)) } :=
    I.lstUpd hp ho (mapSeq_set its n j u) (r.set rv j) (by rw [List.length_set]; exact hz) s.toks
  by_cases h0 : 0 ≤ k
  · have hk : k.toNat = j := by
      rw [seqIndex_of h0 h4] at h1
      exact Option.some.inj h1
    exact PySem.W.ki_setAt ho h0 (by omega) (by rw [List.size_toArray, ← hl]; exact h4) (by rw [hk]; exact ⟨_, I', q⟩)
  · have hk : (k + (its.toArray.size : Int)).toNat = j := by
      rw [seqIndex_neg (by omega) h3] at h1
      rw [List.size_toArray, ← hl]
      exact Option.some.inj h1
    exact PySem.W.ki_setBack ho (by omega) (by rw [List.size_toArray, ← hl]; exact h3) (by omega) (by rw [hk]; exact ⟨_, I', q⟩)

theorem slice_bounds (lo hi : Option Int) (n : Nat) : (sliceBounds lo hi none n).1 = ((HT.sIx n 0 lo : Nat) : Int) ∧ (sliceBounds lo hi none n).2.1 = ((HT.sIx n n hi : Nat) : Int) ∧ (sliceBounds lo hi none n).2.2 = 1 := by
  refine ⟨?_, ?_, rfl⟩
  · cases lo with
    | none => simp [sliceBounds, HT.sIx]
    | some i =>
      simp only [sliceBounds, HT.sIx, Option.getD_none, show (1 : Int) > 0 by decide, if_true]
      by_cases h : i < 0
      · simp only [h, if_true] <;> omega
      · simp only [h, if_false] <;> omega
  · cases hi with
    | none => simp [sliceBounds, HT.sIx]
    | some i =>
      simp only [sliceBounds, HT.sIx, Option.getD_none, show (1 : Int) > 0 by decide, if_true]
      by_cases h : i < 0
      · simp only [h, if_true] <;> omega
      · simp only [h, if_false] <;> omega
theorem slicePick_cut (its : List Value) (lo hi : Option Int) : slicePick its.toArray lo hi none = ((its.drop (HT.sIx its.length 0 lo)).take (HT.sIx its.length its.length hi - HT.sIx its.length 0 lo)).toArray := by
  obtain ⟨h1, h2, h3⟩ := slice_bounds lo hi its.toArray.size
  unfold slicePick
  rw [h1, h2, h3]
  simp only [sliceRange_one, pick_run, List.size_toArray] <;> rfl

def rSlL (K : PySem.W.Frag) : V → Option Int → Option Int → Hp → VK → Prop := fun x lo hi H Q => ∃ a xs, x = .ref a ∧ SqL K H a xs ∧ ∀ p, H p = none → Q (.ref p) (upd H p (.lst (cutV xs lo hi)))

def flatV : V → Bool
  | .non => true
  | .bl _ => true
  | .int _ => true
  | .str _ => true
  | _ => false

def eqV : V → V → Bool
  | .non, .non => true
  | .bl a, .bl b => a == b
  | .bl a, .int b => (if a then 1 else 0) == b
  | .int a, .bl b => a == (if b then 1 else 0)
  | .int a, .int b => a == b
  | .str a, .str b => a == b
  | _, _ => false
theorem eqAt_V {A : Around} {s : Shared} {y x : V} {u v : Value} (ry : RelV y u) (rx : RelV x v) (fy : flatV y = true) (fx : flatV x = true) : SeqAt.EqAt A s u v (eqV y x) := by
  cases y with
  | non =>
    cases ry
    cases x with
    | non => cases rx; exact SeqAt.EqAt.same _
    | bl b => cases rx; exact SeqAt.EqAt.none_bool b
    | int b => obtain ⟨t, rfl⟩ := rx; exact SeqAt.EqAt.none_int b t
    | str b => obtain ⟨t, rfl⟩ := rx; exact SeqAt.EqAt.none_str b t
    | _ => exact absurd (show false = true from fx) Bool.false_ne_true
  | bl a =>
    cases ry
    cases x with
    | non => cases rx; exact SeqAt.EqAt.bool_none a
    | bl b => cases rx; exact SeqAt.EqAt.bool_bool a b
    | int b => obtain ⟨t, rfl⟩ := rx; exact SeqAt.EqAt.bool_int a b t
    | str b => obtain ⟨t, rfl⟩ := rx; exact SeqAt.EqAt.bool_str a b t
    | _ => exact absurd (show false = true from fx) Bool.false_ne_true
  | int a =>
    obtain ⟨t', rfl⟩ := ry
    cases x with
    | non => cases rx; exact SeqAt.EqAt.int_none a t'
    | bl b => cases rx; exact SeqAt.EqAt.int_bool a t' b
    | int b => obtain ⟨t, rfl⟩ := rx; exact SeqAt.EqAt.int_int a t' b t
    | str b => obtain ⟨t, rfl⟩ := rx; exact SeqAt.EqAt.int_str a t' b t
    | _ => exact absurd (show false = true from fx) Bool.false_ne_true
  | str a =>
    obtain ⟨t', rfl⟩ := ry
    cases x with
    | non => cases rx; exact SeqAt.EqAt.str_none a t'
    | bl b => cases rx; exact SeqAt.EqAt.str_bool a t' b
    | int b => obtain ⟨t, rfl⟩ := rx; exact SeqAt.EqAt.str_int a t' b t
    | str b => obtain ⟨t, rfl⟩ := rx; exact SeqAt.EqAt.str_str a t' b t
    | _ => exact absurd (show false = true from fx) Bool.false_ne_true
  | _ => exact absurd (show false = true from fy) Bool.false_ne_true

def inV (x : V) (xs : List V) : Bool := xs.any fun y => eqV y x

theorem call_list_of : CallR X (.type "list") (fun xs H Q => ∃ p ys, xs = [.ref p] ∧ (SqL X.K H p ys ∨ SqT X.K H p ys) ∧ ∀ l, H l = none → Q (.ref l) (upd H l (.lst ys))) := by
  intro pins s σ H xs us Q I r h
  obtain ⟨p, ys, rfl, hq, q⟩ := h
  obtain ⟨u, rfl, rx⟩ := vals1 r
  cases rx
  have fin : ∀ (its : List Value), Vals ys its → ys.length ≤ sizeLine → ∀ (h' : Heap) (c' : Nat), (∀ b o', s.heap.get? b = some o' → h'.get? b = some o') →
      h'.get? s.heap.objs.size = some { cls := .type "list", dict := none, data := .seq its.toArray c', slots := #[] } → EP X pins σ Q (.ref s.heap.objs.size) { s with heap := h' } := fun its r' hz h' c' kp e =>
    ⟨.ref s.heap.objs.size, _, I.laid (t' := s.toks) kp (Nat.le_refl _) (show ObjOk X.prog X.w _ h' _ (.lst ys) from ⟨hz, its, c', r', e⟩), rfl, q _ (I.hok.fresh (Nat.le_refl _))⟩
  rcases hq with hq | hq
  · obtain ⟨its, r', pl, hz⟩ := I.list hq
    have hlen := r'.length
    obtain ⟨o, ho, hc, n, hd⟩ := pl.isList
    exact call_list_seq p (.inl rfl) ho hc hd (fun h' c' kp e => fin its r' hz h' c' kp e) (by simp only [List.size_toArray] <;> omega)
  · obtain ⟨its, r', pl, hz⟩ := I.tuple hq
    have hlen := r'.length
    obtain ⟨o, ho, hc, n, hd⟩ := pl
    exact call_list_seq p (.inr rfl) ho hc hd (fun h' c' kp e => fin its r' hz h' c' kp e) (by simp only [List.size_toArray] <;> omega)
def tyV (K : PySem.W.Frag) (T : String) (x : V) (H : Hp) : Prop := match x with
  | .str _ => T = "str"
  | .int _ => T = "int"
  | .ref p => (T = "list" ∧ ∃ xs, SqL K H p xs) ∨ (T = "tuple" ∧ ∃ o, K.lookup p = some o ∧ o.cls = .type "tuple" ∧ o.dict = none) ∨
      (T = "dict" ∧ ((∃ kvs, H p = some (.dK kvs)) ∨ ∃ kvs, H p = some (.dT kvs))) ∨ (T = "set" ∧ ∃ S n, H p = some (.set S n))
  | _ => False
theorem tyV_is {pins : List (Addr × Obj)} {σ : St} {H : Hp} {s : Shared} {T : String} {x : V} {v : Value} (I : Inv X pins σ H s) (r : RelV x v) (ty : tyV X.K T x H) :
    s.TypeIs v T ∧ ∀ a, v = .ref a → ∃ ob, s.heap.get? a = some ob ∧ ob.dict = none := by
  cases x with
  | str z =>
    obtain ⟨t, rfl⟩ := r
    cases (show T = "str" from ty)
    exact ⟨typeIs_str s z t, fun _ e => nomatch e⟩
  | int i =>
    obtain ⟨t, rfl⟩ := r
    cases (show T = "int" from ty)
    exact ⟨typeIs_int s i t, fun _ e => nomatch e⟩
  | ref p =>
    cases r
    rcases ty with ⟨rfl, xs, hq⟩ | ⟨rfl, o, hk, hc, hd⟩ | ⟨rfl, hk⟩ | ⟨rfl, S, n, hk⟩
    · obtain ⟨its, _, pl, _⟩ := I.list hq
      refine ⟨pl.isList.typeIs, fun a e => ?_⟩
      cases e
      obtain ⟨o, n, e, c, hd, _⟩ := pl
      exact ⟨o, e, hd⟩
    · refine ⟨⟨o, I.kIn p o hk, hc⟩, fun a e => ?_⟩
      cases e
      exact ⟨o, I.kIn _ o hk, hd⟩
    · have z : ∃ o, s.heap.get? p = some o ∧ o.ExactDict := by
        rcases hk with ⟨kvs, hk⟩ | ⟨kvs, hk⟩
        · obtain ⟨_, _, _, _, o, _, _, e, ex, _⟩ := I.hok p _ hk
          exact ⟨o, e, ex⟩
        · obtain ⟨_, _, _, _, o, _, _, e, ex, _⟩ := I.hok p _ hk
          exact ⟨o, e, ex⟩
      obtain ⟨o, e, ex⟩ := z
      refine ⟨⟨o, e, ex.1⟩, fun a e2 => ?_⟩
      cases e2
      exact ⟨o, e, ex.2.1⟩
    · obtain ⟨o, _, _, _, e, ex, _⟩ := I.hok p _ hk
      refine ⟨⟨o, e, ex.1⟩, fun a e2 => ?_⟩
      cases e2
      exact ⟨o, e, ex.2.1⟩
  | _ => exact False.elim ty
def tBM (K : PySem.W.Frag) (T : String) (r : V → List V → Hp → VK → Prop) (to : TE) (t : TA) : TE := fun σ H Q => to σ H fun x H1 => tyV K T x H1 ∧ t σ H1 fun xs H2 => r x xs H2 Q
variable {o e : Expr} {es : List Expr} {to : TE} {t : TA} {name : Str} {apos cpos : Pos} {T id : String} {r : V → List V → Hp → VK → Prop}
theorem pe_bm (pa : PlainAttrs T) (slot : Slot T name id) (hty : typeOf (.builtin id) = pure (.type "method_descriptor")) (hm : MtR X id r) (ho : PE X o to) (ha : PA X (e :: es) t)
    (hbase : attributeBase o name X.env (eval o X.env) = eval o X.env := by rfl)
    (hfew : ((backTo cpos (starEach (e :: es) X.env)).all (fun x => !x.1) && (backToKw cpos (keywordEach [] X.env)).all (fun x => x.1.isSome)
      && decide ((e :: es).length + ([] : List Keyword).length + (if ([] : List Keyword).isEmpty then 0 else 1) < 30)) = true := by rfl)
    (hline : (apos.endLine == cpos.line) = true := by rfl) (hs : starEach (e :: es) X.env = (false, eval e X.env) :: starEach es X.env := by rfl) (hplain : (backTo cpos (starEach es X.env)).any (·.1) = false := by rfl) :
    PE X (.Call (.Attribute o name apos) (e :: es) [] cpos) (tBM X.K T r to t) := by
  refine ⟨?_⟩
  intro pins s σ H Q I h
  refine wpAny_Call_method_late hbase hfew hline rfl (thn (ho pins s σ H _ I h) fun v s1 ⟨x, H1, I1, r1, ty, q1⟩ => ?_)
  obtain ⟨h1, h2⟩ := tyV_is I1 r1 ty
  refine ⟨T, id, pa, slot, hty, h1, h2, ?_⟩
  have hA := ha cpos pins s1 σ H1 _ I1 q1
  rw [hs] at hA ⊢
  refine Calls.callWith_builtin (by show (false || (backTo cpos (starEach es X.env)).any (·.1)) = false; rw [hplain] <;> rfl) (Calls.evalArgs_plain ?_)
  exact thn hA fun us s2 ⟨vs, H2, I2, r2, q2⟩ => hm pins s2 σ H2 x vs v us Q I2 r1 r2 q2

end
end L2

namespace L2
open PySem PySem.Spec PyProof.Rows

def MtM (X : Cx) (id : String) (r : V → List V → Hp → VK → Prop) : Prop :=
  ∀ (pins : List (Addr × Obj)) (s : Shared) (σ : St) (H : Hp) (x : V) (xs : List V) (v : Value) (us : List Value) (Q : VK), Inv X pins σ H s → RelV x v → Vals xs us → r x xs H Q →
    wpAny (model X.prog X.w) X.A (call (.builtin id) (v :: us)) (EP X pins σ Q) X.xe s

theorem Vals.one : ∀ {x : V} {us : List Value}, Vals [x] us → ∃ u, us = [u] ∧ RelV x u
  | _, _, .cons r .nil => ⟨_, rfl, r⟩
section
variable {X : Cx} {pins : List (Addr × Obj)} {σ : St} {H : Hp} {s : Shared} {l b : Addr} {xs ys zs : List V}

theorem Inv.lset {its its' : List Value} {n : Nat} {f : Array Value → Array Value} {t' : Nat} (I : Inv X pins σ H s) (hH : H l = some (.lst xs))
    (e : s.heap.get? l = some { cls := .type "list", data := .seq its.toArray n }) (hf : f its.toArray = its'.toArray) (hv : Vals ys its') (hz : ys.length ≤ sizeLine) :
    Inv X pins σ (upd H l (.lst ys)) { s with heap := s.heap.update l (Obj.mapSeq f), toks := t' } := by
  have q := PySem.IsL.update e f
  rw [hf] at q
  refine I.write (x := l) (e := l) (by rw [hH]; exact trivial) (.inl rfl) (fun b' u hb hu => (Heap.get?_update_other s.heap (Obj.mapSeq f) (Ne.symm hb)).trans hu) ⟨_, q⟩ ?_
  exact ⟨hz, its', _, hv, q⟩
theorem Inv.lnew {its : List Value} {t' : Nat} (I : Inv X pins σ H s) (hv : Vals ys its) (hz : ys.length ≤ sizeLine) :
    Inv X pins σ (upd H s.heap.objs.size (.lst ys)) { s with heap := s.heap.push { cls := .type "list", data := .seq its.toArray }, toks := t' } :=
  I.laid (fun _ _ q => Heap.get?_push_of_some _ q) (Nat.le_refl _) ⟨hz, its, 0, hv, Heap.get?_push_size _ rfl⟩
theorem Inv.fresh (I : Inv X pins σ H s) : H s.heap.objs.size = none := I.hok.fresh (Nat.le_refl _)
theorem Inv.lstM (I : Inv X pins σ H s) (hH : H l = some (.lst xs)) : xs.length ≤ sizeLine ∧ ∃ (its : List Value) (n : Nat), Vals xs its ∧ xs.length = its.length ∧ s.heap.get? l = some { cls := .type "list", data := .seq its.toArray n } := by
  obtain ⟨z, its, n, r, e⟩ := I.hok l _ hH
  exact ⟨z, its, n, r, r.length, e⟩

theorem notLongL {n : Nat} (h : n ≤ sizeLine) : Builtin.List.listTooLong n = false := by
  unfold Builtin.List.listTooLong
  exact decide_eq_false (by omega)
end

section
variable {X : Cx}

def rAppend : V → List V → Hp → VK → Prop := fun x vs H Q => ∃ l xs y, x = .ref l ∧ vs = [y] ∧ H l = some (.lst xs) ∧ xs.length < sizeLine ∧ Q .non (upd H l (.lst (xs ++ [y])))
theorem mt_append : MtM X "list.append" rAppend := by
  intro pins s σ H x vs v us Q I rx rv h
  obtain ⟨l, xs, y, rfl, rfl, hH, hz, q⟩ := h
  cases rx
  obtain ⟨u, rfl, ru⟩ := rv.one
  obtain ⟨z, its, n, r, hl, e⟩ := I.lstM hH
  refine call_meets F.slot_list_append ⟨_, e, rfl⟩ F.entry_list_append (F.args_list_append_2 _ _) (PySem.list_append l its.toArray n u (by rw [List.size_toArray]; omega)) ⟨e, ?_⟩
  refine ⟨.non, _, I.lset (its' := its ++ [u]) hH e (by simp) (r.append (.cons ru .nil)) ?_, rfl, q⟩
  rw [List.length_append, List.length_singleton]
  omega

def rExtend : V → List V → Hp → VK → Prop := fun x vs H Q => ∃ l b xs zs, x = .ref l ∧ vs = [.ref b] ∧ H l = some (.lst xs) ∧ H b = some (.lst zs) ∧ xs.length + zs.length ≤ sizeLine ∧ Q .non (upd H l (.lst (xs ++ zs)))
theorem mt_extend : MtM X "list.extend" rExtend := by
  intro pins s σ H x vs v us Q I rx rv h
  obtain ⟨l, b, xs, zs, rfl, rfl, hH, hB, hz, q⟩ := h
  cases rx
  obtain ⟨u, rfl, ru⟩ := rv.one
  cases ru
  obtain ⟨z, its, n, r, hl, e⟩ := I.lstM hH
  obtain ⟨z2, its2, n2, r2, hl2, e2⟩ := I.lstM hB
  have hsz : its.toArray.size + its2.toArray.size ≤ sizeLine := by rw [List.size_toArray, List.size_toArray]; omega
  have hlong : ¬ (!its.toArray.isEmpty && Builtin.List.listTooLong (its.toArray.size + its2.toArray.size)) = true := by
    rw [notLongL hsz, Bool.and_false]
    exact Bool.false_ne_true
  refine call_meets F.slot_list_extend ⟨_, e, rfl⟩ F.entry_list_extend (F.args_list_extend_2 _ _)
    (AutoSeq1.list_extend_list_list_0 l its.toArray n b its2.toArray n2 hlong (by rw [List.size_toArray]; omega) (by omega)) ⟨e, e2, ?_⟩
  refine ⟨.non, _, I.lset (its' := its ++ its2) hH e (by simp) (r.append r2) ?_, rfl, q⟩
  rw [List.length_append]
  omega

def rCat : R2 := fun x y H Q => ∃ l b xs zs, x = .ref l ∧ y = .ref b ∧ H l = some (.lst xs) ∧ H b = some (.lst zs) ∧ xs.length + zs.length ≤ sizeLine ∧ ∀ p, H p = none → Q (.ref p) (upd H p (.lst (xs ++ zs)))
theorem op_cat : OpR X (binaryOp .Add) rCat := by
  intro pins s σ H x y v u Q I rx ry h
  obtain ⟨l, b, xs, zs, rfl, rfl, hH, hB, hz, q⟩ := h
  cases rx
  cases ry
  obtain ⟨z, its, n, r, hl, e⟩ := I.lstM hH
  obtain ⟨z2, its2, n2, r2, hl2, e2⟩ := I.lstM hB
  refine PySem.P.add_list e e2 ?_ (by rw [List.size_toArray, List.size_toArray]; omega)
  have ea : its.toArray ++ its2.toArray = (its ++ its2).toArray := by simp
  rw [ea]
  exact ⟨.ref _, _, I.lnew (t' := s.toks) (r.append r2) (by rw [List.length_append]; omega), rfl, q _ I.fresh⟩

end

section
variable {prog : Program} {w : World} {A : Around} {E : Value → Shared → Prop} {s : Shared}
set_option maxRecDepth 100000 in

end

section
variable {X : Cx}

end
end L2

namespace L2
open PySem PySem.Spec PyProof.Rows

section
variable {κ : Type} [DecidableEq κ]
def valV (kvs : List (κ × V)) (k : κ) : Option V := (kvs.find? fun kv => decide (kv.1 = k)).map (·.2)

theorem valV_pos {p : κ × V} {r : List (κ × V)} {k : κ} (e : p.1 = k) : valV (p :: r) k = some p.2 := by simp [valV, List.find?_cons, e]
theorem valV_neg {p : κ × V} {r : List (κ × V)} {k : κ} (e : ¬ p.1 = k) : valV (p :: r) k = valV r k := by simp [valV, List.find?_cons, e]
theorem KV.val {kvs : List (κ × V)} {vs : List (κ × Value)} (r : KV kvs vs) (k : κ) : RelO (valV kvs k) (valueAt vs k) := by
  unfold KV at r
  induction r with
  | nil => exact True.intro
  | @cons p q ps qs h t ih =>
    obtain ⟨h1, h2⟩ := h
    by_cases e : p.1 = k
    · have e' : q.1 = k := h1.symm.trans e
      have b : valueAt (q :: qs) k = some q.2 := by simp [valueAt, List.find?_cons, e']
      rw [valV_pos e, b]; exact h2
    · have e' : ¬ q.1 = k := fun z => e (h1.trans z)
      have b : valueAt (q :: qs) k = valueAt qs k := by simp [valueAt, List.find?_cons, e']
      rw [valV_neg e, b]; exact ih
end

theorem kV_is {P : Program} {w : World} {k : Key} {u : Value} (r : RelV (kV k) u) : (mixKind P w).is k u = true := by
  cases k with
  | inl i => obtain ⟨t, e⟩ := (show ∃ t, u = Value.int i t from r); subst e; exact mixKind_int P w i t
  | inr x => obtain ⟨t, e⟩ := (show ∃ t, u = Value.str x t from r); subst e; exact mixKind_str P w x t
theorem items_are {P : Program} {w : World} : ∀ {ks : List Key} {us : List Value}, Vals (ks.map kV) us → ItemsAre (mixKind P w) ks us
  | [], _, r => by rw [List.map_nil] at r; cases r; exact .nil
  | k :: ks, _, r => by
    rw [List.map_cons] at r
    cases r with
    | cons h t => exact .cons (kV_is h) (items_are t)

abbrev KT (H : Hp) : List (List Key × V) → List (List Key × Addr × Value) → Prop := Paired fun p q => p.1 = q.1 ∧ H q.2.1 = some (.tup (p.1.map kV)) ∧ RelV p.2 q.2.2
theorem KT.val {H : Hp} {kvs : List (List Key × V)} {xs : List (List Key × Addr × Value)} (r : KT H kvs xs) (k : List Key) : RelO (valV kvs k) ((atKey xs k).map (·.2)) := by
  induction r with
  | nil => exact True.intro
  | @cons p q ps qs h t ih =>
    obtain ⟨h1, _, h2⟩ := h
    by_cases e : p.1 = k
    · have e' : q.1 = k := h1.symm.trans e
      have b : atKey (q :: qs) k = some q.2 := by simp [atKey, List.find?_cons, e']
      rw [valV_pos e, b]; exact h2
    · have e' : ¬ q.1 = k := fun z => e (h1.trans z)
      have b : atKey (q :: qs) k = atKey qs k := by simp [atKey, List.find?_cons, e']
      rw [valV_neg e, b]; exact ih
section
variable {P : Program} {w : World} {H : Hp} {h : Heap} {a : Addr}
theorem rd_of {u : HO} (ok : HOk P w H h) (e : Rd H a u) : ObjOk P w H h a u := e.ok ok
theorem dk_rd {kvs : List (Key × V)} (ok : HOk P w H h) (e : Rd H a (.dK kvs)) : kvs.length ≤ sizeLine ∧ (a == sysModules) = false ∧ ∃ vs, KV kvs vs ∧ h.DictOf (mixKind P w) a vs :=
  show ObjOk P w H h a (.dK kvs) from rd_of ok e
theorem key_of {ks : List Key} (ok : HOk P w H h) (e : H a = some (.tup (ks.map kV))) : (tupleKind (mixKind P w)).is h ks a := by
  obtain ⟨_, its, r, o, h1, h2, n, h3⟩ := (show ObjOk P w H h a (.tup (ks.map kV)) from ok a _ e)
  exact ⟨o, its.toArray, n, h1, h2, h3, by simpa using items_are r⟩
theorem dt_rd {kvs : List (List Key × V)} (ok : HOk P w H h) (e : Rd H a (.dT kvs)) : kvs.length ≤ sizeLine ∧ (a == sysModules) = false ∧
    ∃ xs, KT H kvs xs ∧ h.DictOfH (tupleKind (mixKind P w)) a xs := by
  obtain ⟨z, y, xs, r, o, es, ep, h1, h2, h3, h4, h5⟩ := (show ObjOk P w H h a (.dT kvs) from rd_of ok e)
  refine ⟨z, y, xs, r, o, es, ep, h1, h2, h3, h4, fun x hx => ?_, h5⟩
  have all : ∀ {l : List (List Key × V)} {m : List (List Key × Addr × Value)}, KT H l m → ∀ x ∈ m, (tupleKind (mixKind P w)).is h x.1 x.2.1 := by
    intro l m q
    induction q with
    | nil => intro x hx; exact nomatch hx
    | @cons p q ps qs hq t ih =>
      intro x hx
      rcases List.mem_cons.mp hx with e | hx
      · subst e
        exact key_of ok (by rw [← hq.1]; exact hq.2.1)
      · exact ih x hx
  exact all r x hx
end

def DGet (H : Hp) (a : Addr) (y : V) (r : Option V) : Prop :=
  (∃ kvs k, Rd H a (.dK kvs) ∧ y = kV k ∧ r = valV kvs k) ∨ ∃ kvs k b, Rd H a (.dT kvs) ∧ y = .ref b ∧ H b = some (.tup (k.map kV)) ∧ r = valV kvs k

section
variable {X : Cx} {pins : List (Addr × Obj)} {σ : St} {H : Hp} {s : Shared} {a : Addr} {y v : V} {u r : Value} {o : Option V} {A : Around} {E : Value → Shared → Prop}

theorem d_getItem {Q : Value → Shared → Prop} (hu : A.units + 1 < cLine) (I : Inv X pins σ H s) (g : DGet H a y (some v)) (ry : RelV y u) (h : ∀ w' s', Inv X pins σ H s' → RelV v w' → Q w' s') :
    wpAny (model X.prog X.w) A (getItem (.ref a) u) Q E s := by
  rcases g with ⟨kvs, k, e, ey, l⟩ | ⟨kvs, k, b, e, ey, eb, l⟩
  · subst ey
    obtain ⟨z, hd, vs, rel, dd⟩ := dk_rd I.hok e
    obtain ⟨w', hw, rw'⟩ := RelO.some_of (v := v) (o := valueAt vs k) (by rw [l]; exact rel.val k)
    exact wpAny_getItem_of (kV_is ry) dd.mapOf hw (h w' _ (I.tok _) rw')
  · subst ey
    cases (show u = Value.ref b from ry)
    obtain ⟨z, hd, xs, rel, dd⟩ := dt_rd I.hok e
    obtain ⟨w', hw, rw'⟩ := RelO.some_of (v := v) (o := (atKey xs k).map (·.2)) (by rw [l]; exact rel.val k)
    obtain ⟨p, hp, hp2⟩ := Option.map_eq_some_iff.mp hw
    refine wpAny_getItem_heap (tupleKind_room_in1 hu) (key_of I.hok eb) dd hp ?_
    rw [hp2]
    exact h w' _ (I.tok _) rw'

end

section
variable {X : Cx} {pins : List (Addr × Obj)} {σ : St} {H : Hp} {s : Shared} {a : Addr} {kvs : List (Key × V)} {k : Key} {u : Value} {A : Around} {E : Value → Shared → Prop}

end

theorem dict_typeIs {X : Cx} {pins : List (Addr × Obj)} {σ : St} {H : Hp} {s : Shared} {a : Addr} {y : V} {o : Option V} (I : Inv X pins σ H s) (g : DGet H a y o) : s.TypeIs (.ref a) "dict" := by
  rcases g with ⟨kvs, k, e, _, _⟩ | ⟨kvs, k, b, e, _, _, _⟩
  · obtain ⟨_, _, vs, _, dd⟩ := dk_rd I.hok e
    exact dd.typeIs
  · obtain ⟨_, _, xs, _, dd⟩ := dt_rd I.hok e
    exact dd.typeIs


structure M1 (X : Cx) (o : Expr) (m : Str) (apos : Pos) (e : Expr) (cpos : Pos) : Prop where
  base : attributeBase o m X.env (eval o X.env) = eval o X.env
  few : ((backTo cpos (starEach [e] X.env)).all (fun x => !x.1) && (backToKw cpos (keywordEach [] X.env)).all (fun x => x.1.isSome)
    && decide (([e] : List Expr).length + ([] : List Keyword).length + (if ([] : List Keyword).isEmpty then 0 else 1) < 30)) = true
  line : (apos.endLine == cpos.line) = true
  trees : backTo cpos (starEach [e] X.env) = [(false, eval e X.env)]
structure M2 (X : Cx) (o : Expr) (m : Str) (apos : Pos) (e f : Expr) (cpos : Pos) : Prop where
  base : attributeBase o m X.env (eval o X.env) = eval o X.env
  few : ((backTo cpos (starEach [e, f] X.env)).all (fun x => !x.1) && (backToKw cpos (keywordEach [] X.env)).all (fun x => x.1.isSome)
    && decide (([e, f] : List Expr).length + ([] : List Keyword).length + (if ([] : List Keyword).isEmpty then 0 else 1) < 30)) = true
  line : (apos.endLine == cpos.line) = true
  trees : backTo cpos (starEach [e, f] X.env) = [(false, eval e X.env), (false, eval f X.env)]

section
variable {X : Cx} {pins : List (Addr × Obj)} {σ : St} {H : Hp} {s : Shared} {a : Addr} {y d : V} {u r : Value} {o : Option V} {A : Around} {E : Value → Shared → Prop}

end



section
variable {X : Cx} {pins : List (Addr × Obj)} {σ : St} {H : Hp} {s : Shared} {a : Addr} {y : V} {u : Value} {A : Around} {E : Value → Shared → Prop}

end
end L2

namespace Att
open PySem PySem.W PySem.Calls PyProof.Rows

theorem ints_of_wellAll {P : Params} {h : Heap} : ∀ (ns : List Int) (vs : List Value), WellAll P h vs (ns.map WData.int) → IntsAre vs ns := by
  intro ns
  induction ns with
  | nil =>
    intro vs w
    rw [List.map_nil] at w
    cases w
    exact .nil
  | cons n ns ih =>
    intro vs w
    rw [List.map_cons] at w
    cases w with
    | cons a b =>
      cases a
      exact .cons _ _ (ih _ b)

theorem script_of {l : OpenLaw} {n : Nat} (hn : l.most = some n) {P : Params} {h : Heap} {args : List WData} {vals : List Value}
    (hpre : l.row.toRowW.claim.pre args = true) (hwl : WellAll P h vals args) :
    ∃ a vs ns, vals = [Value.ref a] ∧ args = [WData.list (ns.map WData.int)] ∧ h.get? a = some { cls := .type "list", data := .seq vs.toArray } ∧ IntsAre vs ns ∧ ns.length ≤ n := by
  have hsh : WShape.hasAll [] args [.list .int] = true := (pre_splitW hpre).1
  have hc : l.pre.holds [] { args := args } = true := (pre_splitW hpre).2
  obtain ⟨d, r, rfl, h1, h2⟩ := hasAllW_cons hsh
  obtain rfl := hasAllW_nil h2
  obtain ⟨xs, rfl, h3⟩ := hasW_list h1
  obtain ⟨ns, rfl⟩ := items_int h3
  have hlen : ns.length ≤ n := by
    unfold OpenLaw.pre at hc
    have h4 : (WTm.not (.lt (.lit (.int (n : Int))) (.len (.arg 0)))).holds [] { args := [.list (ns.map .int)] } = true := by
      have h4 := (holds_andW hc).1
      rw [hn] at h4
      exact h4
    have h5 := condW_of h4 (w_not (w_lt w_lit (w_len_list (w_arg rfl))))
    rw [List.length_map] at h5
    refine Nat.le_of_not_lt fun q => ?_
    have q' : (n : Int) < ((ns.length : Nat) : Int) := by omega
    first
      | (rw [decide_eq_true q'] at h5; exact absurd h5 (by decide))
      | (simp at h5; omega)
  cases hwl with
  | cons w1 w2 =>
    cases w2
    cases w1 with
    | list ho hall => exact ⟨_, _, ns, rfl, rfl, ho, ints_of_wellAll ns _ hall, hlen⟩

theorem post_true (l : OpenLaw) (args : List WData) : l.row.toRowW.claim.post args (.bool true) args = true :=
  postW_of (r := l.row.toRowW) (X := (true == true))
    (show WShape.has [] (.bool true) .bool = true by first | rfl | decide | simp [WShape.has, WShape.arms, WShape.armsAll])
    (show (WTm.eq .res (.lit (.bool true))).value [] { args := args, res := some (.bool true), after := args } = some (.bool (true == true)) from w_eq_bool (w_res rfl) w_lit) rfl

theorem attach_call {l : OpenLaw} {n : Nat} {q : Program} {loose : List Str} {XP : (Str → Option Value) → Heap → Prop} {YP : World → Heap → Prop} {d : DefRec}
    (hn : l.most = some n) (hdf : d.params.defaults = [])
    (call : ∀ (w : World) (s₀ s₁ : Shared) (mg mb : Str → Option Value) (fa : Addr) (o : Obj) (pm cd doc : Value) (a : Addr) (vs : List Value) (ns : List Int),
      Ground q loose [] XP w s₀ mg mb s₁.heap → YP w s₁.heap →
      s₁.heap.get? fa = some o → o.data = .func (docDef d.name d.params d.body d.scope pm cd doc) → s₁.heap.CodeRec cd d.name → mg d.name = some (.ref fa) →
      s₁.heap.get? a = some { cls := .type "list", data := .seq vs.toArray } → IntsAre vs ns → ns.length ≤ n → s₁.gens = #[] →
      codeAny (model l.prog w) callerA (.call (.ref fa) ⟨[.ref a], []⟩) (fun r s' => r = .ok (.ret (.bool true)) ∧ OldK s₁.heap s'.heap ∧ s'.os = s₁.os ∧ AllBare s'.gens) s₁) :
    WalkO q loose XP YP l.row.toRowW d [] (fun f vs => PySem.call f vs) := by
  intro w s₀ s₁ mg mb G Y fa o pm cd doc dV kV ho hd hcd hD hmg hg args vals as hpre hlay hrd hwl hlo
  obtain rfl : dV = .none := Dflts.none hD hdf
  obtain rfl : kV = .none := Dflts.noKw hD
  obtain ⟨a, vs, ns, rfl, rfl, hobj, hints, hlen⟩ := script_of hn hpre hwl
  refine enter_call (codeAny_mono (call w s₀ s₁ mg mb fa o pm cd doc a vs ns G Y ho (fd_plain hd) hcd hmg hobj hints hlen hg) fun r s' hq => ?_)
  obtain ⟨rfl, h2, h3, h4⟩ := hq
  exact ⟨.inl ⟨.bool true, .bool true, [], rfl, fun _ => rfl, .bool true, post_true l _, fun _ => ⟨List.Pairwise.nil, fun _ hm => (nomatch hm)⟩⟩, h2, h3, h4⟩

section
variable {prog : Program} {w : World} {A : Around} {E : Value → Shared → Prop} {s : Shared} {K : Frag}

end
end Att

namespace L2
open PySem PySem.Spec PyProof.Rows

theorem vals_ints : ∀ {vs : List Value} {ns : List Int}, IntsAre vs ns → Vals (ns.map V.int) vs
  | _, _, .nil => .nil
  | _, _, .cons n t h => .cons ⟨t, rfl⟩ (vals_ints h)

def Only (H : Hp) : Prop := ∀ b, H b = none ∨ ∃ o xs, H b = some (.frz o (.lst xs))

theorem law_call {P : Program} {w : World} {K : PySem.W.Frag} {mg mb : Str → Option Value} {CX : CXT} {k : Nat} {fa a : Addr} {fd : FuncData} {x : Str} {sp : Sp} {s₁ : Shared} {vs : List Value} {ns : List Int}
    (KX : K.In s₁.heap) (hns : s₁.heap.Ns mainGlobals mg) (hb : s₁.heap.Ns builtinsNs mb) (hbb : ∀ x : Str, x ≠ "__name__" → mb x = bootBuiltins x) (hlim : s₁.heap.NoLimit) (hg : s₁.gens = #[])
    (ha : s₁.heap.get? a = some { cls := .type "list", data := .seq vs.toArray }) (hi : IntsAre vs ns) (hl : ns.length ≤ sizeLine) (hr : Room k callerA)
    (F : ∀ base : Heap, K.In base → base.Ns mainGlobals mg → FnOk P w K mg base CX k fa fd [x] sp) (hbind : ∀ (s : Shared) (u : Value), BindsTo s fd ⟨[u], []⟩ [(x, u)])
    (hsp : ∀ H : Hp, Only H → SqL K H a (ns.map V.int) → sp [.ref a] H (fun v _ => v = .bl true) fun _ _ _ => False)
    (hCX : ∀ H e s', CX [] H s₁ (fun _ _ _ => False) e s' → False) :
    codeAny (model P w) callerA (.call (.ref fa) ⟨[.ref a], []⟩) (fun r s' => r = .ok (.ret (.bool true)) ∧ OldK s₁.heap s'.heap ∧ s'.os = s₁.os ∧ AllBare s'.gens) s₁ := by
  have rv := vals_ints hi
  have lenV := hi.length

  have core : ∀ H : Hp, Only H → SqL K H a (ns.map V.int) → HOk P w H s₁.heap → (∀ b, H b ≠ none → b = a) → (H a ≠ none → K.lookup a = none) →
      codeAny (model P w) callerA (.call (.ref fa) ⟨[.ref a], []⟩) (fun r s' => r = .ok (.ret (.bool true)) ∧ OldK s₁.heap s'.heap ∧ s'.os = s₁.os ∧ AllBare s'.gens) s₁ := by
    intro H hO hS hok hA hK
    have base_of : ∀ {b : Addr} {o : Obj}, s₁.heap.get? b = some o → H b = none → (hidT s₁.heap H).get? b = some o := fun e n => hidT_get e n
    have noA : ∀ {b : Addr} {o : Obj} {es : Array DictEntry} {ep : Nat}, s₁.heap.get? b = some o → o.data = .dict es ep → H b = none := fun {b o es ep} e d => by
      cases q : H b with
      | none => rfl
      | some u =>
        have e' : b = a := hA b (by rw [q]; simp)
        subst e'
        rw [ha] at e; cases e
        have d' : Data.seq vs.toArray _ = Data.dict es ep := d
        cases d'
    have nsK : ∀ {b : Addr} {m : Str → Option Value}, s₁.heap.Ns b m → (hidT s₁.heap H).Ns b m := fun {b m} ⟨o, es, ep, e, d, r⟩ => ⟨o, es, ep, base_of e (noA e d), d, r⟩
    have hKb : K.In (hidT s₁.heap H) := fun b o e => base_of (KX b o e) (by
      cases q : H b with
      | none => rfl
      | some u =>
        have e' : b = a := hA b (by rw [q]; simp)
        subst e'
        rw [hK (by rw [q]; simp)] at e; cases e)
    have hM : Mod K mg (hidT s₁.heap H) := ⟨hKb, nsK hns, ⟨mb, nsK hb, hbb⟩, let ⟨mc, h1, h2⟩ := hlim; ⟨mc, nsK h1, h2⟩⟩
    have e0 : Env0 P w K mg (hidT s₁.heap H) callerA [] s₁ H := ⟨rfl, hM, fun b o e => of_hidT e, Nat.le_of_eq (hidT_size _ _), trivial, fun b hb => absurd (show b ∈ ([] : List Addr) from hb) (by simp), hok, .of_eq hg⟩
    refine codeAny_mono ((F _ hKb (nsK hns)).run callerA [] s₁ H ⟨[.ref a], []⟩ [.ref a] [.ref a] _ _ hr e0 (hbind s₁ (.ref a)) (.cons rfl .nil) (hsp H hO hS)) fun r s' h => ?_
    cases r with
    | error e => exact (hCX H e s' h).elim
    | ok fl =>
      cases fl with
      | next => exact False.elim h
      | brk => exact False.elim h
      | cont => exact False.elim h
      | ret u =>
        obtain ⟨v, H', os, bare, un, hok', r', q⟩ := h
        have q' : v = .bl true := q
        subst q'
        obtain rfl : u = Value.bool true := r'
        refine ⟨rfl, OldK.of_keep fun b o e => ?_, os, bare⟩
        cases q : H b with
        | none => exact un.keep b o e q (by intro z; exact absurd (show b ∈ ([] : List Addr) from z) (by simp)) (by simp)
        | some u =>
          rcases hO b with z | ⟨ob, xs, z⟩
          · rw [q] at z; cases z
          · have z2 := un.frzs b ob _ z
            obtain ⟨e1, _⟩ := hok b _ z
            obtain ⟨e2, _⟩ := hok' b _ z2
            rw [e] at e1; cases e1
            exact e2
  cases hk : K.lookup a with
  | some o =>

    have e := KX a o hk
    rw [ha] at e
    cases e
    refine core (fun _ => none) (fun _ => .inl rfl) (.inr ⟨_, vs.toArray, _, hk, rfl, rfl, rfl, by rw [List.size_toArray, lenV]; exact hl, by simpa using rv⟩) (fun b u z => by have z' : (none : Option HO) = some u := z; cases z') (fun b z => absurd rfl z) fun z => absurd rfl z
  | none =>
    refine core (fun b => if b = a then some (.frz { cls := .type "list", data := .seq vs.toArray } (.lst (ns.map V.int))) else none) (fun b => ?_) (.inl (.inr ⟨{ cls := .type "list", data := .seq vs.toArray }, if_pos rfl⟩)) (fun b u z => ?_) (fun b z => ?_) fun _ => hk
    · by_cases hb : b = a
      · exact .inr ⟨_, _, if_pos hb⟩
      · exact .inl (if_neg hb)
    · by_cases hb : b = a
      · have z' := (if_pos hb).symm.trans z
        cases z'
        subst hb
        exact ⟨ha, by rw [List.length_map]; exact hl, vs, _, rv, ha⟩
      · have z' := (if_neg hb).symm.trans z
        cases z'
    · by_cases hb : b = a
      · exact hb
      · exact absurd (if_neg hb) z
end L2

namespace L2
open PySem PySem.Spec PyProof.Rows

theorem walk_of {l : PySem.W.OpenLaw} {n k : Nat} {q : Program} {loose : List Str} {XP : (Str → Option Value) → Heap → Prop} {YP : World → Heap → Prop} {d : DefRec} {K : Params → PySem.W.Frag} {CX : World → CXT} {sp : World → Sp} {x : Str}
    (hn : l.most = some n) (hn2 : n ≤ sizeLine) (hdf : d.params.defaults = []) (hr : Room k callerA)
    (hY : ∀ (w : World) (h : Heap), YP w h → (K w.params).In h)
    (F : ∀ (w : World) (mg : Str → Option Value) (fa : Addr) (h : Heap), (K w.params).In h → h.Ns mainGlobals mg → mg d.name = some (.ref fa) →
      ∃ fd : FuncData, (∀ (s : Shared) (u : Value), BindsTo s fd ⟨[u], []⟩ [(x, u)]) ∧
        ∀ base : Heap, (K w.params).In base → base.Ns mainGlobals mg → FnOk l.prog w (K w.params) mg base (CX w) k fa fd [x] (sp w))
    (hsp : ∀ (w : World) (H : Hp) (a : Addr) (ns : List Int), ns.length ≤ n → Only H → SqL (K w.params) H a (ns.map V.int) → sp w [.ref a] H (fun v _ => v = .bl true) fun _ _ _ => False)
    (hCX : ∀ (w : World) (H : Hp) (s : Shared) (e : Value) (s' : Shared), CX w [] H s (fun _ _ _ => False) e s' → False) :
    PySem.W.WalkO q loose XP YP l.row.toRowW d [] (fun f vs => PySem.call f vs) := by
  refine Att.attach_call hn hdf fun w s₀ s₁ mg mb fa o pm cd doc a vs ns G Y ho hd hcd hmg hobj hints hlen hg => ?_
  have KX := hY w _ Y
  obtain ⟨fd, hb, hF⟩ := F w mg fa _ KX G.T.g hmg
  exact law_call KX G.T.g G.T.b G.T.builtins G.T.nolimit hg hobj hints (Nat.le_trans hlen hn2) hr hF hb (fun H hO hS => hsp w H a ns hlen hO hS) fun H e s' => hCX w H s₁ e s'

end L2

namespace L2
open PySem PySem.Spec PyProof.Rows

def defArgs (s : Stmt) : Arguments := match s with
  | .FunctionDef _ a _ _ _ _ _ _ _ _ => a
  | _ => { posonlyargs := [], args := [], vararg := none, kwonlyargs := [], kw_defaults := [], kwarg := none, defaults := [] }
def defBody (s : Stmt) : List Stmt := match s with
  | .FunctionDef _ _ b _ _ _ _ _ _ _ => b
  | _ => []
def defScope (s : Stmt) : Scope := match s with
  | .FunctionDef _ _ _ _ _ _ sc _ _ _ => sc
  | _ => { kind := .function, names := [], isGenerator := false, isCoroutine := false }

abbrev CX0 : CXT := fun _ _ _ _ _ _ => False
abbrev E0 : XK := fun _ _ _ => False
theorem pass0 {X : Cx} : Passes CX0 X E0 := fun _ _ _ _ _ _ _ h => h.elim

structure Fun (K : PySem.W.Frag) (x qual : Str) (st : Stmt) (f : Addr) (fd : FuncData) : Prop where
  ex : ∃ (oc : Value) (od : Option Addr) (kV doc pm : Value) (an : Option Addr) (cdv ct : Value) (osl : Array (Option Value)),
    fd = PySem.W.fnOf x qual (defArgs st) (defBody st) (defScope st) .none kV doc pm an cdv ct ∧ K.lookup f = some ⟨oc, od, .func fd, osl⟩ ∧ PySem.W.codeIn K cdv qual = true
  kp : PySem.W.keepIn K (.ref f) = true
section
variable {P : Program} {w : World} {K : PySem.W.Frag} {mg : Str → Option Value} {base : Heap}

theorem Fun.ok {x qual : Str} {st : Stmt} {f : Addr} {fd : FuncData} {N ps : List Str} {k : Nat} {sp : Sp} (F : Fun K x qual st f fd) (S : FnScope N ps (defScope st)) (len : ∀ vs H Q E, sp vs H Q E → vs.length = ps.length)
    (hbody : ∀ (cdv : Value) (A : Around) (outer : List Env) (s : Shared) (H : Hp) (vs : List V) (Q : VK) (E : XK), Room k (A.deeper (envOfC qual (defScope st) s.heap.objs.size f cdv)) → sp vs H Q E →
      ∃ t, PSs (cxOf CX0 P w K mg base N qual (defScope st) f cdv A outer s H E).nox (defBody st) t ∧ t { nx := fun _ H' => Q .non H', rt := Q } (start N vs) H) : FnOk P w K mg base CX0 (k + 1) f fd ps sp := by
  obtain ⟨oc, od, kV, doc, pm, an, cdv, ct, osl, rfl, lk, hcd⟩ := F.ex
  refine fn_of lk hcd S len fun A outer s H vs Q E hr hsp => ?_
  obtain ⟨t, h, q⟩ := hbody cdv A outer s H vs Q E hr hsp
  exact ⟨t, h.nox, q⟩

theorem Fun.binds {x qual : Str} {st : Stmt} {f : Addr} {fd : FuncData} {ps : List Str} (F : Fun K x qual st f fd)
    (h : ∀ (kV doc pm : Value) (an : Option Addr) (cdv ct : Value) (us : List Value), us.length = ps.length → bindArgs (PySem.W.fnOf x qual (defArgs st) (defBody st) (defScope st) .none kV doc pm an cdv ct) ⟨us, []⟩ = pure (ps.zip us)) : Binds K fd ps [] := by
  obtain ⟨oc, od, kV, doc, pm, an, cdv, ct, osl, rfl, lk, hcd⟩ := F.ex
  exact .all (h kV doc pm an cdv ct)
theorem fun_mk {x qual : Str} {st : Stmt} {f : Addr} {oc : Value} {od an : Option Addr} {osl : Array (Option Value)} {kV doc pm cdv ct : Value} (l : K.lookup f = some ⟨oc, od, .func (PySem.W.fnOf x qual (defArgs st) (defBody st) (defScope st) .none kV doc pm an cdv ct), osl⟩)
    (c : PySem.W.codeIn K cdv qual = true) (k : PySem.W.keepIn K (.ref f) = true) : Fun K x qual st f (PySem.W.fnOf x qual (defArgs st) (defBody st) (defScope st) .none kV doc pm an cdv ct) := ⟨⟨oc, od, kV, doc, pm, an, cdv, ct, osl, rfl, l, c⟩, k⟩
end
section
variable {X : Cx}
theorem pv (i : Nat) {x : Str} {pos : Pos} (hN : X.N[i]? = some x := by rfl) (hv : Vis X.env.scope x := by first | exact Or.inl rfl | exact Or.inr (Or.inl rfl) | exact Or.inr (Or.inr rfl)) (hd : (x == ("__debug__" : Str)) = false := by decide)
    (hcd : (x == ("__classdict__" : Str)) = false := by decide) : PE X (.Name x pos) (tVar i) := pe_var hN hv hd hcd

end

def Same (H H' : Hp) : Prop := ∀ b o, H b = some o → H' b = some o
theorem Same.trans {H H1 H2 : Hp} (a : Same H H1) (b : Same H1 H2) : Same H H2 := fun c o h => b c o (a c o h)
end L2

set_option Elab.async false
set_option linter.all false
set_option maxRecDepth 100000
set_option maxHeartbeats 4000000
namespace L2
open PySem PySem.Spec PyProof.Rows

def clOf (env : Env) : List (Str × NameKind) → List (Str × Addr) → List (Str × Addr)
  | [], cs => cs
  | (n, k) :: r, cs => clOf env r (if k == .free then (n, (env.cells.lookup n).getD 0) :: cs else cs)
theorem clOf_mem {env : Env} {x : Str} {c : Addr} : ∀ {l : List (Str × NameKind)} {cs : List (Str × Addr)}, (x, c) ∈ clOf env l cs → (x, c) ∈ cs ∨ ((x, NameKind.free) ∈ l ∧ c = (env.cells.lookup x).getD 0)
  | [], cs, h => .inl h
  | (n, k) :: r, cs, h => by
    unfold clOf at h
    rcases clOf_mem h with h1 | ⟨h1, h2⟩
    · by_cases hk : (k == NameKind.free) = true
      · rw [if_pos hk] at h1
        have ek : k = .free := by simpa using hk
        rcases List.mem_cons.mp h1 with e | e
        · have e1 := congrArg Prod.fst e
          have e2 := congrArg Prod.snd e
          simp only at e1 e2
          subst e1 ek
          exact .inr ⟨List.mem_cons_self, e2⟩
        · exact .inl e
      · rw [if_neg hk] at h1
        exact .inl h1
    · exact .inr ⟨List.mem_cons_of_mem _ h1, h2⟩
theorem clOf_keep {env : Env} {p : Str × Addr} : ∀ {l : List (Str × NameKind)} {cs : List (Str × Addr)}, p ∈ cs → p ∈ clOf env l cs
  | [], _, h => h
  | (n, k) :: r, cs, h => by
    unfold clOf
    refine clOf_keep ?_
    split
    · exact List.mem_cons_of_mem _ h
    · exact h
theorem clOf_has {env : Env} {x : Str} : ∀ {l : List (Str × NameKind)} {cs : List (Str × Addr)}, (x, NameKind.free) ∈ l → (x, (env.cells.lookup x).getD 0) ∈ clOf env l cs
  | [], _, h => by simp at h
  | (n, k) :: r, cs, h => by
    unfold clOf
    rcases List.mem_cons.mp h with e | e
    · have e1 := congrArg Prod.fst e
      have e2 := congrArg Prod.snd e
      simp only at e1 e2
      subst e1 e2
      refine clOf_keep ?_
      rw [if_pos (by simp)]
      exact List.mem_cons_self
    · exact clOf_has e
theorem lookup_some_of_mem {β : Type} : ∀ {l : List (Str × β)} {x : Str} {c : β}, (x, c) ∈ l → ∃ d, l.lookup x = some d
  | [], _, _, h => by simp at h
  | (n, b) :: r, x, c, h => by
    by_cases e : x = n
    · subst e; exact ⟨b, by simp⟩
    · have hb : (x == n) = false := beq_eq_false_iff_ne.mpr e
      rcases List.mem_cons.mp h with q | q
      · exact absurd (congrArg Prod.fst q) e
      · obtain ⟨d, hd⟩ := lookup_some_of_mem q
        exact ⟨d, by simp only [List.lookup_cons, hb]; exact hd⟩
theorem closureFor_eq {scope : Scope} {env : Env} (h : ∀ x ∈ scope.names, x.2 = .free → ∃ c, env.cells.lookup x.1 = some c) : closureFor scope env = pure (clOf env scope.names []) := by
  unfold closureFor
  have key : ∀ (l : List (Str × NameKind)) (cs : List (Str × Addr)), (∀ x ∈ l, x.2 = .free → ∃ c, env.cells.lookup x.1 = some c) →
      ((forIn l cs fun (x : Str × NameKind) (r : List (Str × Addr)) => if (x.2 == NameKind.free) = true then do let y ← cellOf env x.1; pure (ForInStep.yield ((x.1, y) :: r)) else pure (ForInStep.yield r)) : Sem (List (Str × Addr))) = pure (clOf env l cs) := by
    intro l
    induction l with
    | nil => intro cs _; rfl
    | cons p r ih =>
      intro cs hh
      obtain ⟨n, k⟩ := p
      rw [List.forIn_cons]
      dsimp only
      by_cases hk : (k == NameKind.free) = true
      · obtain ⟨c, hc⟩ := hh (n, k) List.mem_cons_self (by simpa using hk)
        have e : cellOf env n = pure c := by unfold cellOf; rw [hc]
        rw [if_pos hk, e, pure_bind, pure_bind]
        dsimp only
        rw [ih _ fun x hx => hh x (List.mem_cons_of_mem _ hx)]
        show _ = pure (clOf env r _)
        rw [if_pos hk, hc]
        rfl
      · rw [if_neg hk, pure_bind]
        dsimp only
        rw [ih _ fun x hx => hh x (List.mem_cons_of_mem _ hx)]
        show _ = pure (clOf env r _)
        rw [if_neg hk]
  have := key scope.names [] h
  simp only at this ⊢
  rw [this, pure_bind]

def testsOf (ifs : List Expr) (env : Env) : Sem Bool := forIn ifs true fun c r => if r = true then do let ok ← isTrue c env (eval c env); pure (ForInStep.yield ok) else pure (ForInStep.yield r)
def PTs (X : Cx) (ifs : List Expr) (t : TT) : Prop :=
  ∀ (pins : List (Addr × Obj)) (s : Shared) (σ : St) (H : Hp) (Q : Bool → Hp → Prop), Inv X pins σ H s → t σ H Q → wpAny (model X.prog X.w) X.A (testsOf ifs X.env) (TP X pins σ Q) X.xe s
def tNoTest : TT := fun _ H Q => Q true H
theorem pts_nil {X : Cx} : PTs X [] tNoTest := fun _ _ _ H _ I h => wpAny_pure ⟨H, I, h⟩
section
variable {prog : Program} {w : World} {A : Around} {R : Result → Shared → Prop} {s : Shared}
theorem compLoop_any {elt target iter : Expr} {ifs : List Expr} {scope : Scope} {pos : Pos} {it acc : Value} {env : Env} (I : Nat → Shared → Prop)
    (turn : ∀ n s, I n s → wpAny (model prog w) A (pyNext it) (fun r s₁ => match r with
      | none => R (.ok .next) s₁
      | some v => wpAny (model prog w) A (letOwnedTupleGo target it v) (fun _ s₂ => wpAny (model prog w) A (assign target env v) (fun _ s₃ =>
          wpAny (model prog w) A (testsOf ifs env) (fun ok s₄ =>
            if ok = true then wpAny (model prog w) A (eval elt env) (fun x s₅ =>
              wpAny (model prog w) A (call (.builtin "list.append") [acc, x]) (fun _ s₆ => ∃ m, m < n ∧ I m s₆) (fun _ _ => False) s₅) (fun _ _ => False) s₄
            else ∃ m, m < n ∧ I m s₄) (fun _ _ => False) s₃) (fun _ _ => False) s₂) (fun _ _ => False) s₁) (fun _ _ => False) s)
    (n : Nat) (h : I n s) :
    codeAny (model prog w) A (.compLoop (.ListComp elt [⟨target, iter, ifs, 0⟩] scope pos) 0 it acc env) R s := by
  refine codeAny_loop rfl I (fun n s hI => ?_) n h
  show wpAny _ A ((compTurn (.ListComp elt [⟨target, iter, ifs, 0⟩] scope pos) 0 it acc env).onRaise (fun x => do noteFrame x env; theTreesLotGoes x)) _ _ s
  refine wpAny_noted ?_
  rw [compTurn_list]
  refine wpAny_bind (wpAny_standAt (wpAny_bind (wpAny_mono (turn n s hI) (fun r s₁ h₁ => ?_) fun _ _ h' => h'.elim)))
  cases r with
  | none => exact wpAny_pure h₁
  | some v =>
    refine wpAny_bind (wpAny_mono h₁ (fun _ s₂ h₂ => ?_) fun _ _ h' => h'.elim)
    refine wpAny_bind (wpAny_mono h₂ (fun _ s₃ h₃ => wpAny_bind (wpAny_mono h₃ (fun ok s₄ h₄ => ?_) fun _ _ h' => h'.elim)) fun _ _ h' => h'.elim)
    cases ok with
    | false => exact wpAny_pure ⟨rfl, h₄⟩
    | true =>
      exact wpAny_bind (wpAny_bind (wpAny_mono h₄ (fun x s₅ h₅ => wpAny_bind (wpAny_mono h₅ (fun _ s₆ h₆ => wpAny_pure (wpAny_pure ⟨rfl, h₆⟩)) fun _ _ h' => h'.elim)) fun _ _ h' => h'.elim))
end

def ixOk (N N' : List Str) (ix : List (Option Nat)) (scope : Scope) : Bool :=
  N'.length == ix.length && (N'.zip ix).all fun p => match p.2 with | none => true | some j => N[j]? == some p.1 && scope.names.lookup p.1 == some .free
def blk (ix : List (Option Nat)) (σ : St) : St := ix.map fun o => match o with | none => none | some j => (σ[j]?).join
def freeOk (scope : Scope) (outer : Scope) : Bool :=
  scope.names.all fun x => (x.2 != .cell) && (x.2 != .free || (outer.names.lookup x.1 == some .cell || outer.names.lookup x.1 == some .free)) && (x.2 != .local || scope.names.lookup x.1 == some .local) && (x.2 != .free || scope.names.lookup x.1 == some .free)
def bCx (X : Cx) (scope : Scope) (C : Addr) (N' : List Str) (s₂ : Shared) (H₂ : Hp) (fp : List Addr) : Cx :=
  { X with N := N', s₀ := s₂, H₀ := H₂, env := compEnvC scope (clOf X.env scope.names []) C X.env, outer := X.stack, stack := X.stack, ex := fp, fn := fun _ => false, pn := [], xe := fun _ _ => False }
theorem freeOk.at {scope outer : Scope} (h : freeOk scope outer = true) {x : Str × NameKind} (hx : x ∈ scope.names) : x.2 ≠ .cell ∧ (x.2 = .free → outer.names.lookup x.1 = some .cell ∨ outer.names.lookup x.1 = some .free) ∧ (x.2 = .local → scope.names.lookup x.1 = some .local) ∧ (x.2 = .free → scope.names.lookup x.1 = some .free) := by
  have h1 := List.all_eq_true.mp h x hx
  simp only [Bool.and_eq_true, Bool.or_eq_true, bne_iff_ne, ne_eq, beq_iff_eq] at h1
  obtain ⟨⟨⟨a, b⟩, c⟩, d⟩ := h1
  exact ⟨a, fun e => b.resolve_left fun z => z e, fun e => c.resolve_left fun z => z e, fun e => d.resolve_left fun z => z e⟩
theorem relabel_lookup {scope : Scope} {env : Env} : ∀ {names : List (Str × NameKind)} {x : Str} {k : NameKind},
    (names.map fun (n, k) => if (k == NameKind.free && env.scope.kind == .function && env.kindOf n == some .cell) then (n, NameKind.cell) else (n, k)).lookup x = some k → ∃ k', (x, k') ∈ names ∧ (k = k' ∨ (k = .cell ∧ k' = .free))
  | [], _, _, h => by simp at h
  | (n, k0) :: r, x, k, h => by
    rw [List.map_cons] at h
    by_cases hc : (k0 == NameKind.free && env.scope.kind == .function && env.kindOf n == some .cell) = true
    · simp only [hc, if_true] at h
      cases hx : x == n with
      | true =>
        simp only [List.lookup_cons, hx] at h
        have e : x = n := by simpa using hx
        subst e
        have hk : k0 = .free := by
          simp only [Bool.and_eq_true, beq_iff_eq] at hc
          exact hc.1.1
        exact ⟨k0, List.mem_cons_self, .inr ⟨(Option.some.inj h).symm, hk⟩⟩
      | false =>
        simp only [List.lookup_cons, hx] at h
        obtain ⟨k', m, q⟩ := relabel_lookup (scope := scope) (env := env) h
        exact ⟨k', List.mem_cons_of_mem _ m, q⟩
    · dsimp only at h
      rw [if_neg hc] at h
      cases hx : x == n with
      | true =>
        simp only [List.lookup_cons, hx] at h
        have e : x = n := by simpa using hx
        subst e
        exact ⟨k0, List.mem_cons_self, .inl (Option.some.inj h).symm⟩
      | false =>
        simp only [List.lookup_cons, hx] at h
        obtain ⟨k', m, q⟩ := relabel_lookup (scope := scope) (env := env) h
        exact ⟨k', List.mem_cons_of_mem _ m, q⟩
section
variable {X : Cx} {scope : Scope} {C : Addr} {N' : List Str} {s₂ : Shared} {H₂ : Hp} {fp : List Addr} {pins : List (Addr × Obj)} {σ : St}
theorem cl_cell (I : Inv X pins σ H₂ s₂) (hf : freeOk scope X.env.scope = true) {x : Str} {c : Addr} (h : (clOf X.env scope.names []).lookup x = some c) : X.env.cells.lookup x = some c ∧ (x, NameKind.free) ∈ scope.names := by
  rcases clOf_mem (PySem.mem_of_lookup h) with z | ⟨z1, z2⟩
  · simp at z
  · have q := (hf |> fun h => freeOk.at h z1).2.1 rfl
    obtain ⟨c', e⟩ := I.ok.has x q
    rw [e] at z2
    exact ⟨by rw [e, z2]; rfl, z1⟩
theorem bCx_ok (I : Inv X pins σ H₂ s₂) (hf : freeOk scope X.env.scope = true) (hk : scope.kind = .function) (hC : s₂.heap.objs.size ≤ C) (hfp : ∀ b ∈ fp, FpOk X pins H₂ b) (hfo : ∀ b ∈ fp, ∃ o, s₂.heap.get? b = some o) : (bCx X scope C N' s₂ H₂ fp).Ok where
  mod := I.ok.mod
  kind := hk
  glob := I.ok.glob
  blt := I.ok.blt
  above := hC
  inj := fun x y c h1 h2 => I.ok.inj x y c (cl_cell I hf h1).1 (cl_cell I hf h2).1
  has := fun x h => by
    have h : (relabel scope X.env).names.lookup x = some .cell ∨ (relabel scope X.env).names.lookup x = some .free := h
    have key : (x, NameKind.free) ∈ scope.names := by
      rcases h with h | h
      · obtain ⟨k', m, q⟩ := relabel_lookup (scope := scope) h
        rcases q with q | ⟨_, q⟩
        · subst q
          exact absurd rfl (freeOk.at hf m).1
        · subst q; exact m
      · obtain ⟨k', m, q⟩ := relabel_lookup (scope := scope) h
        rcases q with q | ⟨q, _⟩
        · subst q; exact m
        · cases q
    exact lookup_some_of_mem (clOf_has key)
  cab := fun _ _ h _ => absurd (show false = true from h) Bool.false_ne_true
  hd := I.ok.hd
  frames := I.ok.frames
  stk := .inl rfl
  exf := fun b hb => by
    obtain ⟨o, ho⟩ := hfo b hb
    obtain ⟨f0, f1, f2, f3, f4, f5⟩ := hfp b hb
    refine ⟨Nat.ne_of_lt (Nat.lt_of_lt_of_le (Heap.lt_size ho) hC), fun x c h => ?_⟩
    exact f4 x c (cl_cell I hf h).1
  bs := I.bs
  bsz := Nat.le_trans I.ok.bsz I.sz
  noex := fun b o e hb => by
    obtain ⟨f0, f1, f2, f3, f4, f5⟩ := hfp b hb
    rcases f3 with z | z
    · exact I.ok.noex b o e z
    · exact absurd (Nat.lt_of_lt_of_le (Nat.lt_of_lt_of_le (Heap.lt_size e) I.ok.bsz) z) (Nat.lt_irrefl _)
  exfs := fun b hb z => by
    obtain ⟨f0, f1, f2, f3, f4, f5⟩ := hfp b hb
    rcases List.mem_cons.mp (I.stkSub b z) with e | e
    · exact f1 e
    · exact f2 e
  funs := I.stack
  frf := I.stkFree
end

theorem Inv.less {X : Cx} {pins : List (Addr × Obj)} {σ σ' : St} {H : Hp} {s : Shared} (I : Inv X pins σ H s) (hl : σ'.length = σ.length) (h : ∀ (i : Nat) (v : V), σ'[i]? = some (some v) → σ[i]? = some (some v)) : Inv X pins σ' H s :=
  ⟨I.ok, I.os, I.bare, I.base, (let ⟨m, hn, hv⟩ := I.loc; ⟨m, hn, fun i x v e1 e2 e3 => hv i x v e1 (h i v e2) e3⟩), I.cell, I.free, I.freeC, I.pin, I.hok, hl.trans I.len⟩
def Ext (σ σ' : St) : Prop := σ'.length = σ.length ∧ ∀ (i : Nat) (v : V), σ[i]? = some (some v) → σ'[i]? = some (some v)
theorem Ext.refl (σ : St) : Ext σ σ := ⟨rfl, fun _ _ h => h⟩
theorem Ext.set {σ σ' : St} (h : Ext σ σ') {j : Nat} {w : Option V} (hj : σ[j]? = some none) : Ext σ (σ'.set j w) := by
  refine ⟨by rw [List.length_set]; exact h.1, fun i v e => ?_⟩
  have ne : j ≠ i := by rintro rfl; rw [hj] at e; cases e
  rw [List.getElem?_set_ne ne]
  exact h.2 i v e
theorem blk_len (ix : List (Option Nat)) (σ : St) : (blk ix σ).length = ix.length := by unfold blk; rw [List.length_map]

section
variable {X : Cx} {scope : Scope} {N' : List Str} {ix : List (Option Nat)} {s₂ s₄ : Shared} {H₂ : Hp} {fp : List Addr} {pins : List (Addr × Obj)} {σ : St} {C D : Addr} {h₄ : Heap}
theorem bInv (I : Inv X pins σ H₂ s₂) (hf : freeOk scope X.env.scope = true) (hk : scope.kind = .function) (hx : ixOk X.N N' ix scope = true) (hfp : ∀ b ∈ fp, FpOk X pins H₂ b) (hfo : ∀ b ∈ fp, ∃ o, s₂.heap.get? b = some o)
    (hD : s₂.heap.objs.size ≤ D) (hC : s₂.heap.objs.size ≤ C) (hDC : D ≠ C) (hn : h₄.Ns C (fun _ => none)) (kp : ∀ b o, s₂.heap.get? b = some o → h₄.get? b = some o)
    (hl : h₄.get? D = some { cls := .type "list", data := .seq ([] : List Value).toArray 0 }) (t' : Nat) :
    Inv (bCx X scope C N' s₂ H₂ fp) [] (blk ix σ) (upd H₂ D (.lst [])) { s₂ with heap := h₄, toks := t' } := by
  have hDn : H₂ D = none := I.hok.fresh hD
  have hCn : H₂ C = none := I.hok.fresh hC
  have hok : HOk X.prog X.w (upd H₂ D (.lst [])) h₄ := I.hok.laid kp hD ⟨Nat.zero_le _, [], 0, .nil, hl⟩
  refine ⟨bCx_ok I hf hk hC hfp hfo, rfl, I.bare, Un.laid kp hD hDn, ⟨_, hn, fun i x v e1 e2 e3 => ?_⟩, fun x c e => ?_, ?_, fun x c e => ?_, fun p hp => absurd (show p ∈ ([] : List (Addr × Obj)) from hp) (by simp), hok, ?_⟩
  · have hx1 := hx
    unfold ixOk at hx1
    rw [Bool.and_eq_true] at hx1
    have hlen : N'.length = ix.length := by simpa using hx1.1
    have hi : i < N'.length := (List.getElem?_eq_some_iff.mp e1).1
    unfold blk at e2
    rw [List.getElem?_map] at e2
    cases q : ix[i]? with
    | none => rw [q] at e2; cases e2
    | some o =>
      rw [q] at e2
      cases o with
      | none => cases e2
      | some j =>
        have hz : (x, some j) ∈ N'.zip ix := by
          refine List.mem_of_getElem? (i := i) ?_
          rw [List.getElem?_zip_eq_some]
          exact ⟨e1, q⟩
        have hz' := List.all_eq_true.mp hx1.2 _ hz
        simp only [Bool.and_eq_true, beq_iff_eq] at hz'
        obtain ⟨hNj, hfr⟩ := hz'
        have e2' : (σ[j]?).join = some v := by simpa using e2
        have e4 : σ[j]? = some (some v) := by
          cases z : σ[j]? with
          | none => rw [z] at e2'; cases e2'
          | some y => rw [z] at e2'; exact congrArg some e2'
        have hmem : (x, NameKind.free) ∈ scope.names := PySem.mem_of_lookup hfr
        have hkind := (freeOk.at hf hmem).2.1 rfl
        obtain ⟨m, hnm, hv⟩ := I.loc
        obtain ⟨u, ru, lk⟩ := hv j x v hNj e4 (by rcases hkind with z | z; exact .inr (.inl z); exact .inr (.inr z))
        refine ⟨u, ru, .inr ⟨?_, ?_⟩⟩
        · rcases e3 with z | z | z
          · obtain ⟨k', m', q'⟩ := relabel_lookup (scope := scope) (env := X.env) (show (relabel scope X.env).names.lookup x = some .local from z)
            rcases q' with q' | ⟨q', _⟩
            · subst q'
              have := (freeOk.at hf m').2.2.1 rfl
              rw [hfr] at this; cases this
            · cases q'
          · exact .inl z
          · exact .inr z
        · rcases lk with ⟨l1, _⟩ | ⟨_, c, l2, l3⟩
          · have l1 : X.env.scope.names.lookup x = some .local := l1
            rcases hkind with z | z
            · rw [l1] at z; cases z
            · rw [l1] at z; cases z
          · obtain ⟨c', e5⟩ := lookup_some_of_mem (clOf_has (env := X.env) (cs := []) hmem)
            have e6 := (cl_cell I hf e5).1
            rw [l2] at e6
            have e7 : c = c' := Option.some.inj e6
            subst e7
            exact ⟨c, e5, l3.keeps kp⟩
  · obtain ⟨v, z⟩ := I.cell x c (cl_cell I hf e).1
    exact ⟨v, z.keeps kp⟩
  · show upd H₂ D (.lst []) C = none
    rw [upd_ne (Ne.symm hDC)]
    exact hCn
  · show upd H₂ D (.lst []) c = none
    have e' := (cl_cell I hf e).1
    obtain ⟨v, z⟩ := I.cell x c e'
    have : c ≠ D := Nat.ne_of_lt (Nat.lt_of_lt_of_le z.lt hD)
    rw [upd_ne this]
    exact I.freeC x c e'
  · rw [blk_len]
    have hx1 := hx
    unfold ixOk at hx1
    rw [Bool.and_eq_true] at hx1
    have : N'.length = ix.length := by simpa using hx1.1
    exact this.symm
end

def LcGoal (ix : List (Option Nat)) (J : It) (g : TG) (tt : TT) (te : TE) (σ : St) (H1 : Hp) (Q : VK) (D : Addr) : Prop :=
  ∃ W : Nat → Nat → Hp → Prop, (∃ m, W 0 m (upd H1 D (.lst []))) ∧ ∀ i m H, W i m H →
    (J.stop i H ∧ Q (.ref D) H) ∨ (J.go i H ∧ ∃ N : Hp → Prop, (∀ H', N H' → ∃ m', m' < m ∧ W (i + 1) m' H') ∧ ∀ x H', J.yld i H x H' → g x (blk ix σ) H' fun σ2 H2 => Ext (blk ix σ) σ2 ∧ tt σ2 H2 fun b H3 =>
      if b = true then te σ2 H3 fun y H4 => ∃ ys, H4 D = some (.lst ys) ∧ ys.length < sizeLine ∧ N (upd H4 D (.lst (ys ++ [y]))) else N H3)
def tLc (ix : List (Option Nat)) (wi : TI) (g : TG) (tt : TT) (te : TE) : TE := fun σ H Q => wi σ H fun J H1 => ∀ D, H1 D = none → LcGoal ix J g tt te σ H1 Q D

abbrev BlkR (X : Cx) (scope : Scope) (N' : List Str) (F : Cx → Prop) : Prop := ∀ (C : Addr) (s₂ : Shared) (H₂ : Hp) (fp : List Addr), F (bCx X scope C N' s₂ H₂ fp)
section
variable {X : Cx} {elt target iter : Expr} {ifs : List Expr} {scope : Scope} {pos : Pos} {N' : List Str} {ix : List (Option Nat)} {wi : TI} {g : TG} {tt : TT} {te : TE}

theorem comp_run {pins : List (Addr × Obj)} {σ : St} {s₂ : Shared} {H₂ : Hp} {it : Addr} {fp : List Addr} {tn : Nat → Heap → Prop} {J : It} {QD : Addr → Hp → Prop} {RR : Value → Addr → Result → Shared → Prop} {E : Value → Shared → Prop}
    (hcm : X.calm = true) (hf : freeOk scope X.env.scope = true) (hk : scope.kind = .function) (hx : ixOk X.N N' ix scope = true)
    (hg : BlkR X scope N' fun Y => PG Y target g) (ht : BlkR X scope N' fun Y => PTs Y ifs tt) (he : BlkR X scope N' fun Y => PE Y elt te)
    (I : Inv X pins σ H₂ s₂) (T : Turn X.prog X.w X.K target J fp it tn) (st : tn 0 s₂.heap) (hfp : ∀ b ∈ fp, FpOk X pins H₂ b)
    (hw : ∀ D, H₂ D = none → ∃ W : Nat → Nat → Hp → Prop, (∃ m, W 0 m (upd H₂ D (.lst []))) ∧ ∀ i m H, W i m H →
      (J.stop i H ∧ QD D H) ∨ (J.go i H ∧ ∃ N : Hp → Prop, (∀ H', N H' → ∃ m', m' < m ∧ W (i + 1) m' H') ∧ ∀ x H', J.yld i H x H' → g x (blk ix σ) H' fun σ2 H2 => Ext (blk ix σ) σ2 ∧ tt σ2 H2 fun b H3 =>
        if b = true then te σ2 H3 fun y H4 => ∃ ys, H4 D = some (.lst ys) ∧ ys.length < sizeLine ∧ N (upd H4 D (.lst (ys ++ [y]))) else N H3))
    (hRR : ∀ (D C : Addr) (s' : Shared) (H' : Hp) (m : Str → Option Value), s₂.heap.objs.size ≤ C → H' C = none → C ∉ frs X.stack → s'.heap.Ns C m → (∃ o, s'.heap.get? C = some o ∧ ∀ v, o.data ≠ .cell v) → Inv X pins σ H' s' → QD D H' → RR (.ref D) C (.ok .next) s') :
    wpAny (model X.prog X.w) X.A (newList []) (fun acc s₃ => wpAny (model X.prog X.w) X.A (newFunctionEnv scope X.env.globals (clOf X.env scope.names []) [] X.env.qual none .none (some X.env)) (fun cenv s₄ =>
      codeAny (model X.prog X.w) X.A (.compStart (.ListComp elt [⟨target, iter, ifs, 0⟩] scope pos) 0 (.ref it) acc { cenv with scope := relabel scope X.env }) (RR acc cenv.locals) s₄) E s₃) E s₂ := by
  refine wpAny_newObj_type (wpAny_newFunctionEnv (fun x hx => (freeOk.at hf hx).1) (by intro y hy; simp at hy) (fun h₁ hns₁ hsb₁ => ?_) hk)
  dsimp only at hns₁ hsb₁ ⊢
  generalize hH2 : s₂.heap.push { cls := .type "list", dict := none, data := .seq ([] : List Value).toArray } = P2 at hns₁ hsb₁ ⊢
  have hCs : P2.objs.size = s₂.heap.objs.size + 1 := by rw [← hH2, Heap.size_push]
  have hDC : s₂.heap.objs.size ≠ P2.objs.size := by rw [hCs]; exact Nat.ne_of_lt (Nat.lt_succ_self _)
  have hCle : s₂.heap.objs.size ≤ P2.objs.size := by rw [hCs]; exact Nat.le_succ _
  have old : ∀ b o, s₂.heap.get? b = some o → h₁.get? b = some o := fun b o e => hsb₁.extBut b o (Nat.ne_of_lt (Nat.lt_of_lt_of_le (Heap.lt_size e) hCle)) (Heap.get?_push_of_some _ (hH2 ▸ Heap.get?_push_of_some _ e))
  have hacc : h₁.get? s₂.heap.objs.size = some { cls := .type "list", data := .seq ([] : List Value).toArray 0 } := hsb₁.extBut _ _ hDC (Heap.get?_push_of_some _ (hH2 ▸ Heap.get?_push_size _ rfl))
  have hfo : ∀ b ∈ fp, ∃ o, s₂.heap.get? b = some o := fun b hb => let ⟨o, e, _⟩ := T.obj _ _ st b hb; ⟨o, e⟩
  have hCnone : s₂.heap.get? P2.objs.size = none := Heap.get?_none_of_le hCle
  have hDn : H₂ s₂.heap.objs.size = none := I.hok.fresh (Nat.le_refl _)
  obtain ⟨W, ⟨m0, w0⟩, turn⟩ := hw s₂.heap.objs.size hDn
  have fpD : ∀ b ∈ fp, b ≠ s₂.heap.objs.size := fun b hb => let ⟨o, e⟩ := hfo b hb; Nat.ne_of_lt (Heap.lt_size e)
  have fpC : ∀ b ∈ fp, b ≠ P2.objs.size := fun b hb => let ⟨o, e⟩ := hfo b hb; Nat.ne_of_lt (Nat.lt_of_lt_of_le (Heap.lt_size e) hCle)
  let Y := bCx X scope P2.objs.size N' s₂ H₂ fp
  have hcY : Y.calm = true := hcm
  have I0 : Inv Y [] (blk ix σ) (upd H₂ s₂.heap.objs.size (.lst [])) { s₂ with heap := h₁, toks := s₂.toks + ([] : List (Str × Value)).length } :=
    bInv I hf hk hx hfp hfo (Nat.le_refl _) hCle hDC (by simpa using hns₁) old hacc _
  have nofr : P2.objs.size ∉ frs X.stack := fun z => by
    rcases List.mem_cons.mp (I.stkSub _ z) with e | e
    · exact absurd I.lt (by rw [← e]; exact Nat.not_lt.mpr hCle)
    · exact I.nofs hCle e

  have stat : ∀ {H' : Hp}, (∀ b ∈ fp, H' b = none) → ∀ b ∈ fp, FpOk Y [] H' b := fun hn b hb => by
    obtain ⟨f0, f1, f2, f3, f4, f5⟩ := hfp b hb
    refine ⟨hn b hb, fpC b hb, I0.ok.exfs b hb, .inl hb, (I0.ok.exf b hb).2, fun p hp => absurd (show p ∈ ([] : List (Addr × Obj)) from hp) (by simp)⟩
  have hst₁ : tn 0 h₁ := T.keep _ _ _ st fun b _ o e => old b o e
  have loop : ∀ s₃ : Shared, s₃ = { s₂ with heap := h₁, toks := s₂.toks + ([] : List (Str × Value)).length } →
      codeAny (model X.prog X.w) X.A (.compLoop (.ListComp elt [⟨target, iter, ifs, 0⟩] scope pos) 0 (.ref it) (.ref s₂.heap.objs.size) (compEnvC scope (clOf X.env scope.names []) P2.objs.size X.env))
        (RR (.ref s₂.heap.objs.size) P2.objs.size) s₃ := by
    rintro s₃ rfl
    refine compLoop_any (fun n s' => ∃ i H', Inv Y [] (blk ix σ) H' s' ∧ tn i s'.heap ∧ (∀ b ∈ fp, H' b = none) ∧ W i n H') ?_ m0 ⟨0, _, I0, hst₁, fun b hb => by rw [upd_ne (fpD b hb)]; exact (hfp b hb).1, w0⟩
    rintro n s3 ⟨i, H3, I3, st3, fr3, w3⟩
    rcases turn i n H3 w3 with ⟨stop, qn⟩ | ⟨go, Nn, hNn, step⟩
    · refine thn (T.done Y rfl rfl rfl hcY i [] s3 _ H3 _ I3 (stat fr3) st3 stop) fun r s4 ⟨hr, I4⟩ => ?_
      subst hr
      obtain ⟨m, hn, _⟩ := I4.loc
      refine hRR _ _ s4 H3 m hCle I4.free nofr hn ?_ ?_ qn
      · obtain ⟨o, es, ep, ho, hd, _⟩ := hn
        exact ⟨o, ho, fun v z => by rw [hd] at z; cases z⟩
      · refine I.call' (s' := s4) (ch := fp) I4.os ?_ I4.hok I4.bare fun b hb => ?_
        · exact I4.base
        · obtain ⟨f0, f1, f2, f3, f4, f5⟩ := hfp b hb
          exact ⟨f3, f1, f4, f5⟩
    · refine thn (T.item Y rfl rfl rfl hcY i [] s3 _ H3 _ I3 (stat fr3) st3 go) fun r s4 ⟨u, hr, h4⟩ => ?_
      subst hr
      refine thn h4 fun _ s5 ⟨x, H5, I5, r5, y5, st5, fr5⟩ => ?_
      have I5' := I5.pinned (stat fr5) (T.obj _ _ st5)
      refine thn (hg _ _ _ _ _ s5 _ H5 x u _ I5' r5 (step x H5 y5)) fun _ s6 ⟨σ6, H6, I6, ext, q6⟩ => ?_
      refine thn (ht _ _ _ _ _ s6 σ6 H6 _ I6 q6) fun ok s7 ⟨H7, I7, q7⟩ => ?_
      have again : ∀ {s8 : Shared} {H8 : Hp} {m' : Nat}, Inv Y ([] ++ pinsAt fp s5.heap) σ6 H8 s8 → m' < n → W (i + 1) m' H8 → ∃ m, m < n ∧ ∃ i H', Inv Y [] (blk ix σ) H' s8 ∧ tn i s8.heap ∧ (∀ b ∈ fp, H' b = none) ∧ W i m H' := fun {s8 H8 m'} I8 hm w8 => by
        refine ⟨m', hm, i + 1, H8, (I8.unpinned).less ext.1.symm ext.2, T.keep _ _ _ st5 fun b hb o e => (I8.pin (b, o) (List.mem_append_right _ (List.mem_append_right _ (mem_pinsAt hb e)))).1, fun b hb => ?_, w8⟩
        obtain ⟨o, e, d⟩ := T.obj _ _ st5 b hb
        exact (I8.pin (b, o) (List.mem_append_right _ (List.mem_append_right _ (mem_pinsAt hb e)))).2.1
      cases ok with
      | false =>
        rw [if_neg Bool.false_ne_true] at q7 ⊢
        obtain ⟨m', hm, w8⟩ := hNn _ q7
        exact again I7 hm w8
      | true =>
        rw [if_pos rfl] at q7 ⊢
        refine thn (he _ _ _ _ _ s7 σ6 H7 _ I7 q7) fun y s8 ⟨yv, H8, I8, ry, ys, hD, hz, w9⟩ => ?_
        have ap := (mt_append (X := Y)) (pins := [] ++ pinsAt fp s5.heap) s8 σ6 H8 (.ref s₂.heap.objs.size) [yv] (.ref s₂.heap.objs.size) [y] (fun _ H9 => Nn H9) I8 rfl (.cons ry .nil)
          ⟨_, ys, yv, rfl, rfl, hD, hz, w9⟩
        exact thn ap fun _ s9 ⟨_, H9, I9, _, w10⟩ => let ⟨m', hm, w11⟩ := hNn _ w10; again I9 hm w11
  exact codeAny_compStart_list (loop _ rfl) (T.self _ 0 _ _ _ hst₁ (loop _ rfl))

theorem Inv.letC {pins : List (Addr × Obj)} {σ : St} {H H₂ : Hp} {s s₂ : Shared} {C : Addr} {h' : Heap} (I₂ : Inv X pins σ H₂ s₂) (I : Inv X pins σ H s) (hge : s₂.heap.objs.size ≤ C) (hC : H C = none) (hs : Heap.SameBut C s.heap h') : Inv X pins σ H { s with heap := h' } := by
  refine I.turned (t' := s.toks) (fun b o hb e => (hs.2 b hb).trans e) hC (Nat.ne_of_gt (Nat.lt_of_lt_of_le I₂.lt hge)) (.inr (Nat.le_trans I₂.sz hge)) (fun x c e z => ?_) fun p hp z => ?_
  · obtain ⟨v, q⟩ := I₂.cell x c e
    exact absurd (Nat.lt_of_lt_of_le q.lt (by rw [z]; exact hge)) (Nat.lt_irrefl _)
  · exact absurd (Nat.lt_of_lt_of_le (Heap.lt_size (I₂.pin p hp).1) (by rw [z]; exact hge)) (Nat.lt_irrefl _)

theorem pe_lc (hcm : X.calm = true) (hf : freeOk scope X.env.scope = true) (hk : scope.kind = .function) (hx : ixOk X.N N' ix scope = true)
    (hi : PI X target iter wi) (hg : BlkR X scope N' fun Y => PG Y target g) (ht : BlkR X scope N' fun Y => PTs Y ifs tt) (he : BlkR X scope N' fun Y => PE Y elt te)
    (hs : ∀ x, foldedSetIterable iter X.env x = pure x := by intro _; rfl) : PE X (.ListComp elt [⟨target, iter, ifs, 0⟩] scope pos) (tLc ix wi g tt te) := by
  refine ⟨?_⟩
  intro pins s σ H Q I h
  rw [eval_ListComp]
  have hcl : ∀ x ∈ scope.names, x.2 = .free → ∃ c, X.env.cells.lookup x.1 = some c := fun x hx he => I.ok.has x.1 ((freeOk.at hf hx).2.1 he)
  refine wpAny_comprehension_free (use := none) rfl hs (closureFor_eq hcl) hk (fun x hx he => (freeOk.at hf hx).2.2.1 he) (wpAny_mono (hi pins s σ H _ I h) (fun xv s₁ h₁ => wpAny_mono h₁ (fun itv s₂ h₂ => ?_) fun _ _ e => e) fun _ _ e => e)
  obtain ⟨it, fp, tn, J, H2, e, I2, T, st2, f2, hw⟩ := h₂
  subst e
  refine comp_run (RR := fun acc C => compPost (model X.prog X.w) X.A X.xe none (EP X pins σ Q) acc C) (QD := fun D H' => Q (.ref D) H') hcm hf hk hx hg ht he I2 T st2 f2 hw ?_
  intro D C s' H' m hC hCn hfr hn ho I' q
  exact ⟨m, hn, fun h' hs' => ⟨.ref D, H', I2.letC I' hC hCn hs', rfl, q⟩⟩

end

def LcN (Pv : Nat → List V → Hp → Prop) (D : Addr) (i : Nat) (H : Hp) : Prop := ∃ zs, H D = some (.lst zs) ∧ zs.length ≤ i + 1 ∧ Pv (i + 1) zs H
theorem lc_put {Pv : Nat → List V → Hp → Prop} {D : Addr} {i n : Nat} {ys : List V} {y : V} {H : Hp} (hD : H D = some (.lst ys)) (hl : ys.length ≤ i) (hi : i < n) (hn : n ≤ sizeLine) (h : Pv (i + 1) (ys ++ [y]) (upd H D (.lst (ys ++ [y])))) :
    ∃ zs, H D = some (.lst zs) ∧ zs.length < sizeLine ∧ LcN Pv D i (upd H D (.lst (zs ++ [y]))) :=
  ⟨ys, hD, by omega, ys ++ [y], upd_same, by rw [List.length_append, List.length_singleton]; omega, h⟩

theorem lc_turns {ix : List (Option Nat)} {J : It} {n : Nat} {g : TG} {tt : TT} {te : TE} {σ : St} {H1 : Hp} {Q : VK} {D : Addr} (Pv : Nat → List V → Hp → Prop) (hn : n ≤ sizeLine) (h0 : Pv 0 [] (upd H1 D (.lst [])))
    (hgo : ∀ i ys H, i < n → Pv i ys H → J.go i H) (hstop : ∀ ys H, Pv n ys H → J.stop n H)
    (hs : ∀ i ys H, i < n → H D = some (.lst ys) → ys.length ≤ i → Pv i ys H → ∀ x H', J.yld i H x H' → g x (blk ix σ) H' fun σ2 H2 => Ext (blk ix σ) σ2 ∧ tt σ2 H2 fun b H3 =>
      if b = true then te σ2 H3 fun y H4 => ∃ zs, H4 D = some (.lst zs) ∧ zs.length < sizeLine ∧ LcN Pv D i (upd H4 D (.lst (zs ++ [y]))) else LcN Pv D i H3)
    (hd : ∀ ys H, H D = some (.lst ys) → ys.length ≤ n → Pv n ys H → Q (.ref D) H) :
    LcGoal ix J g tt te σ H1 Q D := by
  refine ⟨fun i m H => m = n - i ∧ i ≤ n ∧ ∃ ys, H D = some (.lst ys) ∧ ys.length ≤ i ∧ Pv i ys H, ⟨n, by simp, Nat.zero_le _, [], upd_same, Nat.le_refl _, h0⟩, ?_⟩
  rintro i m H ⟨rfl, hi, ys, hD, hl, p⟩
  by_cases hlt : i < n
  · exact .inr ⟨hgo i ys H hlt p, LcN Pv D i, fun H' ⟨zs, a, b, c⟩ => ⟨n - (i + 1), by omega, rfl, hlt, zs, a, b, c⟩, fun x H' y => hs i ys H hlt hD hl p x H' y⟩
  · have e : i = n := by omega
    subst e
    exact .inl ⟨hstop ys H p, hd ys H hD hl p⟩
end L2

set_option Elab.async false
set_option linter.all false
set_option maxRecDepth 100000
set_option maxHeartbeats 4000000
namespace L2
open PySem PySem.Spec PyProof.Rows

section
variable {X : Cx}
def CDiv2 (i j : Int) : Prop := 0 < j ∧ j.natAbs.log2 < 9000
theorem op_fdiv2 : OpR X (binaryOp .FloorDiv) (rI CDiv2 fun i j => .int (i / j)) := opI fun i j _ _ _ _ _ hc q => by
  have h1 : (0 : Int) < j := hc.1
  exact floordiv_int (by omega) (by rw [Int.fdiv_eq_ediv_of_nonneg i (by omega)]; exact q) (.inl (PyProof.noPylong_of_log2 hc.2))

def uAdd : R2 := fun x y H Q => match x, y with
  | .int i, .int j => Q (.int (i + j)) H
  | .str i, .str j => i.length + j.length ≤ sizeLine ∧ Q (.str (i ++ j)) H
  | .ref a, .ref b => ∃ xs zs, H a = some (.lst xs) ∧ H b = some (.lst zs) ∧ xs.length + zs.length ≤ sizeLine ∧ ∀ p, H p = none → Q (.ref p) (upd H p (.lst (xs ++ zs)))
  | _, _ => False
theorem op_uAdd : OpR X (binaryOp .Add) uAdd := by
  intro pins s σ H x y v u Q I rx ry h
  cases x <;> cases y <;> first
    | exact (show False from h).elim
    | exact op_add pins s σ H _ _ v u Q I rx ry ⟨_, _, rfl, rfl, h⟩
    | exact op_add_str pins s σ H _ _ v u Q I rx ry ⟨_, _, rfl, rfl, h.1, h.2⟩
    | (obtain ⟨xs, zs, h1, h2, h3, h4⟩ := h; exact op_cat pins s σ H _ _ v u Q I rx ry ⟨_, _, xs, zs, rfl, rfl, h1, h2, h3, h4⟩)
def uI (C : Int → Int → Prop) (g : Int → Int → V) : R2 := fun x y H Q => match x, y with
  | .int i, .int j => C i j ∧ Q (g i j) H
  | _, _ => False
def uI0 (g : Int → Int → V) : R2 := fun x y H Q => match x, y with
  | .int i, .int j => Q (g i j) H
  | _, _ => False
theorem opU {f : Value → Value → Sem Value} {C : Int → Int → Prop} {g : Int → Int → V} (h : OpR X f (rI C g)) : OpR X f (uI C g) := by
  intro pins s σ H x y v u Q I rx ry q
  cases x <;> cases y <;> first
    | exact (show False from q).elim
    | exact h pins s σ H _ _ v u Q I rx ry ⟨_, _, rfl, rfl, q.1, q.2⟩
theorem opU0 {f : Value → Value → Sem Value} {g : Int → Int → V} (h : OpR X f (rI0 g)) : OpR X f (uI0 g) := by
  intro pins s σ H x y v u Q I rx ry q
  cases x <;> cases y <;> first
    | exact (show False from q).elim
    | exact h pins s σ H _ _ v u Q I rx ry ⟨_, _, rfl, rfl, q⟩
theorem op_uSub : OpR X (binaryOp .Sub) (uI0 fun i j => .int (i - j)) := opU0 op_sub
theorem op_uMul : OpR X (binaryOp .Mult) (uI CMul fun i j => .int (i * j)) := opU op_mul
theorem op_uMod : OpR X (binaryOp .Mod) (uI (fun _ j => 0 < j) fun i j => .int (i % j)) := opU op_mod
theorem op_uFdiv : OpR X (binaryOp .FloorDiv) (uI CDiv2 fun i j => .int (i / j)) := opU op_fdiv2
theorem op_uPow : OpR X (binaryOp .Pow) (uI CPow fun i j => .int (i ^ j.toNat)) := opU op_pow
theorem op_uLt : OpR X (compareOp .Lt) (uI0 fun i j => .bl (decide (i < j))) := opU0 op_lt
theorem op_uGt : OpR X (compareOp .Gt) (uI0 fun i j => .bl (decide (j < i))) := opU0 op_gt
def SameD (K : PySem.W.Frag) (H : Hp) : Nat → V → V → Prop
  | 0, _, _ => False
  | n + 1, x, y => (x = y ∧ flatV x = true) ∨ ∃ a b xs ys, x = .ref a ∧ y = .ref b ∧ ((SqT K H a xs ∧ SqT K H b ys) ∨ (SqL K H a xs ∧ SqL K H b ys)) ∧ xs.length = ys.length ∧ ∀ (i : Nat) u v, xs[i]? = some u → ys[i]? = some v → SameD K H n u v
theorem in1_units (A : Around) : A.in1.units = A.units + 1 := rfl
theorem sameD_at {pins : List (Addr × Obj)} {σ : St} {H : Hp} {s : Shared} (I : Inv X pins σ H s) : ∀ (n : Nat) (A : Around) {x y : V} {u v : Value}, SameD X.K H n x y → A.units + n < cLine → RelV x u → RelV y v → SeqAt.EqAt A s u v true
  | 0, _, _, _, _, _, h, _, _, _ => h.elim
  | n + 1, A, x, y, u, v, h, hu, rx, ry => by
    rcases h with ⟨e, f⟩ | ⟨a, b, xs, ys, ex, ey, hq, hl, hi⟩
    · subst e
      have q := eqAt_V (A := A) (s := s) rx ry f f
      have e2 : eqV x x = true := by cases x <;> first | rfl | exact absurd (show false = true from f) Bool.false_ne_true | simp [eqV]
      rw [e2] at q
      exact q
    · subst ex ey
      cases rx
      cases ry
      by_cases hab : a = b
      · subst hab; exact SeqAt.EqAt.same _
      rcases hq with ⟨h1, h2⟩ | ⟨h1, h2⟩
      · obtain ⟨its, r1, p1, z1⟩ := I.tuple h1
        obtain ⟨its2, r2, p2, z2⟩ := I.tuple h2
        have l1 := r1.length
        have l2 := r2.length
        have sz : its.toArray.size = its2.toArray.size := by simp; omega
        have key := SeqAt.RcAt.tuples (A := A) (e := fun _ => true) (show s.heap.IsTuple a its.toArray from p1) (show s.heap.IsTuple b its2.toArray from p2) (by omega) fun j hj1 hj2 => by
          have hj1' : j < its.length := by simpa using hj1
          have hj2' : j < its2.length := by simpa using hj2
          obtain ⟨u', e1, ru⟩ := r1.get (i := j) (x := xs[j]'(by omega)) (by simp)
          obtain ⟨v', e2, rv⟩ := r2.get (i := j) (x := ys[j]'(by omega)) (by simp)
          have f1 : its.toArray[j] = u' := by
            have := List.getElem?_eq_getElem hj1'
            rw [this] at e1
            simpa using Option.some.inj e1
          have f2 : its2.toArray[j] = v' := by
            have := List.getElem?_eq_getElem hj2'
            rw [this] at e2
            simpa using Option.some.inj e2
          rw [f1, f2]
          exact sameD_at I n A.in1 (hi j _ _ (by simp) (by simp)) (by rw [in1_units]; omega) ru rv
        have key2 : SeqAt.RcAt A s (.ref a) (.ref b) true := by
          have : ((List.range (min its.toArray.size its2.toArray.size)).all (fun _ => true) && its.toArray.size == its2.toArray.size) = true := by
            rw [sz]; simp
          rw [this] at key
          exact key
        exact SeqAt.EqAt.of_refs hab key2
      · obtain ⟨its, r1, p1, z1⟩ := I.list h1
        obtain ⟨its2, r2, p2, z2⟩ := I.list h2
        have l1 := r1.length
        have l2 := r2.length
        have sz : its.toArray.size = its2.toArray.size := by simp; omega
        have key := SeqAt.RcAt.lists (A := A) (e := fun _ => true) p1.isList p2.isList sz (by omega) fun j hj1 hj2 => by
          have hj1' : j < its.length := by simpa using hj1
          have hj2' : j < its2.length := by simpa using hj2
          obtain ⟨u', e1, ru⟩ := r1.get (i := j) (x := xs[j]'(by omega)) (by simp)
          obtain ⟨v', e2, rv⟩ := r2.get (i := j) (x := ys[j]'(by omega)) (by simp)
          have f1 : its.toArray[j] = u' := by
            have := List.getElem?_eq_getElem hj1'
            rw [this] at e1
            simpa using Option.some.inj e1
          have f2 : its2.toArray[j] = v' := by
            have := List.getElem?_eq_getElem hj2'
            rw [this] at e2
            simpa using Option.some.inj e2
          rw [f1, f2]
          exact sameD_at I n A.in1 (hi j _ _ (by simp) (by simp)) (by rw [in1_units]; omega) ru rv
        have key2 : SeqAt.RcAt A s (.ref a) (.ref b) true := by
          have : ((List.range its.toArray.size).all (fun _ => true)) = true := by simp
          rw [this] at key
          exact key
        exact SeqAt.EqAt.of_refs hab key2
end
end L2

set_option Elab.async false
set_option linter.all false
set_option maxRecDepth 100000
set_option maxHeartbeats 4000000
namespace L2
open PySem PySem.Spec PyProof.Rows
section
variable {X : Cx}

theorem seq_rc {pins : List (Addr × Obj)} {σ : St} {H : Hp} {s : Shared} (I : Inv X pins σ H s) {A : Around} {n : Nat} {a b : Addr} (h : SameD X.K H (n + 1) (.ref a) (.ref b)) (hu : A.units + n + 1 < cLine) :
    SeqAt.RcAt A s (.ref a) (.ref b) true ∧ SeqAt.RcNeAt A s (.ref a) (.ref b) false := by
  rcases h with ⟨e, f⟩ | ⟨a', b', xs, ys, ex, ey, hq, hl, hi⟩
  · exact absurd (show false = true from f) Bool.false_ne_true
  · cases ex
    cases ey
    rcases hq with ⟨h1, h2⟩ | ⟨h1, h2⟩
    · obtain ⟨its, r1, p1, z1⟩ := I.tuple h1
      obtain ⟨its2, r2, p2, z2⟩ := I.tuple h2
      have l1 := r1.length
      have l2 := r2.length
      have sz : its.toArray.size = its2.toArray.size := by simp; omega
      have items : ∀ j (h1 : j < its.toArray.size) (h2 : j < its2.toArray.size), SeqAt.EqAt A.in1 s its.toArray[j] its2.toArray[j] ((fun _ => true) j) := fun j hj1 hj2 => by
        have hj1' : j < its.length := by simpa using hj1
        have hj2' : j < its2.length := by simpa using hj2
        obtain ⟨u', e1, ru⟩ := r1.get (i := j) (x := xs[j]'(by omega)) (by simp)
        obtain ⟨v', e2, rv⟩ := r2.get (i := j) (x := ys[j]'(by omega)) (by simp)
        have f1 : its.toArray[j] = u' := by
          have := List.getElem?_eq_getElem hj1'
          rw [this] at e1
          simpa using Option.some.inj e1
        have f2 : its2.toArray[j] = v' := by
          have := List.getElem?_eq_getElem hj2'
          rw [this] at e2
          simpa using Option.some.inj e2
        rw [f1, f2]
        exact sameD_at I n A.in1 (hi j _ _ (by simp) (by simp)) (by rw [in1_units]; omega) ru rv
      have e : ((List.range (min its.toArray.size its2.toArray.size)).all (fun _ => true) && its.toArray.size == its2.toArray.size) = true := by
        rw [sz]; simp
      have k1 := SeqAt.RcAt.tuples (A := A) (show s.heap.IsTuple a its.toArray from p1) (show s.heap.IsTuple b its2.toArray from p2) (by omega) items
      have k2 := SeqAt.RcNeAt.tuples (A := A) (show s.heap.IsTuple a its.toArray from p1) (show s.heap.IsTuple b its2.toArray from p2) (by omega) items
      rw [e] at k1 k2
      exact ⟨k1, k2⟩
    · obtain ⟨its, r1, p1, z1⟩ := I.list h1
      obtain ⟨its2, r2, p2, z2⟩ := I.list h2
      have l1 := r1.length
      have l2 := r2.length
      have sz : its.toArray.size = its2.toArray.size := by simp; omega
      have items : ∀ j (h1 : j < its.toArray.size) (h2 : j < its2.toArray.size), SeqAt.EqAt A.in1 s its.toArray[j] its2.toArray[j] ((fun _ => true) j) := fun j hj1 hj2 => by
        have hj1' : j < its.length := by simpa using hj1
        have hj2' : j < its2.length := by simpa using hj2
        obtain ⟨u', e1, ru⟩ := r1.get (i := j) (x := xs[j]'(by omega)) (by simp)
        obtain ⟨v', e2, rv⟩ := r2.get (i := j) (x := ys[j]'(by omega)) (by simp)
        have f1 : its.toArray[j] = u' := by
          have := List.getElem?_eq_getElem hj1'
          rw [this] at e1
          simpa using Option.some.inj e1
        have f2 : its2.toArray[j] = v' := by
          have := List.getElem?_eq_getElem hj2'
          rw [this] at e2
          simpa using Option.some.inj e2
        rw [f1, f2]
        exact sameD_at I n A.in1 (hi j _ _ (by simp) (by simp)) (by rw [in1_units]; omega) ru rv
      have e : (List.range its.toArray.size).all (fun _ => true) = true := by simp
      have k1 := SeqAt.RcAt.lists (A := A) p1.isList p2.isList sz (by omega) items
      have k2 := SeqAt.RcNeAt.lists (A := A) p1.isList p2.isList sz (by omega) items
      rw [e] at k1 k2
      exact ⟨k1, k2⟩

def DiffL (K : PySem.W.Frag) (H : Hp) (a b : Addr) : Prop := ∃ xs ys, xs.length ≠ ys.length ∧ ((SqL K H a xs ∧ SqL K H b ys) ∨ (SqT K H a xs ∧ SqT K H b ys ∧ (xs = [] ∨ ys = [])))
theorem diff_rc {pins : List (Addr × Obj)} {σ : St} {H : Hp} {s : Shared} (I : Inv X pins σ H s) {A : Around} {a b : Addr} (h : DiffL X.K H a b) (hu : A.units < cLine) :
    SeqAt.RcAt A s (.ref a) (.ref b) false ∧ SeqAt.RcNeAt A s (.ref a) (.ref b) true := by
  obtain ⟨xs, ys, hne, ⟨h1, h2⟩ | ⟨h1, h2, h3⟩⟩ := h
  · obtain ⟨its, r1, p1, z1⟩ := I.list h1
    obtain ⟨its2, r2, p2, z2⟩ := I.list h2
    have l1 := r1.length
    have l2 := r2.length
    have hb : (its.toArray.size != its2.toArray.size) = true := by simp; omega
    exact ⟨SeqAt.RcAt.lists_lengths p1.isList p2.isList hb hu, SeqAt.RcNeAt.lists_lengths p1.isList p2.isList hb hu⟩
  · obtain ⟨its, r1, p1, z1⟩ := I.tuple h1
    obtain ⟨its2, r2, p2, z2⟩ := I.tuple h2
    have l1 := r1.length
    have l2 := r2.length
    have items : ∀ j (h1 : j < its.toArray.size) (h2 : j < its2.toArray.size), SeqAt.EqAt A.in1 s its.toArray[j] its2.toArray[j] ((fun _ => true) j) := fun j hj1 hj2 => by
      exfalso
      have hj1' : j < its.length := by simpa using hj1
      have hj2' : j < its2.length := by simpa using hj2
      rcases h3 with e | e
      · subst e; simp at l1; omega
      · subst e; simp at l2; omega
    have e : ((List.range (min its.toArray.size its2.toArray.size)).all (fun _ => true) && its.toArray.size == its2.toArray.size) = false := by
      have : its.toArray.size ≠ its2.toArray.size := by simp; omega
      rw [Bool.and_eq_false_iff]
      exact .inr (beq_eq_false_iff_ne.mpr this)
    have k1 := SeqAt.RcAt.tuples (A := A) (show s.heap.IsTuple a its.toArray from p1) (show s.heap.IsTuple b its2.toArray from p2) hu items
    have k2 := SeqAt.RcNeAt.tuples (A := A) (show s.heap.IsTuple a its.toArray from p1) (show s.heap.IsTuple b its2.toArray from p2) hu items
    rw [e] at k1 k2
    exact ⟨k1, k2⟩
def uEq (K : PySem.W.Frag) : R2 := fun x y H Q => match x, y with
  | .ref a, .ref b => (SameD K H 20 (.ref a) (.ref b) ∧ Q (.bl true) H) ∨ (DiffL K H a b ∧ Q (.bl false) H)
  | x, y => scal x y = true ∧ Q (.bl (decide (x = y))) H
def uNe (K : PySem.W.Frag) : R2 := fun x y H Q => match x, y with
  | .ref a, .ref b => (SameD K H 20 (.ref a) (.ref b) ∧ Q (.bl false) H) ∨ (DiffL K H a b ∧ Q (.bl true) H)
  | x, y => scal x y = true ∧ Q (.bl (!decide (x = y))) H
theorem op_uEq (hu : X.A.units + 64 < cLine) : OpR X (compareOp .Eq) (uEq X.K) := by
  intro pins s σ H x y v u Q I rx ry h
  cases x <;> cases y <;> first
    | exact op_eq pins s σ H _ _ v u Q I rx ry h
    | (cases rx; cases ry
       rcases h with ⟨h1, q⟩ | ⟨h1, q⟩
       · exact (seq_rc I (A := X.A) h1 (by omega)).1 X.prog X.w X.xe _ ⟨.bl true, H, I, rfl, q⟩
       · exact (diff_rc I (A := X.A) h1 (by omega)).1 X.prog X.w X.xe _ ⟨.bl false, H, I, rfl, q⟩)
theorem op_uNe (hu : X.A.units + 64 < cLine) : OpR X (compareOp .NotEq) (uNe X.K) := by
  intro pins s σ H x y v u Q I rx ry h
  cases x <;> cases y <;> first
    | exact op_ne pins s σ H _ _ v u Q I rx ry h
    | (cases rx; cases ry
       rcases h with ⟨h1, q⟩ | ⟨h1, q⟩
       · exact (seq_rc I (A := X.A) h1 (by omega)).2 X.prog X.w X.xe _ ⟨.bl false, H, I, rfl, q⟩
       · exact (diff_rc I (A := X.A) h1 (by omega)).2 X.prog X.w X.xe _ ⟨.bl true, H, I, rfl, q⟩)

def uIn (K : PySem.W.Frag) (neg : Bool) : R2 := fun x y H Q => match y with
  | .ref p => ∃ xs, (SqL K H p xs ∨ SqT K H p xs) ∧ flatV x = true ∧ xs.all flatV = true ∧ Q (.bl (if neg then !inV x xs else inV x xs)) H
  | _ => False
def iSeq (K : PySem.W.Frag) (tl : TE) : TI := fun σ H R => tl σ H fun x H1 => match x with
  | .ref a => ((∃ xs, SqL K H1 a xs) ∧ R (Itl K a) H1) ∨ ((∃ xs, SqT K H1 a xs) ∧ R (Itt K a) H1)
  | _ => False
theorem pi_seq {tg l : Expr} {tl : TE} (hl : PE X l tl) : PI X tg l (iSeq X.K tl) := by
  refine ⟨?_⟩
  intro pins s σ H R I h
  refine thn (hl pins s σ H _ I h) fun v s1 ⟨x, H1, I1, r1, q1⟩ => ?_
  cases x <;> first
    | exact (show False from q1).elim
    | (rename_i a; cases r1
       rcases q1 with ⟨⟨xs, hq⟩, q⟩ | ⟨⟨xs, hq⟩, q⟩
       · obtain ⟨its, rv, p, hz⟩ := I1.list hq
         refine wpAny_pyIter_list p.isList ?_
         refine ⟨s1.heap.objs.size, [s1.heap.objs.size], _, _, H1, rfl, I1.kept (t' := s1.toks) fun b o e => Heap.get?_push_of_some _ e, turn_list a _, ⟨_, Heap.get?_push_size _ rfl, rfl, rfl⟩, fun b hb => ?_, q⟩
         have e : b = s1.heap.objs.size := by simpa using hb
         subst e
         exact I1.fpOk (Nat.le_refl _) (I1.hok.fresh (Nat.le_refl _))
       · obtain ⟨its, rv, p, hz⟩ := I1.tuple hq
         refine wpAny_pyIter_tuple (show s1.heap.IsTuple a its.toArray from p) ?_
         refine ⟨s1.heap.objs.size, [s1.heap.objs.size], _, _, H1, rfl, I1.kept (t' := s1.toks) fun b o e => Heap.get?_push_of_some _ e, turn_tuple a _, ⟨_, Heap.get?_push_size _ rfl, rfl, rfl⟩, fun b hb => ?_, q⟩
         have e : b = s1.heap.objs.size := by simpa using hb
         subst e
         exact I1.fpOk (Nat.le_refl _) (I1.hok.fresh (Nat.le_refl _)))

end

structure Def (P : Program) (w : World) (K : PySem.W.Frag) (mg : Str → Option Value) (base : Heap) (x : Str) (k : Nat) (ps : List Str) (sp : Sp) : Prop where
  ex : ∃ f fd, FnOk P w K mg base CX0 k f fd ps sp ∧ mg x = some (.ref f) ∧ PySem.W.keepIn K (.ref f) = true ∧ Binds K fd ps []

structure Top1 (K : PySem.W.Frag) (mg : Str → Option Value) (x qual : Str) (st : Stmt) (ps : List Str) : Prop where
  ex : ∃ f fd, Fun K x qual st f fd ∧ mg x = some (.ref f) ∧ Binds K fd ps []
section
variable {P : Program} {w : World} {K : PySem.W.Frag} {mg : Str → Option Value} {base : Heap}
theorem Top1.ok {x qual : Str} {st : Stmt} {N ps : List Str} {k : Nat} {sp : Sp} (T : Top1 K mg x qual st ps) (S : FnScope N ps (defScope st)) (len : ∀ vs H Q E, sp vs H Q E → vs.length = ps.length)
    (hbody : ∀ (f : Addr) (cdv : Value) (A : Around) (outer : List Env) (s : Shared) (H : Hp) (vs : List V) (Q : VK) (E : XK), Room k (A.deeper (envOfC qual (defScope st) s.heap.objs.size f cdv)) → sp vs H Q E →
      ∃ t, PSs (cxOf CX0 P w K mg base N qual (defScope st) f cdv A outer s H E).nox (defBody st) t ∧ t { nx := fun _ H' => Q .non H', rt := Q } (start N vs) H) : Def P w K mg base x (k + 1) ps sp := by
  obtain ⟨f, fd, F, hm, hb⟩ := T.ex
  exact ⟨f, fd, F.ok S len (hbody f), hm, F.kp, hb⟩
end

theorem pe_cd {X : Cx} {k j : Nat} {ps : List Str} {sp : Sp} {x : Str} {p pos : Pos} {e : Expr} {es : List Expr} {t : TA} (D : Def X.prog X.w X.K X.mg X.base x k ps sp) (hr : Room j X.A) (ha : PA X (e :: es) t) (hg : Gl X x := by rfl) (hj : k ≤ j := by decide)
    (hdb : (x == ("__debug__" : Str)) = false := by decide) (he : starEach (e :: es) X.env = (false, eval e X.env) :: starEach es X.env := by rfl) (hpl : (backTo pos (starEach es X.env)).any (·.1) = false := by rfl) :
    PE X (.Call (.Name x p) (e :: es) [] pos) (tCall sp [] E0 t) := by
  obtain ⟨f, fd, F, hm, hk, hb⟩ := D.ex
  exact pe_call F (hr.mono hj) hg hm hk hb .nil pass0 ha hdb he hpl
end L2

set_option Elab.async false
set_option linter.all false
set_option maxRecDepth 100000
set_option maxHeartbeats 4000000
namespace L2
open PySem PySem.Spec PyProof.Rows
section
variable {X : Cx}
def uIx (K : PySem.W.Frag) : R2 := fun x y H Q => match x, y with
  | .str z, .int i => ∃ c, z.length ≤ sizeLine ∧ atI z.cps.toList i = some c ∧ Q (.str ⟨#[c]⟩) H
  | .ref p, .int i => ∃ xs v, (SqL K H p xs ∨ SqT K H p xs) ∧ atI xs i = some v ∧ Q v H
  | .ref p, .str k => ∃ v, DGet H p (.str k) (some v) ∧ Q v H
  | _, _ => False
theorem ix_u (hu : X.A.units + 64 < cLine) : IxR X (uIx X.K) := by
  intro value slice pins s σ H x y v u Q I rx ry h hs
  cases x <;> cases y <;> first
    | exact (show False from h).elim
    | (obtain ⟨c, h1, h2, h3⟩ := h; exact ix_str value slice pins s σ H _ _ v u Q I rx ry ⟨_, _, c, rfl, rfl, h1, h2, h3⟩ hs)
    | (obtain ⟨xs, w', h1 | h1, h2, h3⟩ := h
       · exact ix_list value slice pins s σ H _ _ v u Q I rx ry ⟨_, xs, _, w', rfl, rfl, h1, h2, h3⟩ hs
       · exact ix_tup value slice pins s σ H _ _ v u Q I rx ry ⟨_, xs, _, w', rfl, rfl, h1, h2, h3⟩ hs)
    | (obtain ⟨w', g, h3⟩ := h
       cases rx
       exact tail_any (dict_typeIs I g) PySem.F.slot_dict_getitem.lookup (d_getItem (by omega) I g ry fun w2 s3 I3 rw' => ⟨w', H, I3, rw', h3⟩) hs)
end

inductive DV where
  | non | bl (b : Bool) | int (i : Int) | str (x : Str) | tup (ds : List DV) | lst (ds : List DV) | dict
inductive HT (H : Hp) : Nat → V → DV → Prop
  | non {n} : HT H n .non .non
  | bl {n} (b : Bool) : HT H n (.bl b) (.bl b)
  | int {n} (i : Int) : HT H n (.int i) (.int i)
  | str {n} (x : Str) : HT H n (.str x) (.str x)
  | tup {n a xs ds} : H a = some (.tup xs) → xs.length = ds.length → (∀ (i : Nat) u e, xs[i]? = some u → ds[i]? = some e → HT H n u e) → HT H (n + 1) (.ref a) (.tup ds)
def Tups (H H' : Hp) : Prop := ∀ b xs, H b = some (.tup xs) → H' b = some (.tup xs)
theorem Same.new {H : Hp} {p : Addr} (o : HO) (hn : H p = none) : Same H (upd H p o) := fun b u e => by rw [upd_ne (ne_of_none e hn)]; exact e

end L2

set_option Elab.async false
set_option linter.all false
set_option maxRecDepth 100000
set_option maxHeartbeats 4000000
namespace L2
open PySem PySem.Spec PyProof.Rows
section
variable {X : Cx}
def uLen (K : PySem.W.Frag) : List V → Hp → VK → Prop := fun xs H Q => match xs with
  | [x] => ∃ n, LenV K x H n ∧ Q (.int (n : Nat)) H
  | _ => False
theorem call_ulen : CallR X (.builtin "len") (uLen X.K) := by
  intro pins s σ H xs us Q I r h
  match xs, r, h with
  | [x], r, h =>
    obtain ⟨n, h1, h2⟩ := h
    exact call_len pins s σ H _ us Q I r ⟨x, n, rfl, h1, h2⟩
def uII (g : Int → Int → Int) : List V → Hp → VK → Prop := fun xs H Q => match xs with
  | [.int i, .int j] => Q (.int (g i j)) H
  | _ => False
theorem call_umax (hc : X.calm = true) : CallR X (.builtin "max") (uII fun i j => if j > i then j else i) := by
  intro pins s σ H xs us Q I r h
  match xs, r, h with
  | [.int i, .int j], r, h => exact call_max2 hc pins s σ H _ us Q I r ⟨i, j, rfl, h⟩
theorem call_umin (hc : X.calm = true) : CallR X (.builtin "min") (uII fun i j => if j < i then j else i) := by
  intro pins s σ H xs us Q I r h
  match xs, r, h with
  | [.int i, .int j], r, h => exact call_min2 hc pins s σ H _ us Q I r ⟨i, j, rfl, h⟩
def uTuple (K : PySem.W.Frag) : List V → Hp → VK → Prop := fun xs H Q => match xs with
  | [.ref p] => (∃ ys, SqL K H p ys ∧ ∀ l, H l = none → Q (.ref l) (upd H l (.tup ys))) ∨ (∃ ys, SqT K H p ys ∧ Q (.ref p) H)
  | _ => False
def uList (K : PySem.W.Frag) : List V → Hp → VK → Prop := fun xs H Q => match xs with
  | [.ref p] => ∃ ys, (SqL K H p ys ∨ SqT K H p ys) ∧ ∀ l, H l = none → Q (.ref l) (upd H l (.lst ys))
  | _ => False
theorem call_ulist : CallR X (.type "list") (uList X.K) := by
  intro pins s σ H xs us Q I r h
  match xs, r, h with
  | [.ref p], r, h =>
    obtain ⟨ys, h1, h2⟩ := h
    exact call_list_of pins s σ H _ us Q I r ⟨p, ys, rfl, h1, h2⟩
def uSetL : V → V → V → Hp → (Hp → Prop) → Prop := fun o i v H Q => match o, i with
  | .ref p, .int k => ∃ xs j, H p = some (.lst xs) ∧ ixN xs.length k = some j ∧ Q (upd H p (.lst (xs.set j v)))
  | _, _ => False
theorem set_ulist : PSet X uSetL := by
  intro pins s σ H o i v ov iv u Q I ro ri rv h
  cases o <;> cases i <;> first
    | exact (show False from h).elim
    | (obtain ⟨xs, j, h1, h2, h3⟩ := h; exact set_list pins s σ H _ _ v ov iv u Q I ro ri rv ⟨_, xs, _, j, rfl, rfl, h1, h2, h3⟩)
end
theorem cx_K {CX P w K mg base N qual scope f cd A outer s H E} : (cxOf CX P w K mg base N qual scope f cd A outer s H E).nox.K = K := rfl
theorem nox_K {X : Cx} : X.nox.K = X.K := rfl
theorem cxOf_K {CX P w K mg base N qual scope f cd A outer s H E} : (cxOf CX P w K mg base N qual scope f cd A outer s H E).K = K := rfl
theorem bCx_K {X : Cx} {scope C N' s₂ H₂ fp} : (bCx X scope C N' s₂ H₂ fp).K = X.K := rfl
theorem seq_asg {te : TE} {i : Nat} {u : TS} {D : Ends} {σ : St} {H : Hp} (h : te σ H fun x H1 => u D (σ.set i (some x)) H1) : tSeq (tAsg te (gName i)) u D σ H := h

end L2

set_option Elab.async false
set_option linter.all false
set_option maxRecDepth 100000
set_option maxHeartbeats 4000000
namespace L2
open PySem PySem.Spec PyProof.Rows
section
variable {K : PySem.W.Frag} {H : Hp} {Q : VK} {i j : Int} {a b : Addr} {x y : V} {s t : Str}
theorem uAdd_ii : uAdd (.int i) (.int j) H Q = Q (.int (i + j)) H := rfl
theorem uAdd_rr : uAdd (.ref a) (.ref b) H Q = ∃ xs zs, H a = some (.lst xs) ∧ H b = some (.lst zs) ∧ xs.length + zs.length ≤ sizeLine ∧ ∀ p, H p = none → Q (.ref p) (upd H p (.lst (xs ++ zs))) := rfl
theorem uI_ii {C : Int → Int → Prop} {g : Int → Int → V} : uI C g (.int i) (.int j) H Q = (C i j ∧ Q (g i j) H) := rfl
theorem uI0_ii {g : Int → Int → V} : uI0 g (.int i) (.int j) H Q = Q (g i j) H := rfl
theorem dec_VI : decide (V.int i = V.int j) = decide (i = j) := by simp
theorem dec_VS : decide (V.str s = V.str t) = decide (s = t) := by simp
theorem uEq_ii : uEq K (.int i) (.int j) H Q = Q (.bl (decide (i = j))) H := by
  show (true = true ∧ Q (.bl (decide (V.int i = V.int j))) H) = _
  rw [dec_VI]; simp
theorem uEq_ss : uEq K (.str s) (.str t) H Q = Q (.bl (decide (s = t))) H := by
  show (true = true ∧ Q (.bl (decide (V.str s = V.str t))) H) = _
  rw [dec_VS]; simp
theorem uNe_ii : uNe K (.int i) (.int j) H Q = Q (.bl (!decide (i = j))) H := by
  show (true = true ∧ Q (.bl (!decide (V.int i = V.int j))) H) = _
  rw [dec_VI]; simp
theorem uNe_ss : uNe K (.str s) (.str t) H Q = Q (.bl (!decide (s = t))) H := by
  show (true = true ∧ Q (.bl (!decide (V.str s = V.str t))) H) = _
  rw [dec_VS]; simp
theorem uEq_rr : uEq K (.ref a) (.ref b) H Q = ((SameD K H 20 (.ref a) (.ref b) ∧ Q (.bl true) H) ∨ (DiffL K H a b ∧ Q (.bl false) H)) := rfl
theorem uNe_rr : uNe K (.ref a) (.ref b) H Q = ((SameD K H 20 (.ref a) (.ref b) ∧ Q (.bl false) H) ∨ (DiffL K H a b ∧ Q (.bl true) H)) := rfl
theorem uIx_ri : uIx K (.ref a) (.int i) H Q = ∃ xs v, (SqL K H a xs ∨ SqT K H a xs) ∧ atI xs i = some v ∧ Q v H := rfl
theorem uIx_si : uIx K (.str s) (.int i) H Q = ∃ c, s.length ≤ sizeLine ∧ atI s.cps.toList i = some c ∧ Q (.str ⟨#[c]⟩) H := rfl
theorem uLen_1 : uLen K [x] H Q = ∃ n, LenV K x H n ∧ Q (.int (n : Nat)) H := rfl
theorem uII_2 {g : Int → Int → Int} : uII g [.int i, .int j] H Q = Q (.int (g i j)) H := rfl
theorem uList_1 : uList K [.ref a] H Q = ∃ ys, (SqL K H a ys ∨ SqT K H a ys) ∧ ∀ l, H l = none → Q (.ref l) (upd H l (.lst ys)) := rfl
theorem uSetL_ri {R : Hp → Prop} : uSetL (.ref a) (.int i) x H R = ∃ xs j, H a = some (.lst xs) ∧ ixN xs.length i = some j ∧ R (upd H a (.lst (xs.set j x))) := rfl
theorem some_join {α : Type} {o : Option α} : (some o).join = o := rfl
end

end L2

set_option Elab.async false
set_option linter.all false
set_option maxRecDepth 100000
set_option maxHeartbeats 4000000
namespace L2
open PySem PySem.Spec PyProof.Rows

def plainE : Expr → Bool
  | .Starred .. => false
  | _ => true
theorem star_cons {e : Expr} {es : List Expr} {env : Env} (h : plainE e = true) : starEach (e :: es) env = (false, eval e env) :: starEach es env := by
  cases e <;> first | rfl | exact absurd h Bool.false_ne_true
theorem star_any {pos : Pos} {env : Env} : ∀ {es : List Expr}, es.all plainE = true → (backTo pos (starEach es env)).any (·.1) = false
  | [], _ => rfl
  | e :: es, h => by
    rw [List.all_cons, Bool.and_eq_true] at h
    rw [star_cons h.1]
    show (false || (backTo pos (starEach es env)).any (·.1)) = false
    rw [star_any h.2]; rfl
def noComp : Expr → Bool
  | .ListComp .. => false
  | .SetComp .. => false
  | .DictComp .. => false
  | _ => true
theorem no_swap {e : Expr} {t : Option Expr} {l : Nat} {env : Env} (h : noComp e = true) : swapsWith e t l env = pure false := by
  cases e <;> first | rfl | exact absurd h Bool.false_ne_true
section
variable {X : Cx} {e : Expr} {es : List Expr} {te : TE} {t : TA} {pos p : Pos} {x : Str}
theorem pa_c (ha : PE X e te) (hr : PA X es t) (h : plainE e = true := by rfl) : PA X (e :: es) (tCons te t) := pa_cons ha hr (star_cons h)
theorem pe_cf {k j : Nat} {ps : List Str} {sp : Sp} (D : Def X.prog X.w X.K X.mg X.base x k ps sp) (hr : Room j X.A) (ha : PA X (e :: es) t) (hg : Gl X x := by rfl) (hj : k ≤ j := by decide)
    (hdb : (x == ("__debug__" : Str)) = false := by decide) (h1 : plainE e = true := by rfl) (h2 : es.all plainE = true := by rfl) :
    PE X (.Call (.Name x p) (e :: es) [] pos) (tCall sp [] E0 t) := pe_cd D hr ha hg hj hdb (star_cons h1) (star_any h2)
theorem pe_cB {id : String} {r : List V → Hp → VK → Prop} (hc : CallR X (.builtin id) r) (hg : Gl X x) (hm : X.mg x = none) (hv : bootBuiltins x = some (.builtin id)) (ha : PA X (e :: es) t) (hn : x ≠ "__name__" := by decide) (hdb : (x == ("__debug__" : Str)) = false := by decide)
    (h1 : plainE e = true := by rfl) (h2 : es.all plainE = true := by rfl) : PE X (.Call (.Name x p) (e :: es) [] pos) (tCB r t) := pe_callB hc hg hm hv ha hn hdb (star_cons h1) (star_any h2)
theorem pe_cT {T : String} {r : List V → Hp → VK → Prop} (hc : CallR X (.type T) r) (hg : Gl X x) (hm : X.mg x = none) (hv : bootBuiltins x = some (.type T)) (ha : PA X (e :: es) t) (hn : x ≠ "__name__" := by decide) (hdb : (x == ("__debug__" : Str)) = false := by decide)
    (h1 : plainE e = true := by rfl) (h2 : es.all plainE = true := by rfl) : PE X (.Call (.Name x p) (e :: es) [] pos) (tCB r t) := pe_callTy hc hg hm hv ha hn hdb (star_cons h1) (star_any h2)
theorem ps_st {i : Nat} {pos' : Pos} (hN : X.N.Nodup) (hi : X.N[i]? = some x) (hx : Loc X.env.scope x) (he : PE X e te) (h : noComp e = true := by rfl) (hf : X.fn x = true ∨ X.env.scope.names.lookup x = some .local := by first | exact .inl rfl | exact .inr rfl | assumption) :
    PS X (.Assign [.Name x pos'] e pos) (tAsg te (gName i)) := ps_set hN hi hx he (no_swap h) hf
theorem ps_ex (he : PE X e te) (h : noComp e = true := by rfl) : PS X (.Expr e pos) (tDrop te) := ps_expr he (no_swap h)
end
end L2

set_option Elab.async false
set_option linter.all false
namespace L2
open PySem PySem.Spec PyProof.Rows
def noSlice : Expr → Bool
  | .Slice .. => false
  | _ => true
theorem plain_ix {b : Expr} (h : noSlice b = true) : PlainIx b := fun o i => by
  cases b <;> first | rfl | exact absurd h Bool.false_ne_true
theorem pe_ixu {X : Cx} {a b : Expr} {ta tb : TE} {pos : Pos} (hu : X.A.units + 64 < cLine) (ha : PE X a ta) (hb : PE X b tb) (h : noSlice b = true := by rfl) : PE X (.Subscript a b pos) (tOp (uIx X.K) ta tb) := pe_ix (ix_u hu) ha hb (plain_ix h)
end L2

set_option Elab.async false
set_option linter.all false
set_option maxRecDepth 100000
set_option maxHeartbeats 4000000

set_option Elab.async false
set_option linter.all false
set_option maxRecDepth 100000
set_option maxHeartbeats 4000000
namespace PySem

end PySem

set_option Elab.async false
set_option linter.all false
set_option maxRecDepth 100000
set_option maxHeartbeats 4000000
namespace L2
open PySem PySem.Spec PyProof.Rows
section
variable {X : Cx} {pins : List (Addr × Obj)} {σ : St} {H : Hp} {s : Shared}

end
end L2

set_option Elab.async false
set_option linter.all false
set_option maxRecDepth 100000
set_option maxHeartbeats 4000000
namespace L2
open PySem PySem.Spec PyProof.Rows

end L2

set_option Elab.async false
set_option linter.all false
set_option maxRecDepth 100000
set_option maxHeartbeats 4000000
namespace L2
open PySem PySem.Spec PyProof.Rows
section
variable {X : Cx}

def uSl : V → Option Int → Option Int → Hp → VK → Prop := fun x lo hi H Q => match x with
  | .ref a => (∃ xs, H a = some (.lst xs) ∧ ∀ p, H p = none → Q (.ref p) (upd H p (.lst (cutV xs lo hi)))) ∨ (∃ xs, H a = some (.tup xs) ∧ ∀ p H', Same H H' → H' p = some (.tup (cutV xs lo hi)) → Q (.ref p) H')
  | _ => False
def uAll (K : PySem.W.Frag) : List V → Hp → VK → Prop := fun xs H Q => match xs with
  | [.ref p] => ∃ bs : List Bool, SqL K H p (bs.map V.bl) ∧ Q (.bl (bs.all id)) H
  | _ => False
theorem uAll_1 {K : PySem.W.Frag} {p : Addr} {H : Hp} {Q : VK} : uAll K [.ref p] H Q = ∃ bs : List Bool, SqL K H p (bs.map V.bl) ∧ Q (.bl (bs.all id)) H := rfl
theorem vals_bl : ∀ {bs : List Bool} {us : List Value}, Vals (bs.map V.bl) us → us = bs.map Value.bool
  | [], _, .nil => rfl
  | b :: bs, _, .cons r t => by
    cases r
    rw [vals_bl t]; rfl
theorem all_range : ∀ (bs : List Bool), ((List.range bs.length).all fun i => bs.getD i false) = bs.all id := by
  intro bs
  induction bs with
  | nil => rfl
  | cons b r ih =>
    rw [List.length_cons, List.range_succ_eq_map, List.all_cons, List.all_map, List.all_cons]
    have : ((fun i => (b :: r).getD i false) ∘ Nat.succ) = fun i => r.getD i false := by funext i; simp
    rw [this, ih]; rfl
theorem truth_bl {prog : Program} {w : World} {A : Around} {bs : List Bool} : TruthOf prog w A (fun i v => (bs.map Value.bool).toArray[i]? = some v) (fun i => bs.getD i false) := by
  intro i v s Q E hp hq
  have hp' : (bs.map Value.bool)[i]? = some v := by simpa using hp
  rw [List.getElem?_map] at hp'
  cases hb : bs[i]? with
  | none => rw [hb] at hp'; cases hp'
  | some b =>
    rw [hb] at hp'
    cases hp'
    have : bs.getD i false = b := by rw [List.getD_eq_getElem?_getD, hb]; rfl
    replace hq : Q (bs.getD i false) s := hq
    rw [this] at hq
    exact wpAny_truthy_bool hq
theorem call_uall (hc : X.calm = true) : CallR X (.builtin "all") (uAll X.K) := by
  intro pins s σ H xs us Q I r h
  match xs, r, h with
  | [.ref p], r, h =>
    obtain ⟨bs, hq, q⟩ := h
    obtain ⟨u, rfl, ru⟩ := Vals.one r
    cases ru
    obtain ⟨its, rv, pl, hz⟩ := I.list hq
    have e := vals_bl rv
    subst e
    refine call_all_walk (wpAny_pyIter_list pl.isList ⟨s.heap.objs.size, _, _, _, _, _, fun i => bs.getD i false, rfl, Walks.list (show X.A.in1.handled = none from I.ok.hd hc) _ p ?_ (bs.map Value.bool).toArray, ⟨⟨_, Heap.get?_push_size _ rfl, rfl, rfl⟩, pl.isList.push _⟩, truth_bl, fun h' tk kk => ?_⟩)
    · obtain ⟨o, e, _⟩ := pl.isList
      exact Nat.ne_of_lt (Heap.lt_size e)
    · have : (bs.map Value.bool).toArray.size = bs.length := by simp
      rw [this, all_range]
      exact ⟨.bl _, H, I.kept fun b o e => kk b o (by simp [Nat.ne_of_lt (Heap.lt_size e)]) (Heap.get?_push_of_some _ e), rfl, q⟩
end
end L2

set_option Elab.async false
set_option linter.all false
set_option maxRecDepth 100000
set_option maxHeartbeats 4000000
namespace L2
open PySem PySem.Spec PyProof.Rows
section
variable {X : Cx}

def uApp : V → List V → Hp → VK → Prop := fun x vs H Q => match x, vs with
  | .ref l, [y] => ∃ xs, H l = some (.lst xs) ∧ xs.length < sizeLine ∧ Q .non (upd H l (.lst (xs ++ [y])))
  | _, _ => False
theorem uApp_r {l : Addr} {y : V} {H : Hp} {Q : VK} : uApp (.ref l) [y] H Q = ∃ xs, H l = some (.lst xs) ∧ xs.length < sizeLine ∧ Q .non (upd H l (.lst (xs ++ [y]))) := rfl
theorem mt_uapp : MtR X "list.append" uApp := by
  intro pins s σ H x vs v us Q I rx rv h
  match x, vs, rv, h with
  | .ref l, [y], rv, ⟨xs, h1, h2, h3⟩ => exact mt_append pins s σ H _ _ v us Q I rx rv ⟨l, xs, y, rfl, rfl, h1, h2, h3⟩
end
end L2

set_option Elab.async false
set_option linter.all false
set_option maxRecDepth 100000
set_option maxHeartbeats 4000000
namespace L2
open PySem PySem.Spec PyProof.Rows
section
variable {X : Cx}

end


theorem pg_two {X : Cx} {i j : Nat} {x y : Str} {px py pos : Pos} {k : Nat} (hc : X.calm = true) (hN : X.N.Nodup) (hi : X.N[i]? = some x) (hj : X.N[j]? = some y) (hx : Loc X.env.scope x) (hy : Loc X.env.scope y)
    (hfx : X.fn x = true ∨ X.env.scope.names.lookup x = some .local := by first | exact .inl rfl | exact .inr rfl | assumption) (hfy : X.fn y = true ∨ X.env.scope.names.lookup y = some .local := by first | exact .inl rfl | exact .inr rfl | assumption) :
    PG X (.Tuple [.Name x px, .Name y py] k pos) (gTup X.K 2 (gCons (gName i) (gCons (gName j) gNil))) := pg_tup hc (pgs_cons (pg_name hN hi hx hfx) (pgs_cons (pg_name hN hj hy hfy) pgs_nil))
end L2

set_option Elab.async false
set_option linter.all false
set_option maxRecDepth 100000
set_option maxHeartbeats 4000000
namespace L2
open PySem PySem.Spec PyProof.Rows
section
variable {X : Cx} {K : PySem.W.Frag}
theorem call_ulenK (hK : X.K = K) : CallR X (.builtin "len") (uLen K) := hK ▸ call_ulen
theorem op_uEqK (hK : X.K = K) (hu : X.A.units + 64 < cLine) : OpR X (compareOp .Eq) (uEq K) := hK ▸ op_uEq hu
theorem pe_ixuK {a b : Expr} {ta tb : TE} {pos : Pos} (hK : X.K = K) (hu : X.A.units + 64 < cLine) (ha : PE X a ta) (hb : PE X b tb) (h : noSlice b = true := by rfl) : PE X (.Subscript a b pos) (tOp (uIx K) ta tb) := hK ▸ pe_ixu hu ha hb h
theorem pg_twoK {i j : Nat} {x y : Str} {px py pos : Pos} {k : Nat} (hK : X.K = K) (hc : X.calm = true) (hN : X.N.Nodup) (hi : X.N[i]? = some x) (hj : X.N[j]? = some y) (hx : Loc X.env.scope x) (hy : Loc X.env.scope y)
    (hfx : X.fn x = true ∨ X.env.scope.names.lookup x = some .local := by first | exact .inl rfl | exact .inr rfl | assumption) (hfy : X.fn y = true ∨ X.env.scope.names.lookup y = some .local := by first | exact .inl rfl | exact .inr rfl | assumption) :
    PG X (.Tuple [.Name x px, .Name y py] k pos) (gTup K 2 (gCons (gName i) (gCons (gName j) gNil))) := hK ▸ pg_two hc hN hi hj hx hy hfx hfy
end

inductive Box {α : Sort _} (x : α) : Type
  | mk
def tLcF (ix : List (Option Nat)) (wi : TI) (g : TG) (tt : TT) (te : TE) (_ : Box (ix, wi, g, tt, te)) : TE := tLc ix wi g tt te
theorem tLc_box {ix : List (Option Nat)} {wi : TI} {g : TG} {tt : TT} {te : TE} : tLc ix wi g tt te = tLcF ix wi g tt te .mk := rfl
def tForF (wi : TI) (g : TG) (tb : TS) (_ : Box (wi, g, tb)) : TS := tFor wi g tb
theorem tFor_box {wi : TI} {g : TG} {tb : TS} : tFor wi g tb = tForF wi g tb .mk := rfl
theorem do_tLc {ix : List (Option Nat)} {wi : TI} {g : TG} {tt : TT} {te : TE} {σ : St} {H : Hp} {Q : VK} (h : wi σ H fun J H1 => ∀ D, H1 D = none → LcGoal ix J g tt te σ H1 Q D) : tLc ix wi g tt te σ H Q := h
def LcGoalF (ix : List (Option Nat)) (J : It) (g : TG) (tt : TT) (te : TE) (σ : St) (H : Hp) (Q : VK) (D : Addr) (_ : Box (ix, J, g, tt, te, σ, H, Q, D)) : Prop := LcGoal ix J g tt te σ H Q D
theorem LcGoal_box {ix : List (Option Nat)} {J : It} {g : TG} {tt : TT} {te : TE} {σ : St} {H : Hp} {Q : VK} {D : Addr} : LcGoal ix J g tt te σ H Q D = LcGoalF ix J g tt te σ H Q D .mk := rfl
theorem rep_snoc {α : Type} (x : α) (n : Nat) : List.replicate n x ++ [x] = List.replicate (n + 1) x := by
  rw [List.replicate_succ', ]
theorem rep_bl (n : Nat) : List.replicate n (V.bl true) = (List.replicate n true).map V.bl := by simp
theorem ix_l {K : PySem.W.Frag} {H : Hp} {a : Addr} {xs : List V} {i : Int} {v : V} {P : V → Prop} (h : H a = some (.lst xs)) (e : atI xs i = some v) (k : P v) : ∃ xs v, (SqL K H a xs ∨ SqT K H a xs) ∧ atI xs i = some v ∧ P v := ⟨xs, v, .inl (SqL.of h), e, k⟩
end L2

set_option Elab.async false
set_option linter.all false
set_option maxRecDepth 100000
set_option maxHeartbeats 4000000
namespace L2
open PySem PySem.Spec PyProof.Rows
def xbm : List Value := [.type "ValueError", .type "Exception", .type "BaseException", .type "object"]
section
variable {prog : Program} {w : World} {A : Around} {h : Heap} {g : Array GenState} {d : Drawn} {t : Nat} {os : OsState}
variable {nm q : Str} {C B N : Addr} {bs : List Value} {sn : List Str} {sub : List Value} {ab : Bool} {col : Option Bool} {dd : Option Addr} {k0 k1 k2 k3 k5 : Option Value}
theorem xnew_check {M : Model} {E : Value → Shared → Prop} {rest : List Value} {Q : Unit → Shared → Prop} (hC : h.get? C = some (excClassObj nm q C N bs (.ref B :: xbm) true sn sub ab col dd k0 k1 k2 k3 k5 "ValueError.__new__"))
    (hq : Q () ⟨h, g, d, t, os⟩) : wpAny M A (checkBuiltinCall "ValueError.__new__" ⟨.ref C :: rest, []⟩) Q E ⟨h, g, d, t, os⟩ := by
  have Fn := PySem.F.excBase_ValueError
  have hcont : (Value.ref C :: .ref B :: xbm).contains (.type "ValueError") = true := rfl
  have hstar := Fn.noStar
  simp only [checkBuiltinCall, Fn.newKind, Fn.newSplit, Fn.newRow]
  repeat (first | refine wpAny_loadPart_at hC ?_ | (refine wpAny_isSubtype_exc hC ?_; rw [hcont]) | refine wpAny_staticBase_exc hC ?_ | refine wpAny_madeBy_exc hC ?_ | simp only [bne_self_eq_false, Bool.false_eq_true, if_false] | wp_step)
  exact hq
theorem xnew_code {R : Result → Shared → Prop} {rest : List Value} (hC : h.get? C = some (excClassObj nm q C N bs (.ref B :: xbm) true sn sub ab col dd k0 k1 k2 k3 k5 "ValueError.__new__"))
    (hq : R (.ok (.ret (.ref (h.objs.size + 1)))) ⟨(h.push { cls := .type "tuple", data := .seq rest.toArray }).push
      { cls := .ref C, data := .fields #[.ref h.objs.size, .none, .none, .none, .bool false, .none] }, g, d, t, os⟩) (hrest : rest.length ≤ sizeLine) :
    codeAny (model prog w) A (.builtin "ValueError.__new__" ⟨.ref C :: rest, []⟩) R ⟨h, g, d, t, os⟩ := by
  have Fn := PySem.F.excBase_ValueError
  have hends := Fn.ends
  have hcB : (Value.ref C :: .ref B :: xbm).contains (.type "ValueError") = true := rfl
  have hcA : (Value.ref C :: .ref B :: xbm).contains (.type "AttributeError") = false := rfl
  have hcN : (Value.ref C :: .ref B :: xbm).contains (.type "NameError") = false := rfl
  refine codeAny_builtinAt Fn.entry ?_
  unfold Builtin.«BaseException.__new__»
  refine PySem.wpAt_bind ?_
  show PySem.wpAt _ _ _ (stack >>= _) _ _ _
  refine PySem.wpAt_bind (PySem.wpAt_stack fun p below => PySem.wpAt_of_wpAny ?_)
  wp_walk
  refine PySem.wpAt_of_wpAny ?_
  rw [Fn.owner]
  repeat (first | with_reducible refine wpAny_madeHere_exc Fn.canon hC ?_ | with_reducible refine wpAny_loadPart_at hC ?_ | (with_reducible refine wpAny_isSubtype_exc hC ?_; first | rw [hcB] | rw [hcA] | rw [hcN]) | wp_step)
  show R _ _
  rw [Heap.size_push]
  exact hq
theorem xtype_call {K : PySem.W.Frag} {E : Value → Shared → Prop} {rest : List Value} {fI : Addr} {Q : PySem.Fin → Shared → Prop} (X : K.In h)
    (hC : h.get? C = some (excClassObj nm q C N bs (.ref B :: xbm) true sn sub ab col dd k0 k1 k2 k3 k5 "ValueError.__new__"))
    (hi : PySem.W.findIn K (.ref C) "__init__" = some (some (.ref fI))) (hf : PySem.W.typeIn K (.ref fI) = some (.type "function"))
    (hq : wpAny (model prog w) A (call (.ref fI) (.ref (h.objs.size + 1) :: rest)) (fun r s' => r = .none ∧ Q (.done (.ret (.ref (h.objs.size + 1)))) s') E
      ⟨(h.push { cls := .type "tuple", data := .seq rest.toArray }).push { cls := .ref C, data := .fields #[.ref h.objs.size, .none, .none, .none, .bool false, .none] }, g, d, t, os⟩) (hrest : rest.length ≤ sizeLine) :
    wpAny (model prog w) A (Builtin.«type.__call__» ⟨.ref C :: rest, []⟩) Q E ⟨h, g, d, t, os⟩ := by
  have Fn := PySem.F.excBase_ValueError
  repeat (first | with_reducible refine wpAny_loadPart_at hC ?_ | with_reducible refine wpAny_madeBy_exc hC ?_ | wp_step)
  refine codeAny_call_builtin_code (Code.quiet_builtin _ Fn.quiet) (xnew_check hC ?_)
  refine xnew_code hC ?_ hrest
  show wpAny _ _ _ _ _ _
  have kp : ∀ b o, h.get? b = some o → ((h.push { cls := .type "tuple", data := .seq rest.toArray }).push { cls := .ref C, data := .fields #[.ref h.objs.size, .none, .none, .none, .bool false, .none] }).get? b = some o :=
    fun b o e => Heap.get?_push_of_some _ (Heap.get?_push_of_some _ e)
  have hC₁ := kp _ _ hC
  have X₁ := X.keeps kp
  have hget : ((h.push { cls := .type "tuple", data := .seq rest.toArray }).push
      { cls := .ref C, data := .fields #[.ref h.objs.size, .none, .none, .none, .bool false, .none] }).get? (h.objs.size + 1) = some
      { cls := .ref C, data := .fields #[.ref h.objs.size, .none, .none, .none, .bool false, .none] } := by heap_get
  have hcC : (Value.ref C :: .ref B :: xbm).contains (.ref C) = true := by simp
  unfold isInstance
  repeat (first | with_reducible refine wpAny_loadPart_at hget ?_ | (with_reducible refine wpAny_isSubtype_exc hC₁ ?_; rw [hcC]) | wp_step)
  show wpAny _ _ (typeLookup (.ref C) _) _ _ _
  refine (PySem.W.looks_findIn X₁ hi).here ?_
  refine wpAny_holding (wpAny_bind ?_)
  refine (PySem.W.bind_fn X₁ _ hf).here ?_
  refine wpAny_bind (wpAny_mono hq (fun r s' hr => ?_) fun _ _ x => x)
  obtain ⟨rfl, hQ⟩ := hr
  wp_walk
  exact hQ

theorem xcall_init {K : PySem.W.Frag} {E : Value → Shared → Prop} {rest : List Value} {fI : Addr} {Q : Value → Shared → Prop} (X : K.In h)
    (hC : h.get? C = some (excClassObj nm q C N bs (.ref B :: xbm) true sn sub ab col dd k0 k1 k2 k3 k5 "ValueError.__new__"))
    (hi : PySem.W.findIn K (.ref C) "__init__" = some (some (.ref fI))) (hf : PySem.W.typeIn K (.ref fI) = some (.type "function"))
    (hq : wpAny (model prog w) (A.under (.builtin "type.__call__" ⟨.ref C :: rest, []⟩)) (call (.ref fI) (.ref (h.objs.size + 1) :: rest)) (fun r s' => r = .none ∧ Q (.ref (h.objs.size + 1)) s') E
      ⟨(h.push { cls := .type "tuple", data := .seq rest.toArray }).push { cls := .ref C, data := .fields #[.ref h.objs.size, .none, .none, .none, .bool false, .none] }, g, d, t, os⟩) (hrest : rest.length ≤ sizeLine) :
    wpAny (model prog w) A (call (.ref C) rest) Q E ⟨h, g, d, t, os⟩ := by
  have f1 := tc_lookup
  have f2 := tc_bind (.ref C)
  have hT : (⟨h, g, d, t, os⟩ : Shared).TypeIs (.ref C) "type" := ⟨_, hC, rfl⟩
  refine wpAny_call (codeAny_of_tree ?_)
  show wpAny _ _ (callAny (.ref C) _) _ _ _
  repeat (any_goals (first | assumption | with_reducible refine wpAny_loadPart_at hC ?_ | wp_step))
  refine ⟨rfl, ?_⟩
  refine codeAny_call_builtin_at (Code.quiet_builtin _ (by decide +kernel)) entry_typeCall (wpAny_check_type_call_sub hC (xtype_call X hC hi hf ?_ hrest))
  exact hq
end
end L2

set_option Elab.async false
set_option linter.all false
set_option maxRecDepth 100000
set_option maxHeartbeats 4000000
namespace L2
open PySem PySem.Spec PyProof.Rows

structure XCls (K : PySem.W.Frag) (C B : Addr) : Prop where
  ob : ∃ nm q N bs sn sub ab col dd k0 k1 k2 k3 k5, K.lookup C = some (excClassObj nm q C N bs (.ref B :: xbm) true sn sub ab col dd k0 k1 k2 k3 k5 "ValueError.__new__")
  ga : PySem.W.findIn K (.ref C) "__getattribute__" = some (some (.builtin "BaseException.__getattribute__"))
  gt : PySem.W.findIn K (.ref C) "__getattr__" = some none
  sa : PySem.W.findIn K (.ref C) "__setattr__" = some (some (.builtin "object.__setattr__"))
  cl : PySem.W.findIn K (.ref C) "__class__" = some (some (.builtin "object.__class__"))
  cg : PySem.W.specialIn K (.builtin "object.__class__") "__get__" = some (some (.builtin "getset_descriptor.__get__"))
  ct : PySem.W.takesIn K (.builtin "object.__class__") = some true
  kp : PySem.W.keepIn K (.ref C) = true
theorem XCls.cd {K : PySem.W.Frag} {C B : Addr} (c : XCls K C B) : ∃ cd : ClassData, PySem.W.clsIn K C = some cd ∧ cd.mro = .ref C :: .ref B :: xbm ∧ cd.hasDict = true := by
  obtain ⟨nm, q, N, bs, sn, sub, ab, col, dd, k0, k1, k2, k3, k5, e⟩ := c.ob
  exact ⟨_, by unfold PySem.W.clsIn; rw [e], rfl, rfl⟩
theorem XCls.mro {K : PySem.W.Frag} {C B : Addr} (c : XCls K C B) (v : Value) : PySem.W.mroIn K C v = some ((.ref C :: .ref B :: xbm).contains v) := by
  obtain ⟨cd, e, e2, _⟩ := c.cd
  unfold PySem.W.mroIn
  rw [e, Option.bind_some, e2]
  rfl
section
variable {prog : Program} {w : World} {A : Around} {E : Value → Shared → Prop} {s : Shared} {K : PySem.W.Frag} {x C B : Addr} {ox : Obj} {od : Option Obj} {name : Str}
open PySem.W in

theorem xget_code {v : Value} {tk : Tok} {R : Result → Shared → Prop} (X : K.In s.heap) (I : InstAt s.heap x ox C od) (c : XCls K C B) (hf : findObj K C od name = some (.value v)) (h : R (.ok (.ret v)) s) :
    codeAny (model prog w) A (.call (.builtin "BaseException.__getattribute__") ⟨[.ref x, .str name tk], []⟩) R s := by
  have FB := PySem.F.attrBase_ValueError
  have hk : builtinKind "BaseException.__getattribute__" = some .slot := by decide +kernel
  have hsplit : splitId "BaseException.__getattribute__" = some ("BaseException", "__getattribute__") := by decide +kernel
  have L0 := I.type (M := model prog w)
  have hm : mroIn K C (.type "BaseException") = some true := (c.mro _).trans rfl
  have L2 : Looks (model prog w) s.heap (isInstance (.ref x) (.type "BaseException")) true := L0.andThen (looks_mroIn X hm)
  refine codeAny_call_builtin FB.ga.plain PySem.F.entry_bexc_ga (@check_slot (model prog w) _ _ s "BaseException.__getattribute__" "BaseException" "__getattribute__" (.ref x) [.str name tk] [] _ hk hsplit L2 (PySem.F.args_bexc_ga _ _) ?_)
  obtain ⟨hh', g, d, t, os⟩ := s
  have L1 := looks_find (M := model prog w) X I hf
  refine wpAny_bind (wpAny_pure (wpAny_bind (wpAny_pure (wpAny_bind (L0.here (wpAny_bind (L1.here ?_)))))))
  exact wpAny_pure h
open PySem.W in
theorem xget_codeB {g a : Value} {tk : Tok} {R : Result → Shared → Prop} (X : K.In s.heap) (I : InstAt s.heap x ox C od) (c : XCls K C B) (hf : findObj K C od name = some (.bind g a))
    (h : ∀ A, wpAny (model prog w) A (call g [a, .ref x, .ref C]) (fun v s' => R (.ok (.ret v)) s') (fun e s' => R (.error e) s') s) :
    codeAny (model prog w) A (.call (.builtin "BaseException.__getattribute__") ⟨[.ref x, .str name tk], []⟩) R s := by
  have FB := PySem.F.attrBase_ValueError
  have hk : builtinKind "BaseException.__getattribute__" = some .slot := by decide +kernel
  have hsplit : splitId "BaseException.__getattribute__" = some ("BaseException", "__getattribute__") := by decide +kernel
  have L0 := I.type (M := model prog w)
  have hm : mroIn K C (.type "BaseException") = some true := (c.mro _).trans rfl
  have L2 : Looks (model prog w) s.heap (isInstance (.ref x) (.type "BaseException")) true := L0.andThen (looks_mroIn X hm)
  refine codeAny_call_builtin FB.ga.plain PySem.F.entry_bexc_ga (@check_slot (model prog w) _ _ s "BaseException.__getattribute__" "BaseException" "__getattribute__" (.ref x) [.str name tk] [] _ hk hsplit L2 (PySem.F.args_bexc_ga _ _) ?_)
  obtain ⟨hh', gg, d, t, os⟩ := s
  have L1 := looks_find (M := model prog w) X I hf
  refine wpAny_bind (wpAny_pure (wpAny_bind (wpAny_pure (wpAny_bind (L0.here (wpAny_bind (L1.here ?_)))))))
  show wpAny _ _ (Builtin.ObjectAttr.bindTo g a (.ref x) (.ref C)) _ _ _
  exact wpAny_bind (wpAny_holding (wpAny_mono (h _) (fun v s' z => wpAny_pure z) fun _ _ z => z))
end
end L2

set_option Elab.async false
set_option linter.all false
set_option maxRecDepth 100000
set_option maxHeartbeats 4000000
namespace L2
open PySem PySem.Spec PyProof.Rows
section
variable {prog : Program} {w : World} {A : Around} {E : Value → Shared → Prop} {s : Shared} {K : PySem.W.Frag} {x C B : Addr} {ox : Obj} {od : Option Obj} {name : Str}
open PySem.W in
theorem xget {v : Value} {expr : Bool} {Q : Value → Shared → Prop} (X : K.In s.heap) (I : InstAt s.heap x ox C od) (c : XCls K C B) (hf : findObj K C od name = some (.value v)) (hv : handedIn v = true) (h : Q v { s with toks := s.toks + 1 }) :
    wpAny (model prog w) A (getAttr (.ref x) name expr) Q E s := by
  obtain ⟨hh, g, d, t, os⟩ := s
  have FB := PySem.F.attrBase_ValueError
  have L0 := I.type (M := model prog w)
  have L1 := looks_findIn (M := model prog w) X c.ga
  have L2 := looks_findIn (M := model prog w) X c.gt
  have hx0 : (expr && onTheHeap (Value.builtin "BaseException.__getattribute__")) = false := by cases expr <;> rfl
  unfold getAttr getAttrBy
  refine wpAny_bind (wpAny_mkText (wpAny_holding (wpAny_bind (L0.at (wpAny_bind (L1.at ?_))))))
  show wpAny _ _ (getAttrByItsOwn _ _ _ _ _ _) _ _ _
  unfold getAttrByItsOwn callGetattribute boundAndCalled
  refine wpAny_bind (L2.at (wpAny_bind (wpAny_attempt (wpAny_holding ?_))))
  rw [hx0]
  simp only [Bool.false_eq_true, if_false]
  rw [FB.ga.bind]
  refine wpAny_bind (wpAny_pure (wpAny_call ?_))
  refine xget_code (s := ⟨hh, g, d, t + 1, os⟩) X I c hf ?_
  show wpAny _ _ (handedOut v) _ _ _
  rw [handedOut_of hv]
  exact wpAny_pure h
open PySem.W in
theorem xclass {Q : Option Value → Shared → Prop} (X : K.In s.heap) (I : InstAt s.heap x ox C od) (c : XCls K C B) (h : Q (some (.ref C)) { s with toks := s.toks + 1 }) :
    wpAny (model prog w) A (getAttr? (.ref x) "__class__") Q E s := by
  obtain ⟨hh, g, d, t, os⟩ := s
  have FB := PySem.F.attrBase_ValueError
  have L0 := I.type (M := model prog w)
  have L1 := looks_findIn (M := model prog w) X c.ga
  have L2 := looks_findIn (M := model prog w) X c.gt
  have hm : mroIn K C (.type "object") = some true := (c.mro _).trans rfl
  have hf : findObj K C od "__class__" = some (.bind (.builtin "getset_descriptor.__get__") (.builtin "object.__class__")) := by
    obtain ⟨cd, e, _⟩ := c.cd
    unfold findObj
    rw [e, Option.bind_some, c.cl, Option.bind_some]
    simp [c.cg, c.ct]
  unfold getAttr? getAttrBy? getAttrBy
  refine wpAny_bind (wpAny_mkText (wpAny_bind (wpAny_attempt (wpAny_holding (wpAny_bind (L0.at (wpAny_bind (L1.at ?_))))))))
  show wpAny _ _ (getAttrByItsOwn _ _ _ _ _ _) _ _ _
  unfold getAttrByItsOwn callGetattribute boundAndCalled
  refine wpAny_bind (L2.at (wpAny_bind (wpAny_attempt (wpAny_holding ?_))))
  simp only [Bool.false_and, Bool.false_eq_true, if_false]
  rw [FB.ga.bind]
  refine wpAny_bind (wpAny_pure (wpAny_call ?_))
  refine xget_codeB (s := ⟨hh, g, d, t + 1, os⟩) X I c hf fun A' => ?_
  refine wpAny_call (class_get (s := ⟨hh, g, d, t + 1, os⟩) (ox := ox) (od := od) X I hm ?_)
  show wpAny _ _ (handedOut (.ref C)) _ _ _
  exact wpAny_pure (wpAny_pure h)
open PySem.W in
theorem kitx_exc (c : XCls K C B) : KitX K (.ref x) (.ref C) (fun h => ∃ ox od, InstAt h x ox C od) where
  ty := fun _ _ _ I => let ⟨_, _, I⟩ := I; I.type
  it := fun _ _ X _ => by
    obtain ⟨nm, q, N, bs, sn, sub, ab, col, dd, k0, k1, k2, k3, k5, ho⟩ := c.ob
    intro A' Q' E' s' k q
    unfold isType loadHead
    exact wpAny_bind (wpAny_loadPart (k _ _ (X _ _ ho)) (wpAny_pure q))
  ne := fun h tp dd its n sl X htp => by
    obtain ⟨nm, q, N, bs, sn, sub, ab, col, dd, k0, k1, k2, k3, k5, ho⟩ := c.ob
    refine Bool.eq_false_iff.mpr fun q => ?_
    have e : C = tp := Value.ref.inj (beq_iff_eq.mp q)
    subst e
    have z := (X _ _ ho).symm.trans htp
    have z2 := congrArg (Option.map Obj.cls) z
    simp at z2
  ca := fun X I k => let ⟨_, _, I⟩ := I; xclass X I c k
end
end L2

set_option Elab.async false
set_option linter.all false
set_option maxRecDepth 100000
set_option maxHeartbeats 4000000
namespace L2
open PySem PySem.Spec PyProof.Rows

def XOb (C : Addr) (d : Option Addr) (a : Addr) (h : Heap) : Prop := ∃ fs sl, h.get? a = some (⟨.ref C, d, .fields fs, sl⟩ : Obj)
abbrev XO (a C : Addr) (d : Option Addr) : HO := .ext (XOb C d a)

def XDb (fs : List (Str × V)) (a : Addr) (h : Heap) : Prop := ∃ mA, h.Ns1 a mA ∧ (∀ f, RelO (fs.lookup f) (mA f)) ∧ PySem.Within mA (fs.map (·.1))
abbrev XD (a : Addr) (fs : List (Str × V)) : HO := .ext (XDb fs a)
section
variable {P : Program} {w : World} {H : Hp} {h : Heap} {a C : Addr} {d : Option Addr}
theorem xo_mk {fs : Array Value} {sl : Array (Option Value)} (e : h.get? a = some (⟨.ref C, d, .fields fs, sl⟩ : Obj)) : ObjOk P w H h a (XO a C d) :=
  ⟨⟨fs, sl, e⟩, ⟨_, e⟩, fun _ _ ⟨fs, sl, e⟩ k => ⟨fs, sl, k _ e⟩⟩
theorem xo_get (x : ObjOk P w H h a (XO a C d)) : XOb C d a h := x.1
theorem xd_mk {fs : List (Str × V)} (x : XDb fs a h) : ObjOk P w H h a (XD a fs) :=
  ⟨x, let ⟨_, ⟨o, _, _, e, _⟩, _⟩ := x; ⟨o, e⟩, fun _ _ ⟨m, n, r⟩ k => ⟨m, n.at k, r⟩⟩
theorem xd_get {fs : List (Str × V)} (x : ObjOk P w H h a (XD a fs)) : XDb fs a h := x.1
end
section
variable {prog : Program} {w : World} {A : Around} {E : Value → Shared → Prop} {s : Shared} {K : PySem.W.Frag} {x C B : Addr} {name : Str} {v : Value}
theorem refuse_x (self : Value) : refuseLoop self "__setattr__" (.ref C :: .ref B :: xbm) = pure () := by
  rw [refuseLoop_ref, refuseLoop_ref]; exact PySem.F.store_ValueError.passes self
open PySem.W in
theorem xosa {ox : Obj} {od : Option Obj} {tk : Tok} {R : Result → Shared → Prop} (X : K.In s.heap) (I : InstAt s.heap x ox C od) (c : XCls K C B) (n : NoAttr K C name)
    (h : ∀ b A', wpAny (model prog w) A' (Builtin.ObjectAttr.storeInOwnDict (.ref x) (.ref C) (.str name tk) name v b)
      (fun fin s' => match fin with | .done f => R (.ok f) s' | .again c' => c'.quiet = true ∧ codeAny (model prog w) A c' R s') (fun e s' => R (.error e) s') s) :
    codeAny (model prog w) A (.call (.builtin "object.__setattr__") ⟨[.ref x, .str name tk, v], []⟩) R s := by
  have SF := PySem.F.store_object
  obtain ⟨cd, hc, hmro, hdict⟩ := c.cd
  have hm0 : mroIn K C (.type "object") = some true := (c.mro _).trans rfl
  have sub : Looks (model prog w) s.heap (isInstance (.ref x) (.type "object")) true := I.type.andThen (looks_mroIn X hm0)
  refine codeAny_call_builtin SF.slot.plain SF.entry (@check_slot (model prog w) _ _ s "object.__setattr__" "object" "__setattr__" (.ref x) [.str name tk, v] [] _ SF.kind SF.split sub (SF.args (.ref x) (.str name tk) v) ?_)
  have hm : Looks (model prog w) s.heap (mroOf (.ref C)) cd.mro := (looks_clsIn X hc).andThen .now
  rw [osa_eq, refuse_eq]
  refine wpAny_bind (wpAny_bind (I.type.here (wpAny_bind (hm.here ?_))))
  rw [hmro, refuse_x]
  refine wpAny_pure (wpAny_bind (I.type.here (wpAny_bind ((looks_findIn X n).here (wpAny_bind (wpAny_pure ?_))))))
  exact h _ _
end
end L2

set_option Elab.async false
set_option linter.all false
set_option maxRecDepth 100000
set_option maxHeartbeats 4000000
namespace L2
open PySem PySem.Spec PyProof.Rows
section
variable {X : Cx} {pins : List (Addr × Obj)} {σ : St} {H : Hp} {s : Shared} {a C B dx : Addr} {fs : List (Str × V)} {f : Str} {v : V} {A : Around} {E : Value → Shared → Prop}
theorem xinst (I : Inv X pins σ H s) {d : Option Addr} (e : H a = some (XO a C d)) : ∃ vs sl, s.heap.get? a = some (⟨.ref C, d, .fields vs, sl⟩ : Obj) := xo_get (I.hok a _ e)

theorem xisinst_ok {c : Value} {b : Bool} {d : Option Addr} {Q : Value → Shared → Prop} (I : Inv X pins σ H s) (e : H a = some (XO a C d)) (ed : ∀ dx, d = some dx → ∃ fs, H dx = some (XD dx fs)) (cl : XCls X.K C B)
    (k : PySem.W.kitOne X.K (.ref C) c = some b) (h : ∀ tk, Q (.bool b) { s with toks := tk }) : wpAny (model X.prog X.w) A (call (.builtin "isinstance") [.ref a, c]) Q E s := by
  refine PySem.W.kia_one (kitx_exc cl) I.kIn ?_ k (fun z => nomatch z) h
  obtain ⟨vs, sl, q⟩ := xinst I e
  cases d with
  | none => exact ⟨_, none, q, rfl, rfl, True.intro⟩
  | some dx =>
    obtain ⟨fs, z⟩ := ed dx rfl
    obtain ⟨_, ⟨o, _, _, e2, _⟩, _⟩ := xd_get (I.hok dx _ z)
    exact ⟨_, some o, q, rfl, rfl, e2⟩

theorem xgetattr_ok {b : Bool} {Q : Value → Shared → Prop} (I : Inv X pins σ H s) (e : H a = some (XO a C (some dx))) (ed : H dx = some (XD dx fs)) (c : XCls X.K C B) (n : NoAttr X.K C f) (l : fs.lookup f = some v)
    (h : ∀ u s', Inv X pins σ H s' → RelV v u → Q u s') : wpAny (model X.prog X.w) A (getAttr (.ref a) f b) Q E s := by
  obtain ⟨vs, sl, q⟩ := xinst I e
  obtain ⟨mA, ns, r, _⟩ := xd_get (I.hok dx _ ed)
  obtain ⟨od, ho, hl⟩ := lookIn_ns ns
  obtain ⟨u, hu, ru⟩ := RelO.some_of (v := v) (o := mA f) (by rw [← l]; exact r f)
  refine xget (od := some od) I.kIn ⟨q, rfl, rfl, ho⟩ c ?_ (handed_of ru) (h u _ (I.tok _) ru)
  obtain ⟨cd, hc, _, hd⟩ := c.cd
  exact PySem.W.findObj_own (attr := none) (by unfold PySem.W.hasDictIn; rw [hc]; exact hd) n rfl (by rw [hl, hu])

theorem xsetattr0_ok {y : V} {u : Value} {Q : Unit → Shared → Prop} (I : Inv X pins σ H s) (e : H a = some (XO a C none)) (c : XCls X.K C B) (n : NoAttr X.K C f) (ry : RelV y u)
    (h : ∀ dx s', H dx = none → Inv X pins σ (upd (upd H a (XO a C (some dx))) dx (XD dx [(f, y)])) s' → Q () s') : wpAny (model X.prog X.w) A (setAttr (.ref a) f u) Q E s := by
  obtain ⟨vs, sl, q⟩ := xinst I e
  have J : PySem.W.InstAt s.heap a ⟨.ref C, none, .fields vs, sl⟩ C none := ⟨q, rfl, rfl, True.intro⟩
  obtain ⟨cd, hc, _, hd⟩ := c.cd
  refine PySem.W.set_plain I.kIn J c.sa (xosa (s := { s with toks := s.toks + 1 }) I.kIn J c n fun b A' => ?_)
  obtain ⟨hh, g, d, t, os⟩ := s
  have q : hh.get? a = some (⟨.ref C, none, .fields vs, sl⟩ : Obj) := q
  have fr : H hh.objs.size = none := I.hok.fresh (Nat.le_refl _)
  have as : a ≠ hh.objs.size := Nat.ne_of_lt (Heap.lt_size q)
  have LC := PySem.W.looks_clsIn (M := model X.prog X.w) (h := hh) I.kIn hc
  unfold Builtin.ObjectAttr.storeInOwnDict Builtin.ObjectAttr.ownDictForStores
  refine wpAny_bind (wpAny_pure ?_)
  rw [if_neg (by intro z; cases z)]
  refine wpAny_bind ?_
  show wpAny _ _ (instanceDict a true) _ _ _
  unfold instanceDict
  refine wpAny_bind (wpAny_loadPart' q ?_)
  refine wpAny_bind (LC.here ?_)
  simp only [hd, Bool.not_true, Bool.false_eq_true, if_false]
  have q1 : (hh.push { cls := .type "dict", data := .dict #[] }).get? a = some (⟨.ref C, none, .fields vs, sl⟩ : Obj) := Heap.get?_push_of_some _ q
  rw [if_neg (by simp [typeHasDict])]
  refine wpAny_bind (wpAny_alloc' ?_)
  refine wpAny_bind (wpAny_update' q1 ?_)
  refine wpAny_pure ?_
  have hgd : ((hh.push { cls := .type "dict", data := .dict #[] }).update a fun o => { cls := o.cls, dict := some hh.objs.size, data := o.data, slots := o.slots }).get? hh.objs.size = some { cls := .type "dict", data := .dict #[] } :=
    (Heap.get?_update_ne _ _ _ _ as.symm).trans (Heap.get?_push_at rfl rfl)
  have hnd : ((hh.push { cls := .type "dict", data := .dict #[] }).update a fun o => { cls := o.cls, dict := some hh.objs.size, data := o.data, slots := o.slots }).Ns hh.objs.size (fun _ => none) :=
    ⟨_, #[], _, hgd, rfl, fun e he => absurd he (by simp), fun _ => rfl⟩
  have ha2 : ((hh.push { cls := .type "dict", data := .dict #[] }).update a fun o => { cls := o.cls, dict := some hh.objs.size, data := o.data, slots := o.slots }).get? a = some (⟨.ref C, some hh.objs.size, .fields vs, sl⟩ : Obj) :=
    Heap.get?_update_self _ q1 rfl
  show wpAny _ _ (Builtin.ObjectAttr.storeInDict hh.objs.size (.str f _) f u) _ _ _
  unfold Builtin.ObjectAttr.storeInDict Builtin.ObjectAttr.newKeyGuard
  refine wpAny_bind (wpAny_pure (wpAny_bind (wpAny_nsSet1 (Heap.Ns1.of_empty hnd) fun h' hn' hs => ?_)))
  obtain ⟨oD, esD, epD, hoD, hdD, hcD⟩ := hn'.count (Within.cons f u Within.nil)
  refine wpAny_bind (wpAny_lookBehind hoD (by rw [hdD]; exact pastItsLine_dict (Nat.le_trans hcD (by rw [List.length_cons, List.length_nil, sizeLine_eq]; omega))) ?_)
  refine wpAny_pure ?_
  show Q () _
  have hx' : h'.get? a = some (⟨.ref C, some hh.objs.size, .fields vs, sl⟩ : Obj) := (hs.2 a as).trans ha2
  have xd : XDb [(f, y)] hh.objs.size h' := by
    refine ⟨_, hn', fun g' => ?_, fun g' hg' => ?_⟩
    · show RelO (List.lookup g' [(f, y)]) (if g' = f then some u else none)
      by_cases z : g' = f
      · rw [if_pos z, z]; simp only [List.lookup, beq_self_eq_true]; exact ry
      · rw [if_neg z]; simp only [List.lookup, beq_eq_false_iff_ne.mpr z]; exact True.intro
    · by_cases z : g' = f
      · rw [z]; simp
      · exact absurd (if_neg z) hg'
  refine h hh.objs.size _ fr ?_
  have q2 : (hh.update a fun o => { cls := o.cls, dict := some hh.objs.size, data := o.data, slots := o.slots }).get? a = some (⟨.ref C, some hh.objs.size, .fields vs, sl⟩ : Obj) := Heap.get?_update_self _ q rfl
  have I1 : Inv X pins σ (upd H a (XO a C (some hh.objs.size))) { heap := hh.update a fun o => { cls := o.cls, dict := some hh.objs.size, data := o.data, slots := o.slots }, gens := g, drawn := d, toks := t, os := os } :=
    I.write (x := a) (e := a) (by rw [e]; exact True.intro) (.inl rfl) (fun b ob hb z => (Heap.get?_update_ne _ _ _ _ hb).trans z) ⟨_, q2⟩ (xo_mk q2)
  refine I1.laid (a := hh.objs.size) (fun b ob z => ?_) (by show (hh.update a _).objs.size ≤ _; rw [Heap.size_update]; exact Nat.le_refl _) (xd_mk xd)
  by_cases zb : b = a
  · subst zb; rw [q2] at z; cases z; exact hx'
  · have z1 : hh.get? b = some ob := (Heap.get?_update_ne _ _ _ _ zb).symm.trans z
    exact (hs.2 b (Nat.ne_of_lt (Heap.lt_size z1))).trans ((Heap.get?_update_ne _ _ _ _ zb).trans (Heap.get?_push_of_some _ z1))

theorem xsetattr1_ok {y : V} {u : Value} {Q : Unit → Shared → Prop} (I : Inv X pins σ H s) (e : H a = some (XO a C (some dx))) (ed : H dx = some (XD dx fs)) (c : XCls X.K C B) (n : NoAttr X.K C f) (hl : fs.length < 1000) (ry : RelV y u)
    (h : ∀ s', Inv X pins σ (upd H dx (XD dx (putF f y fs))) s' → Q () s') : wpAny (model X.prog X.w) A (setAttr (.ref a) f u) Q E s := by
  obtain ⟨vs, sl, q⟩ := xinst I e
  obtain ⟨mA, ns, r, wi⟩ := xd_get (I.hok dx _ ed)
  obtain ⟨od, ho, hlk⟩ := lookIn_ns ns
  have J : PySem.W.InstAt s.heap a ⟨.ref C, some dx, .fields vs, sl⟩ C (some od) := ⟨q, rfl, rfl, ho⟩
  obtain ⟨cd, hc, _, hd⟩ := c.cd
  have hz : (fs.map (·.1)).length ≤ sizeLine := by rw [List.length_map, sizeLine_eq]; omega
  refine PySem.W.set_plain I.kIn J c.sa (xosa (s := { s with toks := s.toks + 1 }) I.kIn J c n fun b A' => ?_)
  obtain ⟨hh, g, d, t, os⟩ := s
  have q : hh.get? a = some (⟨.ref C, some dx, .fields vs, sl⟩ : Obj) := q
  have LC := PySem.W.looks_clsIn (M := model X.prog X.w) (h := hh) I.kIn hc
  unfold Builtin.ObjectAttr.storeInOwnDict Builtin.ObjectAttr.ownDictForStores
  refine wpAny_bind (wpAny_pure ?_)
  rw [if_neg (by intro z; cases z)]
  refine wpAny_bind ?_
  show wpAny _ _ (instanceDict a true) _ _ _
  unfold instanceDict
  refine wpAny_bind (wpAny_loadPart' q ?_)
  refine wpAny_bind (LC.here ?_)
  simp only [hd, Bool.not_true, Bool.false_eq_true, if_false]
  refine wpAny_pure ?_
  show wpAny _ _ (Builtin.ObjectAttr.storeInDict dx (.str f _) f u) _ _ _
  unfold Builtin.ObjectAttr.storeInDict Builtin.ObjectAttr.newKeyGuard
  refine wpAny_bind (wpAny_pure (wpAny_bind (wpAny_nsSet1 (s := ⟨hh, g, d, t + 1, os⟩) ns fun h' hn' hs => ?_)))
  obtain ⟨oD, esD, epD, hoD, hdD, hcD⟩ := hn'.count (PySem.Within.cons f u wi)
  refine wpAny_bind (wpAny_lookBehind hoD (by rw [hdD]; exact pastItsLine_dict (Nat.le_trans hcD (by rw [List.length_cons]; omega))) ?_)
  refine wpAny_pure ?_
  show Q () _
  refine h _ (I.write (x := dx) (e := dx) (by rw [ed]; exact True.intro) (.inl rfl) (fun b ob hb z => (hs.2 b hb).trans z) (let ⟨o, _, _, e', _⟩ := hn'; ⟨o, e'⟩) (xd_mk ⟨_, hn', fun g' => ?_, fun g' hg => ?_⟩))
  · show RelO ((putF f y fs).lookup g') (if g' = f then some u else mA g')
    rw [lookup_putF]
    by_cases z : g' = f
    · rw [if_pos z, if_pos z]; exact ry
    · rw [if_neg z, if_neg z]; exact r g'
  · by_cases z : g' = f
    · rw [z]; exact (keys_putF f y fs).1
    · refine (keys_putF f y fs).2 g' (wi g' fun zz => hg ?_)
      show (if g' = f then some u else mA g') = none
      rw [if_neg z]; exact zz
end
end L2

set_option Elab.async false
set_option linter.all false
set_option maxRecDepth 100000
set_option maxHeartbeats 4000000
namespace L2
open PySem PySem.Spec PyProof.Rows
section
variable {prog : Program} {w : World} {A : Around} {h : Heap} {g : Array GenState} {d : Drawn} {t : Nat} {os : OsState}
variable {nm q : Str} {C B N : Addr} {bs : List Value} {sn : List Str} {sub : List Value} {ab : Bool} {col : Option Bool} {dd : Option Addr} {k0 k1 k2 k3 k5 : Option Value}
theorem xinit_check {M : Model} {E : Value → Shared → Prop} {e : Addr} {oe : Obj} {rest : List Value} {Q : Unit → Shared → Prop}
    (hC : h.get? C = some (excClassObj nm q C N bs (.ref B :: xbm) true sn sub ab col dd k0 k1 k2 k3 k5 "ValueError.__new__")) (he : h.get? e = some oe) (hcls : oe.cls = .ref C) (hq : Q () ⟨h, g, d, t, os⟩) :
    wpAny M A (checkBuiltinCall "ValueError.__init__" ⟨.ref e :: rest, []⟩) Q E ⟨h, g, d, t, os⟩ := by
  have Fn := PySem.F.excBase_ValueError
  have hcB : (Value.ref C :: .ref B :: xbm).contains (.type "ValueError") = true := rfl
  have hshort := Fn.noStar
  simp only [checkBuiltinCall, Fn.initKind, Fn.initSplit, Fn.initRow]
  repeat (first | (with_reducible refine wpAny_loadPart_at he ?_; rw [hcls]) | with_reducible refine wpAny_loadPart_at hC ?_ | (with_reducible refine wpAny_isSubtype_exc hC ?_; rw [hcB]) | wp_step)
  refine wpAny_onRaise ?_
  rw [show ∀ (a b : String) (n : Nat), Bind.check ⟨.positional, "*", "ValueError", .self, [⟨"args", .varPos, false⟩]⟩ a b n (List.map (fun x => x.fst) ({ pos := Value.ref e :: rest } : Args).kw) = pure () from
    fun a b n => check_star_args _ _ _ _ _ _]
  exact wpAny_pure hq
theorem xtype_call0 {K : PySem.W.Frag} {E : Value → Shared → Prop} {rest : List Value} {Q : PySem.Fin → Shared → Prop} (X : K.In h)
    (hC : h.get? C = some (excClassObj nm q C N bs (.ref B :: xbm) true sn sub ab col dd k0 k1 k2 k3 k5 "ValueError.__new__"))
    (hi : PySem.W.findIn K (.ref C) "__init__" = some (some (.builtin "ValueError.__init__")))
    (hq : ∀ h' fs, (∀ b o, h.get? b = some o → h'.get? b = some o) → h'.get? (h.objs.size + 1) = some (⟨.ref C, none, .fields fs, #[]⟩ : Obj) → Q (.done (.ret (.ref (h.objs.size + 1)))) ⟨h', g, d, t, os⟩) (hrest : rest.length ≤ sizeLine) :
    wpAny (model prog w) A (Builtin.«type.__call__» ⟨.ref C :: rest, []⟩) Q E ⟨h, g, d, t, os⟩ := by
  have Fn := PySem.F.excBase_ValueError
  repeat (first | with_reducible refine wpAny_loadPart_at hC ?_ | with_reducible refine wpAny_madeBy_exc hC ?_ | wp_step)
  refine codeAny_call_builtin_code (Code.quiet_builtin _ Fn.quiet) (xnew_check hC ?_)
  refine xnew_code hC ?_ hrest
  show wpAny _ _ _ _ _ _
  have kp : ∀ b o, h.get? b = some o → ((h.push { cls := .type "tuple", data := .seq rest.toArray }).push { cls := .ref C, data := .fields #[.ref h.objs.size, .none, .none, .none, .bool false, .none] }).get? b = some o :=
    fun b o e => Heap.get?_push_of_some _ (Heap.get?_push_of_some _ e)
  have hC₁ := kp _ _ hC
  have X₁ := X.keeps kp
  have hget : ((h.push { cls := .type "tuple", data := .seq rest.toArray }).push
      { cls := .ref C, data := .fields #[.ref h.objs.size, .none, .none, .none, .bool false, .none] }).get? (h.objs.size + 1) = some
      { cls := .ref C, data := .fields #[.ref h.objs.size, .none, .none, .none, .bool false, .none] } := by heap_get
  have hcC : (Value.ref C :: .ref B :: xbm).contains (.ref C) = true := by simp
  unfold isInstance
  repeat (first | with_reducible refine wpAny_loadPart_at hget ?_ | (with_reducible refine wpAny_isSubtype_exc hC₁ ?_; rw [hcC]) | wp_step)
  show wpAny _ _ (typeLookup (.ref C) _) _ _ _
  refine (PySem.W.looks_findIn X₁ hi).here ?_
  refine wpAny_holding (wpAny_bind (wpAny_of_eq (Fn.init.bind _) ?_))
  refine wpAny_bind (wpAny_call (codeAny_call_builtin Fn.init.plain Fn.initEntry (xinit_check hC₁ hget rfl ?_)))
  wp_walk
  refine hq _ #[.ref (h.objs.size + 2), .none, .none, .none, .bool false, .none] (fun b o hb => ?_) ?_
  · rw [Heap.get?_update_other _ _ (Nat.ne_of_gt (Nat.lt_succ_of_lt (Heap.lt_size hb)))]
    exact Heap.get?_push_of_some _ (Heap.get?_push_of_some _ (Heap.get?_push_of_some _ hb))
  · rw [Heap.get?_update_self _ (Heap.get?_push_of_some _ hget) rfl]
    simp only [Heap.size_push]
    rfl
theorem xcall0 {K : PySem.W.Frag} {E : Value → Shared → Prop} {rest : List Value} {Q : Value → Shared → Prop} (X : K.In h)
    (hC : h.get? C = some (excClassObj nm q C N bs (.ref B :: xbm) true sn sub ab col dd k0 k1 k2 k3 k5 "ValueError.__new__"))
    (hi : PySem.W.findIn K (.ref C) "__init__" = some (some (.builtin "ValueError.__init__")))
    (hq : ∀ h' fs, (∀ b o, h.get? b = some o → h'.get? b = some o) → h'.get? (h.objs.size + 1) = some (⟨.ref C, none, .fields fs, #[]⟩ : Obj) → Q (.ref (h.objs.size + 1)) ⟨h', g, d, t, os⟩) (hrest : rest.length ≤ sizeLine) :
    wpAny (model prog w) A (call (.ref C) rest) Q E ⟨h, g, d, t, os⟩ := by
  have f1 := tc_lookup
  have f2 := tc_bind (.ref C)
  have hT : (⟨h, g, d, t, os⟩ : Shared).TypeIs (.ref C) "type" := ⟨_, hC, rfl⟩
  refine wpAny_call (codeAny_of_tree ?_)
  show wpAny _ _ (callAny (.ref C) _) _ _ _
  repeat (any_goals (first | assumption | with_reducible refine wpAny_loadPart_at hC ?_ | wp_step))
  refine ⟨rfl, ?_⟩
  refine codeAny_call_builtin_at (Code.quiet_builtin _ (by decide +kernel)) entry_typeCall (wpAny_check_type_call_sub hC (xtype_call0 X hC hi ?_ hrest))
  exact hq
end

structure XMk0 (K : PySem.W.Frag) (mg : Str → Option Value) (x : Str) (C B : Addr) : Prop where
  cl : XCls K C B
  init : PySem.W.findIn K (.ref C) "__init__" = some (some (.builtin "ValueError.__init__"))
  mg : mg x = some (.ref C)

def tX0 (C : Addr) (t : TA) : TE := fun σ H Q => t σ H fun vs H1 => vs.length ≤ 1 ∧ ∀ a, H1 a = none → Q (.ref a) (upd H1 a (XO a C none))
section
variable {X : Cx} {pins : List (Addr × Obj)} {σ : St} {H : Hp} {s : Shared} {C B : Addr} {x : Str} {p pos : Pos} {e : Expr} {es : List Expr} {t : TA}
theorem run_x0 {Q : VK} {us : List Value} (M : XMk0 X.K X.mg x C B) (I : Inv X pins σ H s) (hl : us.length ≤ 1) (h : ∀ a, H a = none → Q (.ref a) (upd H a (XO a C none))) :
    wpAny (model X.prog X.w) X.A (call (.ref C) us) (EP X pins σ Q) X.xe s := by
  obtain ⟨nm, q, N, bs, sn, sub, ab, col, dd, k0, k1, k2, k3, k5, ho⟩ := M.cl.ob
  obtain ⟨hh, g, d, t, os⟩ := s
  have fr : H (hh.objs.size + 1) = none := I.hok.fresh (Nat.le_succ _)
  refine xcall0 (h := hh) I.kIn (I.kIn _ _ ho) M.init (fun h' fs kp hn => ⟨V.ref (hh.objs.size + 1), _, I.laid (a := hh.objs.size + 1) kp (Nat.le_succ _) (xo_mk hn), rfl, h _ fr⟩) (by rw [sizeLine_eq]; omega)
theorem pe_x0 (M : XMk0 X.K X.mg x C B) (hg : Gl X x := by rfl) (hdb : (x == ("__debug__" : Str)) = false := by decide) : PE X (.Call (.Name x p) [] [] pos) (tX0 C tNil) := by
  refine ⟨?_⟩
  intro pins s σ H Q I h
  refine wpAny_Call_Name_kw (ld_glob I hg M.mg ?_ hdb)
  exact PySem.W.callWith_K0 I.kIn M.cl.kp (run_x0 (us := []) M I (by decide) h.2)
theorem pe_x1 (M : XMk0 X.K X.mg x C B) (ha : PA X (e :: es) t) (hg : Gl X x := by rfl) (hdb : (x == ("__debug__" : Str)) = false := by decide)
    (h1 : plainE e = true := by rfl) (h2 : es.all plainE = true := by rfl) : PE X (.Call (.Name x p) (e :: es) [] pos) (tX0 C t) := by
  refine ⟨?_⟩
  intro pins s σ H Q I h
  refine wpAny_Call_Name_kw (ld_glob I hg M.mg ?_ hdb)
  refine PySem.W.callWith_K (h₀ := X.base) I.ok.mod.kin M.cl.kp (thn (ha pos pins s σ H _ I h) fun us s1 ⟨vs, H1, I1, r, hl, q⟩ => ⟨I1.kIn, ?_⟩) (star_cons h1) (star_any h2)
  exact run_x0 M I1 (by show us.length ≤ 1; rw [← r.length]; exact hl) q
end
end L2

set_option Elab.async false
set_option linter.all false
set_option maxRecDepth 100000
set_option maxHeartbeats 4000000
namespace L2
open PySem PySem.Spec PyProof.Rows

structure XTop (K : PySem.W.Frag) (mg : Str → Option Value) (x : Str) (C B : Addr) (qual : Str) (st : Stmt) (ps : List Str) : Prop where
  cl : XCls K C B
  ex : ∃ f fd, PySem.W.findIn K (.ref C) "__init__" = some (some (.ref f)) ∧ PySem.W.isFn K (.ref f) = true ∧ Fun K "__init__" qual st f fd ∧ Binds K fd ps []
  mg : mg x = some (.ref C)
structure XDef (P : Program) (w : World) (K : PySem.W.Frag) (mg : Str → Option Value) (base : Heap) (x : Str) (C B : Addr) (k : Nat) (ps : List Str) (sp : Sp) : Prop where
  cl : XCls K C B
  ex : ∃ f fd, PySem.W.findIn K (.ref C) "__init__" = some (some (.ref f)) ∧ PySem.W.isFn K (.ref f) = true ∧ FnOk P w K mg base CX0 k f fd ps sp ∧ Binds K fd ps []
  mg : mg x = some (.ref C)
section
variable {P : Program} {w : World} {K : PySem.W.Frag} {mg : Str → Option Value} {base : Heap}
theorem XTop.ok {x : Str} {C B : Addr} {qual : Str} {st : Stmt} {N ps : List Str} {k : Nat} {sp : Sp} (T : XTop K mg x C B qual st ps) (S : FnScope N ps (defScope st)) (len : ∀ vs H Q E, sp vs H Q E → vs.length = ps.length)
    (hbody : ∀ (f : Addr) (cdv : Value) (A : Around) (outer : List Env) (s : Shared) (H : Hp) (vs : List V) (Q : VK) (E : XK), Room k (A.deeper (envOfC qual (defScope st) s.heap.objs.size f cdv)) → sp vs H Q E →
      ∃ t, PSs (cxOf CX0 P w K mg base N qual (defScope st) f cdv A outer s H E).nox (defBody st) t ∧ t { nx := fun _ H' => Q .non H', rt := Q } (start N vs) H) : XDef P w K mg base x C B (k + 1) ps sp := by
  obtain ⟨f, fd, M1, M2, F, hb⟩ := T.ex
  exact ⟨T.cl, ⟨f, fd, M1, M2, F.ok S len (hbody f), hb⟩, T.mg⟩
end

def tXI (C : Addr) (sp : Sp) (E : XK) (t : TA) : TE := fun σ H Q => t σ H fun vs H1 => vs.length ≤ 10 ∧ ∀ a, H1 a = none → sp (.ref a :: vs) (upd H1 a (XO a C none)) (fun v H2 => v = .non ∧ Q (.ref a) H2) E
section
variable {X : Cx} {pins : List (Addr × Obj)} {σ : St} {H : Hp} {s : Shared} {C B : Addr} {x : Str} {p pos : Pos} {e : Expr} {es : List Expr} {t : TA} {k j : Nat} {ps : List Str} {sp : Sp} {E : XK}
theorem run_xi {Q : VK} {us : List Value} {vs : List V} {f : Addr} {fd : FuncData} (cl : XCls X.K C B) (hi : PySem.W.findIn X.K (.ref C) "__init__" = some (some (.ref f))) (hfn : PySem.W.isFn X.K (.ref f) = true)
    (F : FnOk X.prog X.w X.K X.mg X.base CX0 k f fd ps sp) (hr : Room (k + 1) X.A) (hb : Binds X.K fd ps []) (hx : Passes CX0 X E) (I : Inv X pins σ H s) (r : Vals vs us) (hl : vs.length ≤ 10)
    (h : ∀ a, H a = none → sp (.ref a :: vs) (upd H a (XO a C none)) (fun v H2 => v = .non ∧ Q (.ref a) H2) E) :
    wpAny (model X.prog X.w) X.A (call (.ref C) us) (EP X pins σ Q) X.xe s := by
  obtain ⟨nm, q, N, bs, sn, sub, ab, col, dd, k0, k1, k2, k3, k5, ho⟩ := cl.ob
  obtain ⟨hh, g, d, t, os⟩ := s
  have fr : H (hh.objs.size + 1) = none := I.hok.fresh (Nat.le_succ _)
  have hq := h _ fr
  have hul : us.length ≤ sizeLine := by rw [← r.length, sizeLine_eq]; omega
  have hget : ((hh.push { cls := .type "tuple", data := .seq us.toArray }).push
      { cls := .ref C, data := .fields #[.ref hh.objs.size, .none, .none, .none, .bool false, .none] }).get? (hh.objs.size + 1) = some
      { cls := .ref C, data := .fields #[.ref hh.objs.size, .none, .none, .none, .bool false, .none] } := by heap_get
  have I2 : Inv X pins σ (upd H (hh.objs.size + 1) (XO (hh.objs.size + 1) C none)) ⟨(hh.push { cls := .type "tuple", data := .seq us.toArray }).push { cls := .ref C, data := .fields #[.ref hh.objs.size, .none, .none, .none, .bool false, .none] }, g, d, t, os⟩ :=
    I.laid (a := hh.objs.size + 1) (fun b o e => Heap.get?_push_of_some _ (Heap.get?_push_of_some _ e)) (Nat.le_succ _) (xo_mk hget)
  have r2 : Vals (V.ref (hh.objs.size + 1) :: vs) (Value.ref (hh.objs.size + 1) :: us) := .cons rfl r
  have hl2 : ((Value.ref (hh.objs.size + 1) :: us) ++ []).length = ps.length := by
    rw [List.append_nil, ← r2.length]; exact F.len _ _ _ _ hq
  have r3 : Vals (V.ref (hh.objs.size + 1) :: vs) ((Value.ref (hh.objs.size + 1) :: us) ++ []) := by rw [List.append_nil]; exact r2
  refine xcall_init (h := hh) I.kIn (I.kIn _ _ ho) hi (beq_iff_eq.mp hfn) ?_ hul
  refine wpAny_call (codeAny_mono (F.run _ X.stack _ _ ⟨Value.ref (hh.objs.size + 1) :: us, []⟩ ((Value.ref (hh.objs.size + 1) :: us) ++ []) _ _ E (hr.make C us []) (I2.env0.make C us []) (hb _ (Value.ref (hh.objs.size + 1) :: us) I2.kIn hl2) r3 hq) fun r s' hq' => ?_)
  cases r with
  | error e => exact hx pins σ _ _ e s' I2 hq'
  | ok fl =>
    cases fl with
    | ret u =>
      obtain ⟨v, H', I3, rv, ev, q3⟩ := I2.after hq'
      subst ev
      exact ⟨rv, ⟨V.ref (hh.objs.size + 1), H', I3, rfl, q3⟩⟩
    | next => exact False.elim hq'
    | brk => exact False.elim hq'
    | cont => exact False.elim hq'
theorem pe_xi (D : XDef X.prog X.w X.K X.mg X.base x C B k ps sp) (hr : Room j X.A) (ha : PA X (e :: es) t) (hg : Gl X x := by rfl) (hj : k + 1 ≤ j := by decide) (hdb : (x == ("__debug__" : Str)) = false := by decide)
    (h1 : plainE e = true := by rfl) (h2 : es.all plainE = true := by rfl) : PE X (.Call (.Name x p) (e :: es) [] pos) (tXI C sp E0 t) := by
  obtain ⟨f, fd, M1, M2, F, hb⟩ := D.ex
  refine ⟨?_⟩
  intro pins s σ H Q I h
  refine wpAny_Call_Name_kw (ld_glob I hg D.mg ?_ hdb)
  refine PySem.W.callWith_K (h₀ := X.base) I.ok.mod.kin D.cl.kp (thn (ha pos pins s σ H _ I h) fun us s1 ⟨vs, H1, I1, r, hl, q⟩ => ⟨I1.kIn, ?_⟩) (star_cons h1) (star_any h2)
  exact run_xi D.cl M1 M2 F (hr.mono hj) hb pass0 I1 r hl q
end

def tXF (K : PySem.W.Frag) (ta : TE) (f : Str) : TE := fun σ H Q => ta σ H fun x H1 => ∃ a C B dx fs v, x = .ref a ∧ H1 a = some (XO a C (some dx)) ∧ H1 dx = some (XD dx fs) ∧ XCls K C B ∧ NoAttr K C f ∧ fs.lookup f = some v ∧ Q v H1

def sXF0 (K : PySem.W.Frag) (ta tv : TE) (f : Str) : TS := fun D σ H => tv σ H fun y H1 => ta σ H1 fun x H2 => ∃ a C B, x = .ref a ∧ H2 a = some (XO a C none) ∧ XCls K C B ∧ NoAttr K C f ∧
  ∀ dx, H2 dx = none → D.nx σ (upd (upd H2 a (XO a C (some dx))) dx (XD dx [(f, y)]))

def sXF1 (K : PySem.W.Frag) (ta tv : TE) (f : Str) : TS := fun D σ H => tv σ H fun y H1 => ta σ H1 fun x H2 => ∃ a C B dx fs, x = .ref a ∧ H2 a = some (XO a C (some dx)) ∧ H2 dx = some (XD dx fs) ∧ XCls K C B ∧ NoAttr K C f ∧ fs.length < 1000 ∧
  D.nx σ (upd H2 dx (XD dx (putF f y fs)))
section
variable {X : Cx} {o e value : Expr} {f : Str} {pos pos' tpos : Pos} {ta tv : TE}
theorem pe_xf (he : PE X e ta) (hb : attributeBase e f X.env (eval e X.env) = eval e X.env := by rfl) : PE X (.Attribute e f pos) (tXF X.K ta f) := by
  refine ⟨?_⟩
  intro pins s σ H Q I h
  refine attr_of hb (thn (he pins s σ H _ I h) fun u s1 ⟨x, H1, I1, rx, a, C, B, dx, fs, v, ex, ea, ed, c, n, l, q⟩ => ?_)
  subst ex
  obtain rfl : u = Value.ref a := rx
  exact xgetattr_ok I1 ea ed c n l fun u' s2 I2 ru => ⟨v, H1, I2, ru, q⟩
theorem ps_xf0 (ha : PE X o ta) (hv : PE X value tv) (hs : swapsWith value (some (.Attribute o f pos')) pos.line X.env = pure false := by rfl) : PS X (.Assign [.Attribute o f pos'] value pos) (sXF0 X.K ta tv f) := by
  refine ⟨?_⟩
  intro pins s σ H D I h
  refine plainObj_wpAny_Assign_Attribute (thn (hv pins s σ H _ I h) fun u s1 ⟨y, H1, I1, ry, q⟩ => thn (ha pins s1 σ H1 _ I1 q) fun ov s2 ⟨x, H2, I2, rx, a, C, B, ex, ea, c, n, q2⟩ => ?_) hs
  subst ex
  obtain rfl : ov = Value.ref a := rx
  exact xsetattr0_ok I2 ea c n ry fun dx s3 hd I3 => ⟨σ, _, I3, q2 dx hd⟩
theorem ps_xf1 (ha : PE X o ta) (hv : PE X value tv) (hs : swapsWith value (some (.Attribute o f pos')) pos.line X.env = pure false := by rfl) : PS X (.Assign [.Attribute o f pos'] value pos) (sXF1 X.K ta tv f) := by
  refine ⟨?_⟩
  intro pins s σ H D I h
  refine plainObj_wpAny_Assign_Attribute (thn (hv pins s σ H _ I h) fun u s1 ⟨y, H1, I1, ry, q⟩ => thn (ha pins s1 σ H1 _ I1 q) fun ov s2 ⟨x, H2, I2, rx, a, C, B, dx, fs, ex, ea, ed, c, n, l, q2⟩ => ?_) hs
  subst ex
  obtain rfl : ov = Value.ref a := rx
  exact xsetattr1_ok I2 ea ed c n l ry fun s3 I3 => ⟨σ, _, I3, q2⟩
end

def vc : V → Value
  | .ref a => .ref a
  | .ty n => .type n
  | _ => .none
def uXis (K : PySem.W.Frag) : List V → Hp → VK → Prop := fun xs H Q => ∃ a C B d c b, xs = [.ref a, c] ∧ H a = some (XO a C d) ∧ (∀ dx, d = some dx → ∃ fs, H dx = some (XD dx fs)) ∧ XCls K C B ∧ (c = .ref (match c with | .ref z => z | _ => 0) ∨ ∃ n, c = .ty n) ∧ PySem.W.kitOne K (.ref C) (vc c) = some b ∧ Q (.bl b) H
theorem call_xis {X : Cx} : CallR X (.builtin "isinstance") (uXis X.K) := by
  intro pins s σ H vs us Q I r h
  obtain ⟨a, C, B, d, c, b, rfl, ea, ed, cl, hc, k, q⟩ := h
  obtain ⟨u, us', rfl, ru, r'⟩ : ∃ u us', us = u :: us' ∧ RelV (.ref a) u ∧ Vals [c] us' := by cases r with | cons a b => exact ⟨_, _, rfl, a, b⟩
  obtain ⟨u2, rfl, ru2⟩ := r'.one
  cases (show u = Value.ref a from ru)
  have e2 : u2 = vc c := by
    rcases hc with hc | ⟨n, hc⟩
    · rw [hc] at ru2 ⊢; exact ru2
    · rw [hc] at ru2 ⊢; exact ru2
  subst e2
  exact xisinst_ok I ea ed cl k fun tk => ⟨.bl b, H, I.tok _, rfl, q⟩
end L2

set_option Elab.async false
set_option linter.all false
set_option maxRecDepth 100000
set_option maxHeartbeats 4000000
namespace L2
open PySem PySem.Spec PySem.SeqAt PyProof.Rows
section
variable {X : Cx}
theorem vals_bl0 : ∀ {bs : List Bool} {us : List Value}, Vals (bs.map V.bl) us → us = bs.map Value.bool
  | [], _, .nil => rfl
  | b :: bs, _, .cons r t => by rw [show _ = Value.bool b from r, vals_bl0 t]; rfl
theorem cnt_bl (k : Bool) : ∀ bs : List Bool, (bs.map Value.bool).countP (isBoolOf k) = bs.count k
  | [] => rfl
  | b :: bs => by
    rw [List.map_cons, List.countP_cons, cnt_bl k bs, List.count_cons]
    rfl
def uCntB : V → List V → Hp → VK → Prop := fun x vs H Q => ∃ (l : Addr) (bs : List Bool) (k : Bool), x = .ref l ∧ vs = [.bl k] ∧ H l = some (.lst (bs.map V.bl)) ∧ Q (.int (bs.count k : Nat)) H
theorem mt_cntB : MtR X "list.count" uCntB := by
  intro pins s σ H x vs v us Q I rx rv h
  obtain ⟨l, bs, k, rfl, rfl, hH, q⟩ := h
  cases rx
  obtain ⟨u, rfl, ru⟩ := rv.one
  cases (show u = Value.bool k from ru)
  obtain ⟨z, its, n, r, hl, e⟩ := I.lstM hH
  have ei := vals_bl0 r
  subst ei
  refine call_meets F.slot_list_count ⟨_, e, rfl⟩ F.entry_list_count (F.args_list_count_2 _ _) (list_countAt l (bs.map Value.bool).toArray n none #[] (.bool k) (isBoolOf k)) ⟨e, fun y hy => ?_, ?_⟩
  · obtain ⟨b, _, rfl⟩ := List.mem_map.mp (show y ∈ bs.map Value.bool by first | exact hy | exact List.mem_toArray.mp hy)
    exact EqAt.bool_bool b k
  · rw [show (bs.map Value.bool).toArray.toList = bs.map Value.bool from rfl, cnt_bl]
    exact ⟨.int _, H, I.tok _, ⟨_, rfl⟩, q⟩
def uIdxB : V → List V → Hp → VK → Prop := fun x vs H Q => ∃ (l : Addr) (bs : List Bool) (k : Bool), x = .ref l ∧ vs = [.bl k] ∧ H l = some (.lst (bs.map V.bl)) ∧ k ∈ bs ∧ bs.length ≤ 1000 ∧ Q (.int (bs.idxOf k : Nat)) H
theorem mt_idxB : MtR X "list.index" uIdxB := by
  intro pins s σ H x vs v us Q I rx rv h
  obtain ⟨l, bs, k, rfl, rfl, hH, hk, hbl, q⟩ := h
  cases rx
  obtain ⟨u, rfl, ru⟩ := rv.one
  cases (show u = Value.bool k from ru)
  obtain ⟨z, its, n, r, hl, e⟩ := I.lstM hH
  have ei := vals_bl0 r
  subst ei
  have hj : bs.idxOf k < bs.length := List.idxOf_lt_length_iff.mpr hk
  refine call_meets F.slot_list_index ⟨_, e, rfl⟩ F.entry_list_index (F.args_list_index_2 _ _)
    (list_indexAt l (bs.map Value.bool).toArray n none #[] (.bool k) (isBoolOf k) (bs.idxOf k) (by simpa using hj) (by omega) ?_ ?_) ⟨e, fun y hy => ?_, ⟨.int _, H, I.tok _, ⟨_, rfl⟩, q⟩⟩
  · show isBoolOf k ((bs.map Value.bool)[bs.idxOf k]'(by simpa using hj)) = true
    rw [List.getElem_map]
    simpa [isBoolOf] using List.getElem_idxOf hj
  · intro j hjs hlt
    have hjb : j < bs.length := Nat.lt_trans hlt hj
    show isBoolOf k ((bs.map Value.bool)[j]'(by simpa using hjb)) = false
    rw [List.getElem_map]
    have z := List.not_of_lt_findIdx (p := (· == k)) (xs := bs) hlt
    simpa [isBoolOf] using z
  · obtain ⟨b, _, rfl⟩ := List.mem_map.mp (show y ∈ bs.map Value.bool by first | exact hy | exact List.mem_toArray.mp hy)
    exact EqAt.bool_bool b k
theorem vals_strs : ∀ {ys : List Str} {us : List Value}, Vals (ys.map V.str) us → StrsAre us ys
  | [], _, .nil => .nil
  | y :: ys, _, .cons r t => by
    obtain ⟨k, rfl⟩ := (show ∃ t, _ = Value.str y t from r)
    exact .cons _ _ (vals_strs t)
def uJoin : V → List V → Hp → VK → Prop := fun x vs H Q => ∃ (z : Str) (l : Addr) (ys : List Str), x = .str z ∧ vs = [.ref l] ∧ H l = some (.lst (ys.map V.str)) ∧ z.length ≤ 16 ∧ (ys.map (·.length)).sum + ys.length ≤ 1048576 ∧ Q (.str (Txt.join z ys)) H
theorem mt_join : MtR X "str.join" uJoin := by
  intro pins s σ H x vs v us Q I rx rv h
  obtain ⟨z, l, ys, rfl, rfl, hH, hz, hw, q⟩ := h
  obtain ⟨tz, rfl⟩ := (show ∃ t, v = Value.str z t from rx)
  obtain ⟨u, rfl, ru⟩ := rv.one
  cases (show u = Value.ref l from ru)
  obtain ⟨_, its, n, r, hl, e⟩ := I.lstM hH
  exact join_listW (items := its.toArray) ⟨_, e, rfl, n, rfl⟩ (vals_strs r) hz hw fun t' k => ⟨.str _, H, I.tok _, ⟨_, rfl⟩, q⟩
end
end L2

set_option Elab.async false
set_option linter.all false
set_option maxRecDepth 100000
set_option maxHeartbeats 4000000
namespace L2
open PySem PySem.Spec PyProof.Rows
section
variable {X : Cx} {K : PySem.W.Frag}

theorem call_udivmod : CallR X (.builtin "divmod") (fun xs H Q => ∃ i j, xs = [.int i, .int j] ∧ CDiv2 i j ∧ ∀ p, H p = none → Q (.ref p) (upd H p (.tup [.int (i / j), .int (i % j)]))) := by
  intro pins s σ H xs us Q I r h
  obtain ⟨i, j, rfl, ⟨h1, h2⟩, q⟩ := h
  obtain ⟨u, w', rfl, ⟨t, rfl⟩, ⟨t', rfl⟩⟩ := vals2 r
  refine divmod_int (by omega) ?_ (.inl (PyProof.noPylong_of_log2 h2))
  rw [Int.fdiv_eq_ediv_of_nonneg i (by omega), Int.fmod_eq_emod_of_nonneg i (by omega)]
  have hn : H s.heap.objs.size = none := I.hok.fresh (Nat.le_refl _)
  refine ⟨.ref s.heap.objs.size, _, ?_, rfl, q _ hn⟩
  refine I.laid (fun b o e => Heap.get?_push_of_some _ e) (Nat.le_refl _) ⟨by simp only [List.length_cons, List.length_nil]; rw [sizeLine_eq]; decide, [.int (i / j) s.toks, .int (i % j) (s.toks + 1)], .cons ⟨_, rfl⟩ (.cons ⟨_, rfl⟩ .nil), ?_⟩
  exact ⟨_, Heap.get?_push_size s.heap rfl, rfl, 0, rfl⟩
theorem pe_xfK {e : Expr} {ta : TE} {f : Str} {pos : Pos} (hK : X.K = K) (he : PE X e ta) (hb : attributeBase e f X.env (eval e X.env) = eval e X.env := by rfl) : PE X (.Attribute e f pos) (tXF K ta f) := hK ▸ pe_xf he hb
end
end L2

set_option Elab.async false
set_option linter.all false
set_option maxRecDepth 100000
set_option maxHeartbeats 4000000
namespace K18
open PySem L2
def clsBody : Stmt → List Stmt
  | .ClassDef _ _ _ b _ _ _ _ _ _ _ => b
  | _ => []
theorem boot_VE : bootBuiltins "ValueError" = some (.type "ValueError") := by kernel_rfl
def top (i : Nat) : Stmt := PySem.Challenge.pw_cutrestore_k18_refusals_made.main.body.getD i (.Pass ⟨0, 0, 0, 0⟩)
structure Tx (K : PySem.W.Frag) (mg : Str → Option Value) (B : Addr) (c : Nat → Addr) : Prop where
  b_isinstance : mg "isinstance" = none
  b_len : mg "len" = none
  b_range : mg "range" = none
  b_min : mg "min" = none
  b_max : mg "max" = none
  b_abs : mg "abs" = none
  b_divmod : mg "divmod" = none
  b_all : mg "all" = none
  b_list : mg "list" = none
  b_ValueError : mg "ValueError" = none
  m_BadMachine : mg "BadMachine" = some (.ref (c 0))
  m_BadDeed : mg "BadDeed" = some (.ref (c 1))
  m_NoText : mg "NoText" = some (.ref (c 2))
  m_BadNet : mg "BadNet" = some (.ref (c 3))
  m_NoLetter : mg "NoLetter" = some (.ref (c 4))
  m_NotFirst : mg "NotFirst" = some (.ref (c 5))
  m_NoCount : mg "NoCount" = some (.ref (c 6))
  m_NoEvent : mg "NoEvent" = some (.ref (c 7))
  m_Orphaned : mg "Orphaned" = some (.ref (c 8))
  m_TooMany : mg "TooMany" = some (.ref (c 9))
  m_NoLine : mg "NoLine" = some (.ref (c 10))
  m_NoMachine : mg "NoMachine" = some (.ref (c 11))
  m_NotRow : mg "NotRow" = some (.ref (c 12))
  m_Busy : mg "Busy" = some (.ref (c 13))
  m_NotReached : mg "NotReached" = some (.ref (c 14))
  m_NoMark : mg "NoMark" = some (.ref (c 15))
  m_NoRow : mg "NoRow" = some (.ref (c 16))
  m_NoName : mg "NoName" = some (.ref (c 17))
  m_NoDeed : mg "NoDeed" = some (.ref (c 18))
  m_NetError : mg "NetError" = some (.ref B)
  x_BadMachine : XMk0 K mg "BadMachine" (c 0) B
  x_NoText : XMk0 K mg "NoText" (c 2) B
  x_BadNet : XMk0 K mg "BadNet" (c 3) B
  x_NoCount : XMk0 K mg "NoCount" (c 6) B
  x_NoEvent : XMk0 K mg "NoEvent" (c 7) B
  x_TooMany : XMk0 K mg "TooMany" (c 9) B
  x_NoMachine : XMk0 K mg "NoMachine" (c 11) B
  x_Busy : XMk0 K mg "Busy" (c 13) B
  x_NoMark : XMk0 K mg "NoMark" (c 15) B
  x_NoRow : XMk0 K mg "NoRow" (c 16) B
  x_NoName : XMk0 K mg "NoName" (c 17) B
  x_NoDeed : XMk0 K mg "NoDeed" (c 18) B
  cl : ∀ i, i < 19 → XCls K (c i) B
  inj : ∀ i j, i < 19 → j < 19 → c i = c j → i = j
  nB : ∀ i, i < 19 → c i ≠ B
  isB : (PySem.W.clsIn K B).isSome = true
  tyB : PySem.W.typeIn K (.ref B) = some (.type "type")
  n_BadDeed_at : NoAttr K (c 1) "at"
  n_NoLetter_at : NoAttr K (c 4) "at"
  n_NotFirst_at : NoAttr K (c 5) "at"
  n_Orphaned_letter : NoAttr K (c 8) "letter"
  n_NoLine_falls : NoAttr K (c 10) "falls"
  n_NoLine_letter : NoAttr K (c 10) "letter"
  n_NotRow_way : NoAttr K (c 12) "way"
  n_NotReached_machine : NoAttr K (c 14) "machine"

def PotB (H : Hp) (p : Addr) : Prop := ∃ a b, H p = some (.lst [.int a, .int b]) ∧ 0 ≤ b ∧ b < 2147483648
structure St (p : Addr) (H H' : Hp) : Prop where
  pot : PotB H' p
  rest : ∀ b o, H b = some o → b ≠ p → H' b = some o
theorem St.refl {p : Addr} {H : Hp} (h : PotB H p) : St p H H := ⟨h, fun _ _ e _ => e⟩
theorem St.trans {p : Addr} {H H1 H2 : Hp} (a : St p H H1) (b : St p H1 H2) : St p H H2 := ⟨b.pot, fun c o e n => b.rest c o (a.rest c o e n) n⟩
theorem St.same {p : Addr} {H H1 H2 : Hp} (a : St p H H1) (b : Same H1 H2) : St p H H2 :=
  ⟨let ⟨x, y, e, r⟩ := a.pot; ⟨x, y, b _ _ e, r⟩, fun c o e n => b c o (a.rest c o e n)⟩
theorem St.set {p : Addr} {H H1 : Hp} (a : St p H H1) (x y : Int) (h0 : 0 ≤ y) (h1 : y < 2147483648) : St p H (upd H1 p (.lst [.int x, .int y])) :=
  ⟨⟨x, y, upd_same, h0, h1⟩, fun c o e n => by rw [upd_ne n]; exact a.rest c o e n⟩
theorem St.new {p q : Addr} {H H1 : Hp} (a : St p H H1) {o : HO} (hn : H1 q = none) : St p H (upd H1 q o) := a.same (Same.new o hn)
theorem St.ne {p q : Addr} {H : Hp} (hp : PotB H p) (hn : H q = none) : q ≠ p := fun z => by
  subst z
  obtain ⟨_, _, h, _⟩ := hp
  rw [h] at hn; cases hn
theorem PotB.nt {H : Hp} {p t : Addr} {xs : List V} (hp : PotB H p) (ht : H t = some (.tup xs)) : t ≠ p := fun z => by
  subst z
  obtain ⟨_, _, h, _⟩ := hp
  rw [h] at ht; cases ht
end K18
namespace K18
open PySem L2
section
variable {P : Program} {w : World} {K : PySem.W.Frag} {mg : Str → Option Value} {base : Heap} {B : Addr} {c : Nat → Addr}
local macro_rules | `(tactic| walk_at "rd") => `(tactic| simp only [tVar, tC, tOp, tTest, tB, tNot, tNotV, tAnd, tOr, tAndV, tOrV, tIf, tIfS, tSeq, tNext, tRet, tRetN, tAsg, gName, gSub, tCall, tCB, tCons, tNil, tTup, tLst, tDrop, uAdd_ii, uAdd_rr, uAll_1, uApp_r, tBM, id_eq, iSeq, iRng1, ↓tLc_box, ↓tFor_box, ↓LcGoal_box, uI_ii, uI0_ii, uEq_ii, uEq_ss, uEq_rr, uNe_ii, uNe_ss, uNe_rr, uIx_ri, uIx_si, uLen_1, uII_2, uList_1, uSetL_ri, tNoTest, blk, some_join, cx_K, cxOf_K, nox_K, bCx_K, L2.start, List.map_cons, List.map_nil, List.length_cons, List.length_nil, List.cons_append, List.nil_append, List.replicate, List.getElem?_cons_zero, List.getElem?_cons_succ, List.append_nil, Option.some.injEq, exists_eq_left', exists_eq_left, V.int.injEq, V.bl.injEq, V.str.injEq, V.ref.injEq, List.cons.injEq, and_true, true_and, List.set_cons_zero, List.set_cons_succ, Nat.reduceSub, Nat.reduceAdd])

abbrev s_law_pot : Stmt := top 22
def sp_pot (K : PySem.W.Frag) : Sp := fun vs H Q _ => ∃ (a : Addr) (ns : List Int) (k : Int), vs = [.ref a, .int k] ∧ SqL K H a (ns.map V.int) ∧ 0 ≤ k ∧ ∀ p x y, H p = none → 0 ≤ y → y < 2147483648 → Q (.ref p) (upd H p (.lst [.int x, .int y]))
theorem sc_law_pot : FnScope ["_law_script", "_law_k", "_law_cell"] ["_law_script", "_law_k"] (defScope s_law_pot) := ⟨rfl, rfl, rfl, by decide +kernel, rfl, by decide +kernel, by decide +kernel⟩
theorem d_law_pot (D : Top1 K mg "_law_pot" "_law_pot" s_law_pot ["_law_script", "_law_k"]) (T : Tx K mg B c) : Def P w K mg base "_law_pot" 1 ["_law_script", "_law_k"] (sp_pot K) := by
  have sc := sc_law_pot
  refine D.ok sc (fun vs H Q E h => ?_) (fun f cdv A outer s H vs Q E hr h => ?_)
  · obtain ⟨a, ns, k, rfl, hS, h0, q⟩ := h
    rfl
  · obtain ⟨a, ns, k, rfl, hS, h0, q⟩ := h
    have hu := hr.units
    refine ⟨_, (pss_cons (ps_st (i := 2) sc.nd rfl (by first | exact Or.inl rfl | exact Or.inr rfl) (pe_ifExp (pt_cmpR op_uLt (pv 1) (pe_cB call_ulen rfl T.b_len PySem.boot_len (pa_c (pv 0) pa_nil)) (nomark _)) (pe_ixu hu (pv 0) (pv 1)) pe_int))
      (pss_one (ps_ret (pe_lst (pa_c (pe_cB (call_umax rfl) rfl T.b_max PyProof.Rows.boot_max (pa_c pe_int (pa_c (pe_op op_uSub (pe_cB call_abs rfl T.b_abs PyProof.Rows.boot_abs (pa_c (pv 2) pa_nil)) (pe_op op_uPow pe_int pe_int)) pa_nil))) (pa_c (pe_op op_uAdd (pe_op op_uMod (pe_op op_uAdd (pe_cB call_abs rfl T.b_abs PyProof.Rows.boot_abs (pa_c (pv 2) pa_nil)) (pe_op op_uMul pe_int (pv 1))) pe_int) pe_int) pa_nil)))))), ?_⟩
    walk_at "rd"
    refine ⟨_, .inl ⟨_, hS, rfl⟩, ?_⟩
    rw [List.length_map]
    have cp : CPow 10 18 := ⟨by decide, by decide, by decide +kernel⟩
    have cm : CMul 7919 k := .inl ⟨by decide, by decide⟩
    have fin : ∀ (x z : Int) (p : Addr), H p = none → Q (.ref p) (upd H p (.lst [.int x, .int ((z + 7919 * k) % 2147483629 + 1)])) := fun x z p hp => q p x _ hp (by have := Int.emod_nonneg (z + 7919 * k) (show (2147483629 : Int) ≠ 0 by decide); omega) (by have := Int.emod_lt_of_pos (z + 7919 * k) (show (0 : Int) < 2147483629 by decide); omega)
    by_cases h1 : k < (ns.length : Int)
    · rw [if_pos (by simpa using h1)]
      obtain ⟨n, rfl⟩ := Int.eq_ofNat_of_zero_le h0
      have hn : n < ns.length := by omega
      exact ⟨_, .int ns[n], .inl hS, atI_nat (by rw [List.getElem?_map, List.getElem?_eq_getElem hn]; rfl), _, rfl, cp, _, rfl, cm, by decide, by decide, fun p hp => fin _ _ p hp⟩
    · rw [if_neg (by simpa using h1)]
      exact ⟨cp, cm, by decide, by decide, fun p hp => fin _ _ p hp⟩

abbrev s_law_digit : Stmt := top 23
def sp_digit : Sp := fun vs H Q _ => ∃ (p : Addr) (m : Int), vs = [.ref p, .int m] ∧ PotB H p ∧ 0 < m ∧ m.natAbs.log2 < 9000 ∧ ∀ d H', 0 ≤ d → d < m → St p H H' → Q (.int d) H'
theorem sc_law_digit : FnScope ["_law_pot_here", "_law_many", "_law_digit_here"] ["_law_pot_here", "_law_many"] (defScope s_law_digit) := ⟨rfl, rfl, rfl, by decide +kernel, rfl, by decide +kernel, by decide +kernel⟩
theorem d_law_digit (D : Top1 K mg "_law_digit" "_law_digit" s_law_digit ["_law_pot_here", "_law_many"]) (T : Tx K mg B c) : Def P w K mg base "_law_digit" 1 ["_law_pot_here", "_law_many"] sp_digit := by
  have sc := sc_law_digit
  refine D.ok sc (fun vs H Q E h => ?_) (fun f cdv A outer s H vs Q E hr h => ?_)
  · obtain ⟨p, m, rfl, hp, h0, hl, q⟩ := h
    rfl
  · obtain ⟨p, m, rfl, hp, h0, hl, q⟩ := h
    have hu := hr.units
    refine ⟨_, (pss_cons (ps_if (pt_cmpR op_uGt (pe_ixu hu (pv 0) pe_int) pe_int (nomark _)) (pss_cons (ps_asg (pe_cB call_udivmod rfl T.b_divmod PyProof.Rows.boot_divmod (pa_c (pe_ixu hu (pv 0) pe_int) (pa_c (pv 1) pa_nil))) (pg_tup rfl (pgs_cons (pg_sub (pv 0) pe_int set_ulist) (pgs_cons (pg_name (i := 2) sc.nd rfl (by first | exact Or.inl rfl | exact Or.inr rfl)) pgs_nil))))
      (pss_one (ps_ret (pv 2)))) pss_nil)
      (pss_cons (ps_asg (pe_op op_uMod (pe_op op_uAdd (pe_op op_uMul (pe_ixu hu (pv 0) pe_int) pe_int) pe_int) pe_int) (pg_sub (pv 0) pe_int set_ulist))
      (pss_one (ps_ret (pe_op op_uMod (pe_op op_uFdiv (pe_op op_uMod (pe_op op_uMul (pe_ixu hu (pv 0) pe_int) (pe_ixu hu (pv 0) pe_int)) pe_int) pe_int) (pv 1)))))), ?_⟩
    walk_at "rd"
    have hp0 := hp
    obtain ⟨a, b, hab, hb0, hb1⟩ := hp
    have st0 : St p H H := St.refl hp0
    refine ix_l hab rfl ?_
    walk_at "rd"
    split
    · refine ix_l hab rfl ?_
      refine ⟨_, _, ⟨rfl, rfl⟩, ⟨h0, hl⟩, fun q1 hq1 => ?_⟩
      have hne := St.ne hp0 hq1
      refine ⟨_, _, rfl, SqT.of upd_same, rfl, ?_⟩
      dsimp only [gCons, gNil]
      refine ⟨_, _, rfl, ?_⟩
      walk_at "rd"
      refine ⟨_, 0, by rw [upd_ne (Ne.symm hne)]; exact hab, rfl, ?_⟩
      try refine ⟨_, _, ⟨rfl, rfl⟩, ?_⟩
      walk_at "rd"
      exact q _ _ (Int.emod_nonneg _ (by omega)) (Int.emod_lt_of_pos _ h0) ((st0.new hq1).set _ _ hb0 hb1)
    · refine ix_l hab rfl ?_
      walk_at "rd"
      refine ⟨.inl ⟨by omega, by omega⟩, by decide, ?_⟩
      refine ⟨_, 1, hab, rfl, ?_⟩
      have hb0' : 0 ≤ (b * 48271 + 11) % 2147483647 := Int.emod_nonneg _ (by decide)
      have hb1' : (b * 48271 + 11) % 2147483647 < 2147483647 := Int.emod_lt_of_pos _ (by decide)
      refine ix_l upd_same rfl ?_
      refine ix_l upd_same rfl ?_
      dsimp only [List.set_cons_succ, List.set_cons_zero]
      walk_at "rd"
      refine ⟨.inl ⟨by omega, by omega⟩, by decide, ⟨by decide, by decide +kernel⟩, h0, ?_⟩
      exact q _ _ (Int.emod_nonneg _ (by omega)) (Int.emod_lt_of_pos _ h0) (st0.set _ _ hb0' (by omega))

abbrev s_law_number : Stmt := top 25
def sp_number : Sp := fun vs H Q _ => ∃ (p : Addr), vs = [.ref p] ∧ PotB H p ∧ ∀ d H', 0 ≤ d → St p H H' → Q (.int d) H'
theorem sc_law_number : FnScope ["_law_pot_here"] ["_law_pot_here"] (defScope s_law_number) := ⟨rfl, rfl, rfl, by decide +kernel, rfl, by decide +kernel, by decide +kernel⟩
theorem d_law_number (D : Top1 K mg "_law_number" "_law_number" s_law_number ["_law_pot_here"]) (T : Tx K mg B c) (D_law_digit : Def P w K mg base "_law_digit" 1 ["_law_pot_here", "_law_many"] sp_digit) : Def P w K mg base "_law_number" 2 ["_law_pot_here"] sp_number := by
  have sc := sc_law_number
  refine D.ok sc (fun vs H Q E h => ?_) (fun f cdv A outer s H vs Q E hr h => ?_)
  · obtain ⟨p, rfl, hp, q⟩ := h
    rfl
  · obtain ⟨p, rfl, hp, q⟩ := h
    have hu := hr.units
    refine ⟨_, (pss_one (ps_ret (pe_cf D_law_digit hr (pa_c (pv 0) (pa_c (pe_ixu hu (pe_lst (pa_c pe_int (pa_c (pe_op op_uPow pe_int pe_int) pa_nil))) (pe_cf D_law_digit hr (pa_c (pv 0) (pa_c pe_int pa_nil)))) pa_nil))))), ?_⟩
    walk_at "rd"
    refine ⟨⟨by decide, by decide, by decide +kernel⟩, by decide, fun l hl => ?_⟩
    have hlp := St.ne hp hl
    have st0 := (St.refl hp).new (o := .lst [.int 3, .int (10 ^ Int.toNat 60)]) hl
    refine ⟨p, 2, rfl, st0.pot, by decide, by decide +kernel, fun d H1 h1 h2 st1 => ?_⟩
    have hL : H1 l = some (.lst [.int 3, .int (10 ^ Int.toNat 60)]) := st1.rest _ _ upd_same hlp
    have hd : d = 0 ∨ d = 1 := by omega
    rcases hd with rfl | rfl
    · exact ix_l hL rfl ⟨p, 3, rfl, st1.pot, by decide, by decide +kernel, fun d H2 h3 h4 st2 => q d H2 h3 ((st0.trans st1).trans st2)⟩
    · exact ix_l hL rfl ⟨p, 10 ^ Int.toNat 60, rfl, st1.pot, by decide +kernel, by decide +kernel, fun d H2 h3 h4 st2 => q d H2 h3 ((st0.trans st1).trans st2)⟩

abbrev s_law_letter : Stmt := top 26
def sp_letter : Sp := fun vs H Q _ => ∃ (p : Addr), vs = [.ref p] ∧ PotB H p ∧ ∀ t a b H', H' t = some (.tup [.int a, .int b]) → St p H H' → Q (.ref t) H'
theorem sc_law_letter : FnScope ["_law_pot_here"] ["_law_pot_here"] (defScope s_law_letter) := ⟨rfl, rfl, rfl, by decide +kernel, rfl, by decide +kernel, by decide +kernel⟩
theorem d_law_letter (D : Top1 K mg "_law_letter" "_law_letter" s_law_letter ["_law_pot_here"]) (T : Tx K mg B c) (D_law_number : Def P w K mg base "_law_number" 2 ["_law_pot_here"] sp_number) : Def P w K mg base "_law_letter" 3 ["_law_pot_here"] sp_letter := by
  have sc := sc_law_letter
  refine D.ok sc (fun vs H Q E h => ?_) (fun f cdv A outer s H vs Q E hr h => ?_)
  · obtain ⟨p, rfl, hp, q⟩ := h
    rfl
  · obtain ⟨p, rfl, hp, q⟩ := h
    have hu := hr.units
    refine ⟨_, (pss_one (ps_ret (pe_tup (pa_c (pe_cf D_law_number hr (pa_c (pv 0) pa_nil)) (pa_c (pe_cf D_law_number hr (pa_c (pv 0) pa_nil)) pa_nil))))), ?_⟩
    walk_at "rd"
    exact ⟨p, rfl, hp, fun a H1 ha st1 => ⟨p, rfl, st1.pot, fun b H2 hb st2 => ⟨by decide, fun t ht => q t a b _ upd_same ((st1.trans st2).new ht)⟩⟩⟩

abbrev s_law_text : Stmt := top 24
def sp_text : Sp := fun vs H Q _ => ∃ (p : Addr), vs = [.ref p] ∧ PotB H p ∧ ∀ x H', St p H H' → Q (.str x) H'
theorem sc_law_text : FnScope ["_law_pot_here", "_law_signs"] ["_law_pot_here"] (defScope s_law_text) := ⟨rfl, rfl, rfl, by decide +kernel, rfl, by decide +kernel, by decide +kernel⟩
theorem d_law_text (D : Top1 K mg "_law_text" "_law_text" s_law_text ["_law_pot_here"]) (T : Tx K mg B c) (D_law_digit : Def P w K mg base "_law_digit" 1 ["_law_pot_here", "_law_many"] sp_digit) : Def P w K mg base "_law_text" 2 ["_law_pot_here"] sp_text := by
  have sc := sc_law_text
  refine D.ok sc (fun vs H Q E h => ?_) (fun f cdv A outer s H vs Q E hr h => ?_)
  · obtain ⟨p, rfl, hp, q⟩ := h
    rfl
  · obtain ⟨p, rfl, hp, q⟩ := h
    have hu := hr.units
    refine ⟨_, (pss_cons (ps_st (i := 1) sc.nd rfl (by first | exact Or.inl rfl | exact Or.inr rfl) pe_str)
      (pss_one (ps_ret (pe_bm PySem.F.plainAttrs_str PySem.F.slot_str_join PySem.F.type_str_join mt_join pe_str (pa_c (pe_lc (N' := ["_law_k", "_law_signs", "_law_pot_here"]) (ix := [none, some 1, some 0]) rfl (by kernel_rfl) rfl (by kernel_rfl) (pi_range1 rfl T.b_range (pa_c (pe_cf D_law_digit hr (pa_c (pv 0) (pa_c pe_int pa_nil))) pa_nil)) (fun _ _ _ _ => (pg_name (i := 0) (show (["_law_k", "_law_signs", "_law_pot_here"] : List PySem.Str).Nodup by decide +kernel) rfl (by first | exact Or.inl rfl | exact Or.inr rfl))) (fun _ _ _ _ => pts_nil) (fun _ _ _ _ => (pe_ixuK (K := K) rfl hu (pv 1) (pe_cf D_law_digit hr (pa_c (pv 2) (pa_c (pe_cB (call_ulenK (K := K) rfl) rfl T.b_len PySem.boot_len (pa_c (pv 1) pa_nil)) pa_nil)))))) pa_nil))))), ?_⟩
    walk_at "rd"
    refine ⟨rfl, ?_⟩
    refine do_tLc ?_
    walk_at "rd"
    refine ⟨p, 30, rfl, hp, by decide, by decide +kernel, fun n H1 hn0 hn1 st1 => ?_⟩
    refine ⟨n, rfl, by omega, by omega, fun D hD => ?_⟩
    have hDp : D ≠ p := St.ne st1.pot hD
    refine lc_turns (J := Itr 0 n.toNat) (n := n.toNat) (fun i ys H' => ∃ ts : List PySem.Str, ys = ts.map V.str ∧ ts.length = i ∧ (∀ t ∈ ts, t.length = 1) ∧ St p H H') (by rw [PySem.sizeLine_eq]; omega) ⟨[], rfl, rfl, fun _ h => absurd h (by simp), st1.new hD⟩ (fun i ys H' hi _ => hi) (fun ys H' _ => Nat.le_refl _) ?_ ?_
    · rintro i ys H' hi hys hl ⟨ts, rfl, hn, h1, st⟩ x H2 ⟨rfl, rfl⟩
      refine ⟨Ext.set (Ext.refl _) rfl, ?_⟩
      walk_at "rd"
      rw [if_pos trivial]
      refine ⟨_, ⟨by decide +kernel, rfl⟩, ?_⟩
      refine ⟨p, _, rfl, st.pot, by decide +kernel, by decide +kernel, fun d H3 hd0 hd1 st3 => ?_⟩
      obtain ⟨j, rfl⟩ := Int.eq_ofNat_of_zero_le hd0
      have hj : j < (" abcdefghijklmnopqrstuvwxyzABCDEFGHIJKLMNOPQRSTUVWXYZ0123456789.,;:-~" : PySem.Str).cps.toList.length := by
        have e : (" abcdefghijklmnopqrstuvwxyzABCDEFGHIJKLMNOPQRSTUVWXYZ0123456789.,;:-~" : PySem.Str).length = (" abcdefghijklmnopqrstuvwxyzABCDEFGHIJKLMNOPQRSTUVWXYZ0123456789.,;:-~" : PySem.Str).cps.toList.length := rfl
        omega
      refine ⟨_, by decide +kernel, atI_nat (List.getElem?_eq_getElem hj), ?_⟩
      refine lc_put (st3.rest _ _ hys hDp) hl hi (by rw [PySem.sizeLine_eq]; omega) ⟨ts ++ [_], by rw [List.map_append]; rfl, by simp [hn], fun t ht => ?_, ?_⟩
      · rcases List.mem_append.mp ht with h | h
        · exact h1 t h
        · rw [List.mem_singleton.mp h]; rfl
      · exact ⟨(let ⟨a, b, e, r⟩ := st3.pot; ⟨a, b, by rw [upd_ne (Ne.symm hDp)]; exact e, r⟩), fun b o e ne => by
          have hbD : b ≠ D := fun z => by
            subst z
            have := st1.rest _ _ e ne
            rw [hD] at this; cases this
          rw [upd_ne hbD]; exact st3.rest _ _ (st.rest _ _ e ne) ne⟩
    · rintro ys H' hys hl ⟨ts, rfl, hn, h1, st⟩
      have hsum : (ts.map (·.length)).sum = ts.length := by
        clear hn hys hl
        induction ts with
        | nil => rfl
        | cons t r ih =>
          rw [List.map_cons, List.sum_cons, ih fun u hu => h1 u (List.mem_cons_of_mem _ hu), h1 t (List.mem_cons_self ..), List.length_cons]
          omega
      exact ⟨_, _, ts, rfl, rfl, hys, by decide, by omega, q _ _ st⟩

theorem kit_xx (T : Tx K mg B c) {i j : Nat} (hi : i < 19) (hj : j < 19) : PySem.W.kitOne K (.ref (c i)) (.ref (c j)) = some (decide (i = j)) := by
  unfold PySem.W.kitOne
  by_cases e : i = j
  · subst e
    rw [if_pos (by simp)]
    simp
  · have ne : c i ≠ c j := fun z => e (T.inj i j hi hj z)
    have ne2 : c j ≠ B := T.nB j hj
    rw [if_neg (by simpa using ne)]
    obtain ⟨cd, e1, e2, _⟩ := (T.cl i hi).cd
    obtain ⟨nm, q, N, bs, sn, sub, ab, col, dd, k0, k1, k2, k3, k5, ho⟩ := (T.cl j hj).ob
    have h1 : PySem.W.typeIn K (.ref (c j)) = some (.type "type") := by show Option.map (·.cls) (K.lookup (c j)) = _; rw [ho]; rfl
    have h2 : (PySem.W.clsIn K (c j)).isSome = true := by unfold PySem.W.clsIn; rw [ho]; rfl
    have hm := (T.cl i hi).mro (.ref (c j))
    show (if ((PySem.W.clsIn K (c j)).isSome && PySem.W.typeIn K (.ref (c j)) == some (.type "type")) = true then PySem.W.subIn K (.ref (c i)) (.ref (c j)) else none) = _
    rw [h1, h2]
    simp only [beq_self_eq_true, Bool.and_self, if_true]
    show PySem.W.mroIn K (c i) (.ref (c j)) = _
    rw [hm]
    have z : ((Value.ref (c i) :: .ref B :: xbm).contains (.ref (c j))) = false := by
      simp [xbm, List.contains_cons, ne, ne2, Ne.symm ne]
    rw [z]
    simp [e]
theorem kit_xB (T : Tx K mg B c) {i : Nat} (hi : i < 19) : PySem.W.kitOne K (.ref (c i)) (.ref B) = some true := by
  unfold PySem.W.kitOne
  rw [if_neg (by simpa using T.nB i hi)]
  show (if ((PySem.W.clsIn K B).isSome && PySem.W.typeIn K (.ref B) == some (.type "type")) = true then PySem.W.subIn K (.ref (c i)) (.ref B) else none) = _
  rw [T.isB, T.tyB]
  simp only [beq_self_eq_true, Bool.and_self, if_true]
  show PySem.W.mroIn K (c i) (.ref B) = _
  rw [(T.cl i hi).mro]
  simp [List.contains_cons]
theorem kit_xV (T : Tx K mg B c) {i : Nat} (hi : i < 19) : PySem.W.kitOne K (.ref (c i)) (.type "ValueError") = some true := by
  unfold PySem.W.kitOne
  rw [if_neg (by intro z; cases z)]
  show (if PySem.W.kitMeta "ValueError" = true then PySem.W.subIn K (.ref (c i)) (.type "ValueError") else none) = _
  rw [if_pos (by decide +kernel)]
  show PySem.W.mroIn K (c i) (.type "ValueError") = _
  exact ((T.cl i hi).mro _).trans rfl

def EX (c : Nat → Addr) (H : Hp) (a : Addr) (k : Nat) : Prop := k < 19 ∧ ∃ d, H a = some (XO a (c k) d) ∧ ∀ dx, d = some dx → ∃ fs, H dx = some (XD dx fs)
theorem EX.same {H H' : Hp} {a : Addr} {k : Nat} (s : Same H H') (h : EX c H a k) : EX c H' a k :=
  ⟨h.1, let ⟨d, e, r⟩ := h.2; ⟨d, s _ _ e, fun dx z => let ⟨fs, y⟩ := r dx z; ⟨fs, s _ _ y⟩⟩⟩
theorem xis (T : Tx K mg B c) {H : Hp} {Q : VK} {a : Addr} {k j : Nat} (e : EX c H a k) (hj : j < 19) (q : Q (.bl (decide (k = j))) H) : uXis K [.ref a, .ref (c j)] H Q := by
  obtain ⟨hk, d, e, r⟩ := e
  exact ⟨a, c k, B, d, _, _, rfl, e, r, T.cl k hk, .inl rfl, kit_xx T hk hj, q⟩
theorem xisB (T : Tx K mg B c) {H : Hp} {Q : VK} {a : Addr} {k : Nat} (e : EX c H a k) (q : Q (.bl true) H) : uXis K [.ref a, .ref B] H Q := by
  obtain ⟨hk, d, e, r⟩ := e
  exact ⟨a, c k, B, d, _, _, rfl, e, r, T.cl k hk, .inl rfl, kit_xB T hk, q⟩
theorem xisV (T : Tx K mg B c) {H : Hp} {Q : VK} {a : Addr} {k : Nat} (e : EX c H a k) (q : Q (.bl true) H) : uXis K [.ref a, .ty "ValueError"] H Q := by
  obtain ⟨hk, d, e, r⟩ := e
  exact ⟨a, c k, B, d, _, _, rfl, e, r, T.cl k hk, .inr ⟨_, rfl⟩, kit_xV T hk, q⟩

def ISs (c : Nat → Addr) (K : PySem.W.Frag) (σ : L2.St) (a : Addr) (k : Nat) (ta : TA) (bs : List Bool) : Prop := ∀ (H : Hp) (Q : List V → Hp → Prop), EX c H a k → Q (bs.map V.bl) H → ta σ H Q
theorem iss_nil {σ : L2.St} {a : Addr} {k : Nat} : ISs c K σ a k tNil [] := fun _ _ _ q => q
theorem iss_cons (T : Tx K mg B c) {σ : L2.St} {a : Addr} {k i : Nat} {tr : TA} {bs : List Bool} (j : Nat) (hi : σ[i]? = some (some (.ref a))) (hj : j < 19) (r : ISs c K σ a k tr bs) :
    ISs c K σ a k (tCons (tCB (uXis K) (tCons (tVar i) (tCons (tC (.ref (c j))) tNil))) tr) (decide (k = j) :: bs) := fun H Q e q => by
  refine ⟨_, hi, ?_⟩
  show uXis K [.ref a, .ref (c j)] H fun x H1 => tr σ H1 fun xs H2 => Q (x :: xs) H2
  exact xis T e hj (r H _ e q)
theorem iss_lst {σ : L2.St} {a : Addr} {k : Nat} {ta : TA} {bs : List Bool} {H : Hp} {Q : VK} (e : EX c H a k) (r : ISs c K σ a k ta bs) (hn : bs.length ≤ 1000)
    (q : ∀ l H', Same H H' → EX c H' a k → H' l = some (.lst (bs.map V.bl)) → Q (.ref l) H') : tLst ta σ H Q :=
  r H _ e ⟨by rw [List.length_map, PySem.sizeLine_eq]; omega, fun p hp => q p _ (Same.new _ hp) (e.same (Same.new _ hp)) upd_same⟩
theorem iss_plus {σ : L2.St} {a l0 : Addr} {k i : Nat} {ta : TA} {bs cs : List Bool} {H : Hp} {Q : VK} (hi : σ[i]? = some (some (.ref l0))) (e : EX c H a k) (h0 : H l0 = some (.lst (cs.map V.bl))) (r : ISs c K σ a k ta bs) (hn : cs.length + bs.length ≤ 1000)
    (q : ∀ l H', Same H H' → EX c H' a k → H' l = some (.lst ((cs ++ bs).map V.bl)) → Q (.ref l) H') : tOp uAdd (tVar i) (tLst ta) σ H Q := by
  refine ⟨.ref l0, hi, iss_lst e r (by omega) fun l H1 s1 e1 h1 => ⟨_, _, s1 _ _ h0, h1, ?_, fun p hp => ?_⟩⟩
  · rw [List.length_map, List.length_map, PySem.sizeLine_eq]; omega
  · rw [← List.map_append]
    exact q p _ (s1.trans (Same.new _ hp)) (e1.same (Same.new _ hp)) upd_same
theorem cnt19 : ∀ k, k < 19 → ((List.range 19).map fun j => decide (k = j)).count true = 1 := by decide +kernel
theorem idx19 : ∀ k, k < 19 → ((List.range 19).map fun j => decide (k = j)).idxOf true = k := by decide +kernel
theorem mem19 : ∀ k, k < 19 → true ∈ ((List.range 19).map fun j => decide (k = j)) := by decide +kernel

abbrev s_law_which : Stmt := top 27
def sp_which (c : Nat → Addr) : Sp := fun vs H Q _ => ∃ (a : Addr) (k : Nat), vs = [.ref a] ∧ EX c H a k ∧ ∀ H', Same H H' → Q (.int k) H'
theorem sc_law_which : FnScope ["_law_e", "_law_some"] ["_law_e"] (defScope s_law_which) := ⟨rfl, rfl, rfl, by decide +kernel, rfl, by decide +kernel, by decide +kernel⟩
theorem d_law_which (D : Top1 K mg "_law_which" "_law_which" s_law_which ["_law_e"]) (T : Tx K mg B c) : Def P w K mg base "_law_which" 1 ["_law_e"] (sp_which c) := by
  have sc := sc_law_which
  refine D.ok sc (fun vs H Q E h => ?_) (fun f cdv A outer s H vs Q E hr h => ?_)
  · obtain ⟨a, k, rfl, he, q⟩ := h
    rfl
  · obtain ⟨a, k, rfl, he, q⟩ := h
    have hu := hr.units
    refine ⟨_, (pss_cons (ps_st (i := 1) sc.nd rfl (by first | exact Or.inl rfl | exact Or.inr rfl) (pe_lst (pa_c (pe_cB call_xis rfl T.b_isinstance PyProof.Rows.boot_isinstance (pa_c (pv 0) (pa_c (pe_glob (v := .ref (c 0)) rfl T.m_BadMachine rfl) pa_nil))) (pa_c (pe_cB call_xis rfl T.b_isinstance PyProof.Rows.boot_isinstance (pa_c (pv 0) (pa_c (pe_glob (v := .ref (c 1)) rfl T.m_BadDeed rfl) pa_nil))) (pa_c (pe_cB call_xis rfl T.b_isinstance PyProof.Rows.boot_isinstance (pa_c (pv 0) (pa_c (pe_glob (v := .ref (c 2)) rfl T.m_NoText rfl) pa_nil))) (pa_c (pe_cB call_xis rfl T.b_isinstance PyProof.Rows.boot_isinstance (pa_c (pv 0) (pa_c (pe_glob (v := .ref (c 3)) rfl T.m_BadNet rfl) pa_nil))) pa_nil))))))
      (pss_cons (ps_st (i := 1) sc.nd rfl (by first | exact Or.inl rfl | exact Or.inr rfl) (pe_op op_uAdd (pv 1) (pe_lst (pa_c (pe_cB call_xis rfl T.b_isinstance PyProof.Rows.boot_isinstance (pa_c (pv 0) (pa_c (pe_glob (v := .ref (c 4)) rfl T.m_NoLetter rfl) pa_nil))) (pa_c (pe_cB call_xis rfl T.b_isinstance PyProof.Rows.boot_isinstance (pa_c (pv 0) (pa_c (pe_glob (v := .ref (c 5)) rfl T.m_NotFirst rfl) pa_nil))) (pa_c (pe_cB call_xis rfl T.b_isinstance PyProof.Rows.boot_isinstance (pa_c (pv 0) (pa_c (pe_glob (v := .ref (c 6)) rfl T.m_NoCount rfl) pa_nil))) (pa_c (pe_cB call_xis rfl T.b_isinstance PyProof.Rows.boot_isinstance (pa_c (pv 0) (pa_c (pe_glob (v := .ref (c 7)) rfl T.m_NoEvent rfl) pa_nil))) pa_nil)))))))
      (pss_cons (ps_st (i := 1) sc.nd rfl (by first | exact Or.inl rfl | exact Or.inr rfl) (pe_op op_uAdd (pv 1) (pe_lst (pa_c (pe_cB call_xis rfl T.b_isinstance PyProof.Rows.boot_isinstance (pa_c (pv 0) (pa_c (pe_glob (v := .ref (c 8)) rfl T.m_Orphaned rfl) pa_nil))) (pa_c (pe_cB call_xis rfl T.b_isinstance PyProof.Rows.boot_isinstance (pa_c (pv 0) (pa_c (pe_glob (v := .ref (c 9)) rfl T.m_TooMany rfl) pa_nil))) (pa_c (pe_cB call_xis rfl T.b_isinstance PyProof.Rows.boot_isinstance (pa_c (pv 0) (pa_c (pe_glob (v := .ref (c 10)) rfl T.m_NoLine rfl) pa_nil))) (pa_c (pe_cB call_xis rfl T.b_isinstance PyProof.Rows.boot_isinstance (pa_c (pv 0) (pa_c (pe_glob (v := .ref (c 11)) rfl T.m_NoMachine rfl) pa_nil))) pa_nil)))))))
      (pss_cons (ps_st (i := 1) sc.nd rfl (by first | exact Or.inl rfl | exact Or.inr rfl) (pe_op op_uAdd (pv 1) (pe_lst (pa_c (pe_cB call_xis rfl T.b_isinstance PyProof.Rows.boot_isinstance (pa_c (pv 0) (pa_c (pe_glob (v := .ref (c 12)) rfl T.m_NotRow rfl) pa_nil))) (pa_c (pe_cB call_xis rfl T.b_isinstance PyProof.Rows.boot_isinstance (pa_c (pv 0) (pa_c (pe_glob (v := .ref (c 13)) rfl T.m_Busy rfl) pa_nil))) (pa_c (pe_cB call_xis rfl T.b_isinstance PyProof.Rows.boot_isinstance (pa_c (pv 0) (pa_c (pe_glob (v := .ref (c 14)) rfl T.m_NotReached rfl) pa_nil))) (pa_c (pe_cB call_xis rfl T.b_isinstance PyProof.Rows.boot_isinstance (pa_c (pv 0) (pa_c (pe_glob (v := .ref (c 15)) rfl T.m_NoMark rfl) pa_nil))) pa_nil)))))))
      (pss_cons (ps_st (i := 1) sc.nd rfl (by first | exact Or.inl rfl | exact Or.inr rfl) (pe_op op_uAdd (pv 1) (pe_lst (pa_c (pe_cB call_xis rfl T.b_isinstance PyProof.Rows.boot_isinstance (pa_c (pv 0) (pa_c (pe_glob (v := .ref (c 16)) rfl T.m_NoRow rfl) pa_nil))) (pa_c (pe_cB call_xis rfl T.b_isinstance PyProof.Rows.boot_isinstance (pa_c (pv 0) (pa_c (pe_glob (v := .ref (c 17)) rfl T.m_NoName rfl) pa_nil))) (pa_c (pe_cB call_xis rfl T.b_isinstance PyProof.Rows.boot_isinstance (pa_c (pv 0) (pa_c (pe_glob (v := .ref (c 18)) rfl T.m_NoDeed rfl) pa_nil))) pa_nil))))))
      (pss_cons (ps_if (PW.pt (pw_or (pt_not (pt_val (pe_cB call_xis rfl T.b_isinstance PyProof.Rows.boot_isinstance (pa_c (pv 0) (pa_c (pe_glob (v := .ref B) rfl T.m_NetError rfl) pa_nil))))) (pw_or (pt_not (pt_val (pe_cB call_xis rfl T.b_isinstance PyProof.Rows.boot_isinstance (pa_c (pv 0) (pa_c (pe_bltn (v := .ty "ValueError") rfl T.b_ValueError boot_VE rfl) pa_nil))))) (pw_or1 (pt_cmpR (op_uNe hu) (pe_bm PySem.F.plainAttrs_list PySem.F.slot_list_count PySem.F.type_list_count mt_cntB (pv 1) (pa_c pe_bl pa_nil)) pe_int (nomark _)))))) (pss_one (ps_ret pe_non)) pss_nil)
      (pss_one (ps_ret (pe_bm PySem.F.plainAttrs_list PySem.F.slot_list_index PySem.F.type_list_index mt_idxB (pv 1) (pa_c pe_bl pa_nil)))))))))), ?_⟩
    refine seq_asg ?_
    refine iss_lst he (iss_cons T 0 (i := 0) rfl (by decide) (iss_cons T 1 (i := 0) rfl (by decide) (iss_cons T 2 (i := 0) rfl (by decide) (iss_cons T 3 (i := 0) rfl (by decide) iss_nil)))) (by show 4 ≤ 1000; decide) fun l0 H0 s0 he0 e0 => ?_
    refine seq_asg ?_
    refine iss_plus (i := 1) rfl he0 e0 (iss_cons T 4 (i := 0) rfl (by decide) (iss_cons T 5 (i := 0) rfl (by decide) (iss_cons T 6 (i := 0) rfl (by decide) (iss_cons T 7 (i := 0) rfl (by decide) iss_nil)))) (by show 4 + 4 ≤ 1000; decide) fun l1 H1 u1 he1 e1 => ?_
    have s1 := s0.trans u1
    refine seq_asg ?_
    refine iss_plus (i := 1) rfl he1 e1 (iss_cons T 8 (i := 0) rfl (by decide) (iss_cons T 9 (i := 0) rfl (by decide) (iss_cons T 10 (i := 0) rfl (by decide) (iss_cons T 11 (i := 0) rfl (by decide) iss_nil)))) (by show 8 + 4 ≤ 1000; decide) fun l2 H2 u2 he2 e2 => ?_
    have s2 := s1.trans u2
    refine seq_asg ?_
    refine iss_plus (i := 1) rfl he2 e2 (iss_cons T 12 (i := 0) rfl (by decide) (iss_cons T 13 (i := 0) rfl (by decide) (iss_cons T 14 (i := 0) rfl (by decide) (iss_cons T 15 (i := 0) rfl (by decide) iss_nil)))) (by show 12 + 4 ≤ 1000; decide) fun l3 H3 u3 he3 e3 => ?_
    have s3 := s2.trans u3
    refine seq_asg ?_
    refine iss_plus (i := 1) rfl he3 e3 (iss_cons T 16 (i := 0) rfl (by decide) (iss_cons T 17 (i := 0) rfl (by decide) (iss_cons T 18 (i := 0) rfl (by decide) iss_nil))) (by show 16 + 3 ≤ 1000; decide) fun l4 H4 u4 he4 e4 => ?_
    have s4 := s3.trans u4
    have ty : tyV K "list" (.ref l4) H4 := .inl ⟨rfl, _, SqL.of e4⟩
    have hk := he.1
    replace e4 : H4 l4 = some (.lst (((List.range 19).map fun j => decide (k = j)).map V.bl)) := e4
    walk_at "rd"
    refine xisB T he4 ⟨true, rfl, ?_⟩
    rw [if_neg (by decide)]
    refine xisV T he4 ⟨true, rfl, ?_⟩
    rw [if_neg (by decide)]
    refine ⟨ty, _, _, true, rfl, rfl, e4, ?_⟩
    rw [cnt19 k hk]
    refine ⟨rfl, false, rfl, ?_⟩
    rw [if_neg Bool.false_ne_true]
    refine ⟨ty, _, _, true, rfl, rfl, e4, mem19 k hk, by simp, ?_⟩
    rw [idx19 k hk]
    exact q _ s4

abbrev s_law_met : Stmt := top 29
def sp_met (c : Nat → Addr) : Sp := fun vs H Q _ => ∃ (a : Addr) (k : Nat), vs = [.int k, .ref a] ∧ EX c H a k ∧ ∀ H', Same H H' → Q (.bl true) H'
theorem sc_law_met : FnScope ["_law_number_here", "_law_e"] ["_law_number_here", "_law_e"] (defScope s_law_met) := ⟨rfl, rfl, rfl, by decide +kernel, rfl, by decide +kernel, by decide +kernel⟩
theorem d_law_met (D : Top1 K mg "_law_met" "_law_met" s_law_met ["_law_number_here", "_law_e"]) (T : Tx K mg B c) (D_law_which : Def P w K mg base "_law_which" 1 ["_law_e"] (sp_which c)) : Def P w K mg base "_law_met" 2 ["_law_number_here", "_law_e"] (sp_met c) := by
  have sc := sc_law_met
  refine D.ok sc (fun vs H Q E h => ?_) (fun f cdv A outer s H vs Q E hr h => ?_)
  · obtain ⟨a, k, rfl, he, q⟩ := h
    rfl
  · obtain ⟨a, k, rfl, he, q⟩ := h
    have hu := hr.units
    refine ⟨_, (pss_one (ps_ret (pe_cmpR (op_uEq hu) (pe_cf D_law_which hr (pa_c (pv 1) pa_nil)) (pv 0) (nomark _)))), ?_⟩
    walk_at "rd"
    refine ⟨a, k, rfl, he, fun H1 s1 => ?_⟩
    walk_at "rd"
    exact q _ s1
def sp_one (K : PySem.W.Frag) (C : Addr) (f : PySem.Str) : Sp := fun vs H Q _ => ∃ (a B : Addr) (v : V), vs = [.ref a, v] ∧ XCls K C B ∧ NoAttr K C f ∧ H a = some (XO a C none) ∧ ∀ dx, H dx = none → Q .non (upd (upd H a (XO a C (some dx))) dx (XD dx [(f, v)]))

abbrev s_BadDeed : Stmt := (clsBody (top 3)).getD 0 (.Pass ⟨0, 0, 0, 0⟩)

theorem sc_BadDeed : FnScope ["self", "at"] ["self", "at"] (defScope s_BadDeed) := ⟨rfl, rfl, rfl, by decide +kernel, rfl, by decide +kernel, by decide +kernel⟩
theorem d_BadDeed (D : XTop K mg "BadDeed" (c 1) B "BadDeed.__init__" s_BadDeed ["self", "at"]) (T : Tx K mg B c) : XDef P w K mg base "BadDeed" (c 1) B 1 ["self", "at"] (sp_one K (c 1) "at") := by
  have sc := sc_BadDeed
  refine D.ok sc (fun vs H Q E h => ?_) (fun f cdv A outer s H vs Q E hr h => ?_)
  · obtain ⟨a, B, v, rfl, cl, na, ha, q⟩ := h
    rfl
  · obtain ⟨a, B, v, rfl, cl, na, ha, q⟩ := h
    have hu := hr.units
    refine ⟨_, (pss_one (ps_xf0 (pv 0) (pv 1) (no_swap rfl))), ?_⟩
    exact ⟨_, rfl, _, rfl, _, _, _, rfl, ha, cl, na, q⟩

abbrev s_NoLetter : Stmt := (clsBody (top 6)).getD 0 (.Pass ⟨0, 0, 0, 0⟩)

theorem sc_NoLetter : FnScope ["self", "at"] ["self", "at"] (defScope s_NoLetter) := ⟨rfl, rfl, rfl, by decide +kernel, rfl, by decide +kernel, by decide +kernel⟩
theorem d_NoLetter (D : XTop K mg "NoLetter" (c 4) B "NoLetter.__init__" s_NoLetter ["self", "at"]) (T : Tx K mg B c) : XDef P w K mg base "NoLetter" (c 4) B 1 ["self", "at"] (sp_one K (c 4) "at") := by
  have sc := sc_NoLetter
  refine D.ok sc (fun vs H Q E h => ?_) (fun f cdv A outer s H vs Q E hr h => ?_)
  · obtain ⟨a, B, v, rfl, cl, na, ha, q⟩ := h
    rfl
  · obtain ⟨a, B, v, rfl, cl, na, ha, q⟩ := h
    have hu := hr.units
    refine ⟨_, (pss_one (ps_xf0 (pv 0) (pv 1) (no_swap rfl))), ?_⟩
    exact ⟨_, rfl, _, rfl, _, _, _, rfl, ha, cl, na, q⟩

abbrev s_NotFirst : Stmt := (clsBody (top 7)).getD 0 (.Pass ⟨0, 0, 0, 0⟩)

theorem sc_NotFirst : FnScope ["self", "at"] ["self", "at"] (defScope s_NotFirst) := ⟨rfl, rfl, rfl, by decide +kernel, rfl, by decide +kernel, by decide +kernel⟩
theorem d_NotFirst (D : XTop K mg "NotFirst" (c 5) B "NotFirst.__init__" s_NotFirst ["self", "at"]) (T : Tx K mg B c) : XDef P w K mg base "NotFirst" (c 5) B 1 ["self", "at"] (sp_one K (c 5) "at") := by
  have sc := sc_NotFirst
  refine D.ok sc (fun vs H Q E h => ?_) (fun f cdv A outer s H vs Q E hr h => ?_)
  · obtain ⟨a, B, v, rfl, cl, na, ha, q⟩ := h
    rfl
  · obtain ⟨a, B, v, rfl, cl, na, ha, q⟩ := h
    have hu := hr.units
    refine ⟨_, (pss_one (ps_xf0 (pv 0) (pv 1) (no_swap rfl))), ?_⟩
    exact ⟨_, rfl, _, rfl, _, _, _, rfl, ha, cl, na, q⟩

abbrev s_Orphaned : Stmt := (clsBody (top 10)).getD 0 (.Pass ⟨0, 0, 0, 0⟩)

theorem sc_Orphaned : FnScope ["self", "letter"] ["self", "letter"] (defScope s_Orphaned) := ⟨rfl, rfl, rfl, by decide +kernel, rfl, by decide +kernel, by decide +kernel⟩
theorem d_Orphaned (D : XTop K mg "Orphaned" (c 8) B "Orphaned.__init__" s_Orphaned ["self", "letter"]) (T : Tx K mg B c) : XDef P w K mg base "Orphaned" (c 8) B 1 ["self", "letter"] (sp_one K (c 8) "letter") := by
  have sc := sc_Orphaned
  refine D.ok sc (fun vs H Q E h => ?_) (fun f cdv A outer s H vs Q E hr h => ?_)
  · obtain ⟨a, B, v, rfl, cl, na, ha, q⟩ := h
    rfl
  · obtain ⟨a, B, v, rfl, cl, na, ha, q⟩ := h
    have hu := hr.units
    refine ⟨_, (pss_one (ps_xf0 (pv 0) (pv 1) (no_swap rfl))), ?_⟩
    exact ⟨_, rfl, _, rfl, _, _, _, rfl, ha, cl, na, q⟩

abbrev s_NotRow : Stmt := (clsBody (top 14)).getD 0 (.Pass ⟨0, 0, 0, 0⟩)

theorem sc_NotRow : FnScope ["self", "way"] ["self", "way"] (defScope s_NotRow) := ⟨rfl, rfl, rfl, by decide +kernel, rfl, by decide +kernel, by decide +kernel⟩
theorem d_NotRow (D : XTop K mg "NotRow" (c 12) B "NotRow.__init__" s_NotRow ["self", "way"]) (T : Tx K mg B c) : XDef P w K mg base "NotRow" (c 12) B 1 ["self", "way"] (sp_one K (c 12) "way") := by
  have sc := sc_NotRow
  refine D.ok sc (fun vs H Q E h => ?_) (fun f cdv A outer s H vs Q E hr h => ?_)
  · obtain ⟨a, B, v, rfl, cl, na, ha, q⟩ := h
    rfl
  · obtain ⟨a, B, v, rfl, cl, na, ha, q⟩ := h
    have hu := hr.units
    refine ⟨_, (pss_one (ps_xf0 (pv 0) (pv 1) (no_swap rfl))), ?_⟩
    exact ⟨_, rfl, _, rfl, _, _, _, rfl, ha, cl, na, q⟩

abbrev s_NotReached : Stmt := (clsBody (top 16)).getD 0 (.Pass ⟨0, 0, 0, 0⟩)

theorem sc_NotReached : FnScope ["self", "machine"] ["self", "machine"] (defScope s_NotReached) := ⟨rfl, rfl, rfl, by decide +kernel, rfl, by decide +kernel, by decide +kernel⟩
theorem d_NotReached (D : XTop K mg "NotReached" (c 14) B "NotReached.__init__" s_NotReached ["self", "machine"]) (T : Tx K mg B c) : XDef P w K mg base "NotReached" (c 14) B 1 ["self", "machine"] (sp_one K (c 14) "machine") := by
  have sc := sc_NotReached
  refine D.ok sc (fun vs H Q E h => ?_) (fun f cdv A outer s H vs Q E hr h => ?_)
  · obtain ⟨a, B, v, rfl, cl, na, ha, q⟩ := h
    rfl
  · obtain ⟨a, B, v, rfl, cl, na, ha, q⟩ := h
    have hu := hr.units
    refine ⟨_, (pss_one (ps_xf0 (pv 0) (pv 1) (no_swap rfl))), ?_⟩
    exact ⟨_, rfl, _, rfl, _, _, _, rfl, ha, cl, na, q⟩

def IT (c : Nat → Addr) (H : Hp) (v : V) : Prop := ∃ (t a : Addr) (n : Nat), v = .ref t ∧ H t = some (.tup [.int n, .ref a]) ∧ EX c H a n
theorem IT.same {H H' : Hp} {v : V} (s : Same H H') (h : IT c H v) : IT c H' v := let ⟨t, a, n, e, ht, hx⟩ := h; ⟨t, a, n, e, s _ _ ht, hx.same s⟩
def AIT (c : Nat → Addr) (H : Hp) : List V → Prop
  | [] => True
  | v :: r => IT c H v ∧ AIT c H r
theorem AIT.same {H H' : Hp} (s : Same H H') : ∀ {xs : List V}, AIT c H xs → AIT c H' xs
  | [], _ => trivial
  | _ :: _, h => ⟨h.1.same s, AIT.same s h.2⟩
theorem AIT.app {H : Hp} {ys : List V} (h' : AIT c H ys) : ∀ {xs : List V}, AIT c H xs → AIT c H (xs ++ ys)
  | [], _ => h'
  | _ :: _, h => ⟨h.1, AIT.app h' h.2⟩
theorem AIT.at {H : Hp} : ∀ {xs : List V} {i : Nat} {v : V}, AIT c H xs → xs[i]? = some v → IT c H v
  | _ :: _, 0, _, h, e => by simp at e; subst e; exact h.1
  | _ :: _, i + 1, _, h, e => AIT.at (i := i) h.2 (by simpa using e)
  | [], _, _, _, e => by simp at e
theorem mk_it {H : Hp} {a t : Addr} {n : Nat} (hn : n < 19) (ha : H a = none) (ht : (upd H a (XO a (c n) none)) t = none) :
    IT c (upd (upd H a (XO a (c n) none)) t (.tup [.int n, .ref a])) (.ref t) ∧ Same H (upd (upd H a (XO a (c n) none)) t (.tup [.int n, .ref a])) := by
  have s1 : Same H (upd H a (XO a (c n) none)) := Same.new _ ha
  have s2 : Same (upd H a (XO a (c n) none)) (upd (upd H a (XO a (c n) none)) t (.tup [.int n, .ref a])) := Same.new _ ht
  exact ⟨⟨t, a, n, rfl, upd_same, hn, none, s2 _ _ upd_same, fun dx z => by cases z⟩, s1.trans s2⟩

def ITs (c : Nat → Addr) (σ : L2.St) (ta : TA) (n : Nat) : Prop := ∀ (H : Hp) (Q : List V → Hp → Prop), (∀ vs H', Same H H' → vs.length = n → AIT c H' vs → Q vs H') → ta σ H Q
theorem its_nil {σ : L2.St} : ITs c σ tNil 0 := fun H Q q => q [] H (fun _ _ e => e) rfl trivial
theorem its_any {σ : L2.St} {ta tr : TA} {n m : Nat} {z : Int} (hz : z = (n : Int)) (hn : n < 19) (h : ∀ (H : Hp) (Q : List V → Hp → Prop), (∀ vs, vs.length ≤ 1 → Q vs H) → ta σ H Q) (r : ITs c σ tr m) :
    ITs c σ (tCons (tTup (tCons (tC (.int z)) (tCons (tX0 (c n) ta) tNil))) tr) (m + 1) := by
  subst hz
  intro H Q q
  refine h H _ fun vs hv => ⟨hv, fun a ha => ⟨by show 2 ≤ sizeLine; decide, fun t ht => ?_⟩⟩
  obtain ⟨i1, s1⟩ := mk_it hn ha ht
  exact r _ _ fun vs H' s2 hl ai => q (.ref t :: vs) H' (s1.trans s2) (by rw [List.length_cons, hl]) ⟨i1.same s2, ai⟩
theorem its_0 (n : Nat) {σ : L2.St} {tr : TA} {m : Nat} {z : Int} (hz : z = (n : Int)) (hn : n < 19) (r : ITs c σ tr m) : ITs c σ (tCons (tTup (tCons (tC (.int z)) (tCons (tX0 (c n) tNil) tNil))) tr) (m + 1) :=
  its_any hz hn (fun H Q q => q [] (Nat.zero_le _)) r
theorem its_1 (n : Nat) {σ : L2.St} {tr : TA} {m i : Nat} {z : Int} {v : V} (hi : σ[i]? = some (some v)) (hz : z = (n : Int)) (hn : n < 19) (r : ITs c σ tr m) : ITs c σ (tCons (tTup (tCons (tC (.int z)) (tCons (tX0 (c n) (tCons (tVar i) tNil)) tNil))) tr) (m + 1) :=
  its_any hz hn (fun H Q q => ⟨v, hi, q [v] (Nat.le_refl _)⟩) r
theorem its_lst {σ : L2.St} {ta : TA} {n : Nat} {H : Hp} {Q : VK} (r : ITs c σ ta n) (hn : n ≤ 1000) (q : ∀ l xs H', Same H H' → xs.length = n → H' l = some (.lst xs) → AIT c H' xs → Q (.ref l) H') : tLst ta σ H Q := by
  refine r H _ fun vs H' s1 hl ai => ⟨by rw [hl, PySem.sizeLine_eq]; omega, fun p hp => ?_⟩
  have s2 : Same H' (upd H' p (.lst vs)) := Same.new _ hp
  exact q p vs _ (s1.trans s2) hl upd_same (ai.same s2)
theorem its_plus {σ : L2.St} {ta : TA} {n i m : Nat} {H : Hp} {Q : VK} {l0 : Addr} {ys : List V} (hi : σ[i]? = some (some (.ref l0))) (h0 : H l0 = some (.lst ys)) (hm : ys.length = m) (a0 : AIT c H ys) (r : ITs c σ ta n) (hn : m + n ≤ 1000)
    (q : ∀ l xs H', Same H H' → xs.length = m + n → H' l = some (.lst xs) → AIT c H' xs → Q (.ref l) H') : tOp uAdd (tVar i) (tLst ta) σ H Q := by
  refine ⟨.ref l0, hi, its_lst r (by omega) fun l xs H1 s1 hl h1 a1 => ?_⟩
  refine ⟨ys, xs, s1 _ _ h0, h1, by rw [hm, hl, PySem.sizeLine_eq]; omega, fun p hp => ?_⟩
  have s2 : Same H1 (upd H1 p (.lst (ys ++ xs))) := Same.new _ hp
  exact q p _ _ (s1.trans s2) (by rw [List.length_append, hm, hl]) upd_same (AIT.app (a1.same s2) ((a0.same s1).same s2))

abbrev s_NoLine : Stmt := (clsBody (top 12)).getD 0 (.Pass ⟨0, 0, 0, 0⟩)
def sp_noline (K : PySem.W.Frag) (C : Addr) : Sp := fun vs H Q _ => ∃ (a B l : Addr) (xs : List V) (v : V), vs = [.ref a, .ref l, v] ∧ XCls K C B ∧ NoAttr K C "falls" ∧ NoAttr K C "letter" ∧ H a = some (XO a C none) ∧ H l = some (.lst xs) ∧
    ∀ p dx fs H', H' a = some (XO a C (some dx)) → H' dx = some (XD dx fs) → fs.lookup ("falls" : PySem.Str) = some (.ref p) → fs.lookup ("letter" : PySem.Str) = some v → H' p = some (.lst xs) → (∀ b o, H b = some o → b ≠ a → H' b = some o) → Q .non H'
theorem sc_NoLine : FnScope ["self", "falls", "letter"] ["self", "falls", "letter"] (defScope s_NoLine) := ⟨rfl, rfl, rfl, by decide +kernel, rfl, by decide +kernel, by decide +kernel⟩
theorem d_NoLine (D : XTop K mg "NoLine" (c 10) B "NoLine.__init__" s_NoLine ["self", "falls", "letter"]) (T : Tx K mg B c) : XDef P w K mg base "NoLine" (c 10) B 1 ["self", "falls", "letter"] (sp_noline K (c 10)) := by
  have sc := sc_NoLine
  refine D.ok sc (fun vs H Q E h => ?_) (fun f cdv A outer s H vs Q E hr h => ?_)
  · obtain ⟨a, B, l, xs, v, rfl, cl, nf, nl, ha, hl, q⟩ := h
    rfl
  · obtain ⟨a, B, l, xs, v, rfl, cl, nf, nl, ha, hl, q⟩ := h
    have hu := hr.units
    refine ⟨_, (pss_cons (ps_xf0 (pv 0) (pe_cT call_ulist rfl T.b_list PyProof.Rows.boot_list (pa_c (pv 1) pa_nil)) (no_swap rfl))
      (pss_one (ps_xf1 (pv 0) (pv 2) (no_swap rfl)))), ?_⟩
    walk_at "rd"
    simp only [sXF0, sXF1, tVar, cx_K, cxOf_K, nox_K]
    walk_at "rd"
    refine ⟨xs, .inl (SqL.of hl), fun p hp => ?_⟩
    have hpa : a ≠ p := ne_of_none ha hp
    refine ⟨a, c 10, B, rfl, by rw [upd_ne hpa]; exact ha, cl, nf, fun dx hdx => ?_⟩
    have hda : a ≠ dx := ne_of_none (show upd H p (.lst xs) a = some _ by rw [upd_ne hpa]; exact ha) hdx
    have hdp : dx ≠ p := fun z => by subst z; rw [upd_same] at hdx; cases hdx
    refine ⟨a, c 10, B, dx, _, rfl, by rw [upd_ne hda, upd_same], upd_same, cl, nl, by show 1 < 1000; decide, ?_⟩
    refine q p dx _ _ (by rw [upd_ne hda, upd_ne hda, upd_same]) upd_same ?_ ?_ ?_ ?_
    · rw [lookup_putF, if_neg (by decide +kernel)]; simp only [List.lookup, beq_self_eq_true]
    · rw [lookup_putF, if_pos rfl]
    · rw [upd_ne (Ne.symm hdp), upd_ne (Ne.symm hdp), upd_ne (Ne.symm hpa), upd_same]
    · intro b o e nb
      have hbp := ne_of_none e hp
      have hbd : b ≠ dx := ne_of_none (show upd H p (.lst xs) b = some o by rw [upd_ne hbp]; exact e) hdx
      rw [upd_ne hbd, upd_ne hbd, upd_ne nb, upd_ne hbp]; exact e

abbrev s_law_plain : Stmt := top 28
def sp_plain (c : Nat → Addr) : Sp := fun vs H Q _ => ∃ x, vs = [.str x] ∧ ∀ l xs H', Same H H' → xs.length = 24 → H' l = some (.lst xs) → AIT c H' xs → Q (.ref l) H'
theorem sc_law_plain : FnScope ["_law_text_here", "_law_made"] ["_law_text_here"] (defScope s_law_plain) := ⟨rfl, rfl, rfl, by decide +kernel, rfl, by decide +kernel, by decide +kernel⟩
theorem d_law_plain (D : Top1 K mg "_law_plain" "_law_plain" s_law_plain ["_law_text_here"]) (T : Tx K mg B c) : Def P w K mg base "_law_plain" 1 ["_law_text_here"] (sp_plain c) := by
  have sc := sc_law_plain
  refine D.ok sc (fun vs H Q E h => ?_) (fun f cdv A outer s H vs Q E hr h => ?_)
  · obtain ⟨x, rfl, q⟩ := h
    rfl
  · obtain ⟨x, rfl, q⟩ := h
    have hu := hr.units
    refine ⟨_, (pss_cons (ps_st (i := 1) sc.nd rfl (by first | exact Or.inl rfl | exact Or.inr rfl) (pe_lst (pa_c (pe_tup (pa_c pe_int (pa_c (pe_x0 T.x_BadMachine) pa_nil))) (pa_c (pe_tup (pa_c pe_int (pa_c (pe_x1 T.x_BadMachine (pa_c (pv 0) pa_nil)) pa_nil))) (pa_c (pe_tup (pa_c pe_int (pa_c (pe_x0 T.x_NoText) pa_nil))) (pa_c (pe_tup (pa_c pe_int (pa_c (pe_x1 T.x_NoText (pa_c (pv 0) pa_nil)) pa_nil))) (pa_c (pe_tup (pa_c pe_int (pa_c (pe_x0 T.x_BadNet) pa_nil))) pa_nil)))))))
      (pss_cons (ps_st (i := 1) sc.nd rfl (by first | exact Or.inl rfl | exact Or.inr rfl) (pe_op op_uAdd (pv 1) (pe_lst (pa_c (pe_tup (pa_c pe_int (pa_c (pe_x1 T.x_BadNet (pa_c (pv 0) pa_nil)) pa_nil))) (pa_c (pe_tup (pa_c pe_int (pa_c (pe_x0 T.x_NoCount) pa_nil))) (pa_c (pe_tup (pa_c pe_int (pa_c (pe_x1 T.x_NoCount (pa_c (pv 0) pa_nil)) pa_nil))) (pa_c (pe_tup (pa_c pe_int (pa_c (pe_x0 T.x_NoEvent) pa_nil))) (pa_c (pe_tup (pa_c pe_int (pa_c (pe_x1 T.x_NoEvent (pa_c (pv 0) pa_nil)) pa_nil))) pa_nil))))))))
      (pss_cons (ps_st (i := 1) sc.nd rfl (by first | exact Or.inl rfl | exact Or.inr rfl) (pe_op op_uAdd (pv 1) (pe_lst (pa_c (pe_tup (pa_c pe_int (pa_c (pe_x0 T.x_TooMany) pa_nil))) (pa_c (pe_tup (pa_c pe_int (pa_c (pe_x1 T.x_TooMany (pa_c (pv 0) pa_nil)) pa_nil))) (pa_c (pe_tup (pa_c pe_int (pa_c (pe_x0 T.x_NoMachine) pa_nil))) (pa_c (pe_tup (pa_c pe_int (pa_c (pe_x1 T.x_NoMachine (pa_c (pv 0) pa_nil)) pa_nil))) pa_nil)))))))
      (pss_cons (ps_st (i := 1) sc.nd rfl (by first | exact Or.inl rfl | exact Or.inr rfl) (pe_op op_uAdd (pv 1) (pe_lst (pa_c (pe_tup (pa_c pe_int (pa_c (pe_x0 T.x_Busy) pa_nil))) (pa_c (pe_tup (pa_c pe_int (pa_c (pe_x1 T.x_Busy (pa_c (pv 0) pa_nil)) pa_nil))) pa_nil)))))
      (pss_cons (ps_st (i := 1) sc.nd rfl (by first | exact Or.inl rfl | exact Or.inr rfl) (pe_op op_uAdd (pv 1) (pe_lst (pa_c (pe_tup (pa_c pe_int (pa_c (pe_x0 T.x_NoMark) pa_nil))) (pa_c (pe_tup (pa_c pe_int (pa_c (pe_x1 T.x_NoMark (pa_c (pv 0) pa_nil)) pa_nil))) (pa_c (pe_tup (pa_c pe_int (pa_c (pe_x0 T.x_NoRow) pa_nil))) (pa_c (pe_tup (pa_c pe_int (pa_c (pe_x1 T.x_NoRow (pa_c (pv 0) pa_nil)) pa_nil))) (pa_c (pe_tup (pa_c pe_int (pa_c (pe_x0 T.x_NoName) pa_nil))) pa_nil))))))))
      (pss_one (ps_ret (pe_op op_uAdd (pv 1) (pe_lst (pa_c (pe_tup (pa_c pe_int (pa_c (pe_x1 T.x_NoName (pa_c (pv 0) pa_nil)) pa_nil))) (pa_c (pe_tup (pa_c pe_int (pa_c (pe_x0 T.x_NoDeed) pa_nil))) (pa_c (pe_tup (pa_c pe_int (pa_c (pe_x1 T.x_NoDeed (pa_c (pv 0) pa_nil)) pa_nil))) pa_nil)))))))))))), ?_⟩
    refine seq_asg ?_
    refine its_lst (its_0 0 rfl (by decide) (its_1 0 (i := 0) rfl rfl (by decide) (its_0 2 rfl (by decide) (its_1 2 (i := 0) rfl rfl (by decide) (its_0 3 rfl (by decide) its_nil))))) (by decide) fun l0 xs0 H0 s0 n0 e0 a0 => ?_
    have t0 : Same H H0 := s0
    refine seq_asg ?_
    refine its_plus (i := 1) rfl e0 n0 a0 (its_1 3 (i := 0) rfl rfl (by decide) (its_0 6 rfl (by decide) (its_1 6 (i := 0) rfl rfl (by decide) (its_0 7 rfl (by decide) (its_1 7 (i := 0) rfl rfl (by decide) its_nil))))) (by decide) fun l1 xs1 H1 s1 n1 e1 a1 => ?_
    have t1 : Same H H1 := t0.trans s1
    refine seq_asg ?_
    refine its_plus (i := 1) rfl e1 n1 a1 (its_0 9 rfl (by decide) (its_1 9 (i := 0) rfl rfl (by decide) (its_0 11 rfl (by decide) (its_1 11 (i := 0) rfl rfl (by decide) its_nil)))) (by decide) fun l2 xs2 H2 s2 n2 e2 a2 => ?_
    have t2 : Same H H2 := t1.trans s2
    refine seq_asg ?_
    refine its_plus (i := 1) rfl e2 n2 a2 (its_0 13 rfl (by decide) (its_1 13 (i := 0) rfl rfl (by decide) its_nil)) (by decide) fun l3 xs3 H3 s3 n3 e3 a3 => ?_
    have t3 : Same H H3 := t2.trans s3
    refine seq_asg ?_
    refine its_plus (i := 1) rfl e3 n3 a3 (its_0 15 rfl (by decide) (its_1 15 (i := 0) rfl rfl (by decide) (its_0 16 rfl (by decide) (its_1 16 (i := 0) rfl rfl (by decide) (its_0 17 rfl (by decide) its_nil))))) (by decide) fun l4 xs4 H4 s4 n4 e4 a4 => ?_
    have t4 : Same H H4 := t3.trans s4
    show tOp uAdd (tVar 1) (tLst _) _ _ _
    refine its_plus (i := 1) rfl e4 n4 a4 (its_1 17 (i := 0) rfl rfl (by decide) (its_0 18 rfl (by decide) (its_1 18 (i := 0) rfl rfl (by decide) its_nil))) (by decide) fun l5 xs5 H5 s5 n5 e5 a5 => ?_
    have t5 : Same H H5 := t4.trans s5
    exact q _ _ _ t5 n5 e5 a5

def EXF (c : Nat → Addr) (H : Hp) (a : Addr) (k : Nat) (f : PySem.Str) (v : V) : Prop := k < 19 ∧ ∃ dx fs, H a = some (XO a (c k) (some dx)) ∧ H dx = some (XD dx fs) ∧ fs.lookup f = some v
theorem EXF.same {H H' : Hp} {a : Addr} {k : Nat} {f : PySem.Str} {v : V} (s : Same H H') (h : EXF c H a k f v) : EXF c H' a k f v := let ⟨hk, dx, fs, e1, e2, l⟩ := h; ⟨hk, dx, fs, s _ _ e1, s _ _ e2, l⟩
theorem EXF.ex {H : Hp} {a : Addr} {k : Nat} {f : PySem.Str} {v : V} (h : EXF c H a k f v) : EX c H a k := let ⟨hk, dx, fs, e1, e2, l⟩ := h; ⟨hk, some dx, e1, fun d z => by cases z; exact ⟨fs, e2⟩⟩
theorem do_xi (T : Tx K mg B c) {ta : TA} {σ : L2.St} {H : Hp} {Q : VK} {k : Nat} {f : PySem.Str} (v : V) (hk : k < 19) (na : NoAttr K (c k) f) (ht : ∀ R : List V → Hp → Prop, R [v] H → ta σ H R)
    (q : ∀ a H', Same H H' → EXF c H' a k f v → Q (.ref a) H') : tXI (c k) (sp_one K (c k) f) E0 ta σ H Q := by
  refine ht _ ⟨by show 1 ≤ 10; decide, fun a ha => ⟨a, B, v, rfl, T.cl k hk, na, upd_same, fun dx hdx => ⟨rfl, ?_⟩⟩⟩
  have had : a ≠ dx := fun z => by subst z; rw [upd_same] at hdx; cases hdx
  refine q a _ (fun b o e => ?_) ⟨hk, dx, _, by rw [upd_ne had, upd_same], upd_same, by simp only [List.lookup, beq_self_eq_true]⟩
  have hba := ne_of_none e ha
  have hbd : b ≠ dx := fun z => by subst z; rw [upd_ne hba, e] at hdx; cases hdx
  rw [upd_ne hbd, upd_ne hba, upd_ne hba]; exact e
theorem do_xf (T : Tx K mg B c) {ta : TE} {σ : L2.St} {H : Hp} {Q : VK} {a : Addr} {k : Nat} {f : PySem.Str} {v : V} (na : NoAttr K (c k) f) (x : EXF c H a k f v) (ht : ∀ R : VK, R (.ref a) H → ta σ H R) (q : Q v H) : tXF K ta f σ H Q := by
  obtain ⟨hk, dx, fs, e1, e2, l⟩ := x
  exact ht _ ⟨a, c k, B, dx, fs, v, rfl, e1, e2, T.cl k hk, na, l, q⟩

abbrev s_law_with_number : Stmt := top 30
def sp_wn : Sp := fun vs H Q _ => ∃ p, vs = [.ref p] ∧ PotB H p ∧ ∀ H', St p H H' → Q (.bl true) H'
theorem sc_law_with_number : FnScope ["_law_pot_here", "_law_number_here", "_law_made", "_law_one", "_law_other"] ["_law_pot_here"] (defScope s_law_with_number) := ⟨rfl, rfl, rfl, by decide +kernel, rfl, by decide +kernel, by decide +kernel⟩
theorem d_law_with_number (D : Top1 K mg "_law_with_number" "_law_with_number" s_law_with_number ["_law_pot_here"]) (T : Tx K mg B c) (D_law_met : Def P w K mg base "_law_met" 2 ["_law_number_here", "_law_e"] (sp_met c)) (D_law_number : Def P w K mg base "_law_number" 2 ["_law_pot_here"] sp_number) (D_BadDeed : XDef P w K mg base "BadDeed" (c 1) B 1 ["self", "at"] (sp_one K (c 1) "at")) (D_NoLetter : XDef P w K mg base "NoLetter" (c 4) B 1 ["self", "at"] (sp_one K (c 4) "at")) (D_NotFirst : XDef P w K mg base "NotFirst" (c 5) B 1 ["self", "at"] (sp_one K (c 5) "at")) (D_NotReached : XDef P w K mg base "NotReached" (c 14) B 1 ["self", "machine"] (sp_one K (c 14) "machine")) (D_NotRow : XDef P w K mg base "NotRow" (c 12) B 1 ["self", "way"] (sp_one K (c 12) "way")) : Def P w K mg base "_law_with_number" 3 ["_law_pot_here"] sp_wn := by
  have sc := sc_law_with_number
  refine D.ok sc (fun vs H Q E h => ?_) (fun f cdv A outer s H vs Q E hr h => ?_)
  · obtain ⟨p, rfl, hp, q⟩ := h
    rfl
  · obtain ⟨p, rfl, hp, q⟩ := h
    have hu := hr.units
    refine ⟨_, (pss_cons (ps_for PassesOwn.never rfl (pi_seq (pe_lst (pa_c pe_int (pa_c (pe_cf D_law_number hr (pa_c (pv 0) pa_nil)) (pa_c (pe_cf D_law_number hr (pa_c (pv 0) pa_nil)) pa_nil))))) (pg_name (i := 1) sc.nd rfl (by first | exact Or.inl rfl | exact Or.inr rfl))
      (pss_cons (ps_st (i := 2) sc.nd rfl (by first | exact Or.inl rfl | exact Or.inr rfl) (pe_lst (pa_c (pe_tup (pa_c pe_int (pa_c (pe_xi D_BadDeed hr (pa_c (pv 1) pa_nil)) pa_nil))) (pa_c (pe_tup (pa_c pe_int (pa_c (pe_xi D_NoLetter hr (pa_c (pv 1) pa_nil)) pa_nil))) (pa_c (pe_tup (pa_c pe_int (pa_c (pe_xi D_NotFirst hr (pa_c (pv 1) pa_nil)) pa_nil))) pa_nil)))))
      (pss_cons (ps_if (pt_not (pt_val (pe_cB (call_uall rfl) rfl T.b_all PyProof.Rows.boot_all (pa_c (pe_lc (N' := ["_law_k", "_law_e", "_law_number_here"]) (ix := [none, none, some 1]) rfl (by kernel_rfl) rfl (by kernel_rfl) (pi_seq (pv 2)) (fun _ _ _ _ => (pg_twoK (K := K) rfl (i := 0) (j := 1) rfl (show (["_law_k", "_law_e", "_law_number_here"] : List PySem.Str).Nodup by decide +kernel) rfl rfl (by first | exact Or.inl rfl | exact Or.inr rfl) (by first | exact Or.inl rfl | exact Or.inr rfl))) (fun _ _ _ _ => pts_nil) (fun _ _ _ _ => (pe_and (pe_cmpR (op_uEqK (K := K) rfl hu) (pe_xfK (K := K) rfl (pv 1)) (pv 2) (nomark _)) (pe_one (pe_cf D_law_met hr (pa_c (pv 0) (pa_c (pv 1) pa_nil))))))) pa_nil)))) (pss_one (ps_ret pe_bl)) pss_nil)
      (pss_cons (ps_par (i := 3) (j := 4) rfl sc.nd rfl rfl (by decide) rfl rfl (pa_c (pe_xi D_NotRow hr (pa_c (pv 1) pa_nil)) (pa_c (pe_xi D_NotReached hr (pa_c (pv 1) pa_nil)) pa_nil)) (by rfl))
      (pss_one (ps_if (PW.pt (pw_or (pt_cmpR (op_uNe hu) (pe_xf (pv 3)) (pv 1) (nomark _)) (pw_or (pt_not (pt_val (pe_cf D_law_met hr (pa_c pe_int (pa_c (pv 3) pa_nil))))) (pw_or (pt_cmpR (op_uNe hu) (pe_xf (pv 4)) (pv 1) (nomark _)) (pw_or1 (pt_not (pt_val (pe_cf D_law_met hr (pa_c pe_int (pa_c (pv 4) pa_nil)))))))))) (pss_one (ps_ret pe_bl)) pss_nil))))))
      (pss_one (ps_ret pe_bl))), ?_⟩
    walk_at "rd"
    refine ⟨_, rfl, p, rfl, hp, fun n1 H1 h1 st1 => ⟨_, rfl, p, rfl, st1.pot, fun n2 H2 h2 st2 => ⟨by show 3 ≤ sizeLine; decide, fun l hl => ?_⟩⟩⟩
    have hlp : l ≠ p := St.ne st2.pot hl
    refine .inl ⟨⟨_, SqL.of upd_same⟩, for_list (K := K) (xs := [.int 0, .int n1, .int n2]) (fun i σ H' => (∃ a1 a2 a3 a4, σ = [some (.ref p), a1, a2, a3, a4]) ∧ St p H H' ∧ H' l = some (.lst [.int 0, .int n1, .int n2])) ?_ ?_ ?_ ?_⟩
    · exact ⟨⟨_, _, _, _, rfl⟩, (st1.trans st2).new hl, upd_same⟩
    · rintro i σ H' hi ⟨_, _, e⟩
      exact SqL.of e
    · rintro i x σ H' hx ⟨⟨b1, b2, b3, b4, rfl⟩, st, e⟩
      obtain ⟨n, rfl⟩ : ∃ n : Int, x = .int n := by
        match i, hx with
        | 0, hx => exact ⟨_, by simpa using hx.symm⟩
        | 1, hx => exact ⟨_, by simpa using hx.symm⟩
        | 2, hx => exact ⟨_, by simpa using hx.symm⟩
      walk_at "rd"
      refine do_xi T (.int n) (by decide) T.n_BadDeed_at (fun R r => ⟨_, rfl, r⟩) fun a1 G1 s1 x1 => ⟨by decide, fun t1 ht1 => ?_⟩
      have u1 : Same G1 (upd G1 t1 (.tup [.int 1, .ref a1])) := Same.new _ ht1
      have f1 : (upd G1 t1 (.tup [.int 1, .ref a1])) t1 = some (.tup [.int 1, .ref a1]) := upd_same
      replace x1 := x1.same u1
      generalize upd G1 t1 (.tup [.int 1, .ref a1]) = K1 at *
      refine do_xi T (.int n) (by decide) T.n_NoLetter_at (fun R r => ⟨_, rfl, r⟩) fun a2 G2 s2 x2 => ⟨by decide, fun t2 ht2 => ?_⟩
      have u2 : Same G2 (upd G2 t2 (.tup [.int 4, .ref a2])) := Same.new _ ht2
      have f2 : (upd G2 t2 (.tup [.int 4, .ref a2])) t2 = some (.tup [.int 4, .ref a2]) := upd_same
      replace x2 := x2.same u2
      generalize upd G2 t2 (.tup [.int 4, .ref a2]) = K2 at *
      refine do_xi T (.int n) (by decide) T.n_NotFirst_at (fun R r => ⟨_, rfl, r⟩) fun a3 G3 s3 x3 => ⟨by decide, fun t3 ht3 => ?_⟩
      have u3 : Same G3 (upd G3 t3 (.tup [.int 5, .ref a3])) := Same.new _ ht3
      have f3 : (upd G3 t3 (.tup [.int 5, .ref a3])) t3 = some (.tup [.int 5, .ref a3]) := upd_same
      replace x3 := x3.same u3
      generalize upd G3 t3 (.tup [.int 5, .ref a3]) = K3 at *
      have v1 : Same K1 K3 := (s2.trans u2).trans (s3.trans u3)
      have v2 : Same K2 K3 := s3.trans u3
      refine ⟨by decide, fun m hm => ?_⟩
      have s4 : Same K3 (upd K3 m (.lst [.ref t1, .ref t2, .ref t3])) := Same.new _ hm
      have f4 : (upd K3 m (.lst [.ref t1, .ref t2, .ref t3])) m = some (.lst [.ref t1, .ref t2, .ref t3]) := upd_same
      have sK : Same H' (upd K3 m (.lst [.ref t1, .ref t2, .ref t3])) := ((s1.trans u1).trans v1).trans s4
      have I : ∀ (i : Nat) (x : V), ([V.ref t1, V.ref t2, V.ref t3] : List V)[i]? = some x → ∃ (t a : Addr) (k : Nat), x = V.ref t ∧ (upd K3 m (.lst [.ref t1, .ref t2, .ref t3])) t = some (.tup [.int k, .ref a]) ∧ EXF c (upd K3 m (.lst [.ref t1, .ref t2, .ref t3])) a k "at" (.int n) ∧ NoAttr K (c k) "at" := by
        intro i x hx
        match i, hx with
        | 0, hx => exact ⟨t1, a1, 1, by simpa using hx.symm, s4 _ _ (v1 _ _ f1), (x1.same v1).same s4, T.n_BadDeed_at⟩
        | 1, hx => exact ⟨t2, a2, 4, by simpa using hx.symm, s4 _ _ (v2 _ _ f2), (x2.same v2).same s4, T.n_NoLetter_at⟩
        | 2, hx => exact ⟨t3, a3, 5, by simpa using hx.symm, s4 _ _ f3, x3.same s4, T.n_NotFirst_at⟩
      generalize upd K3 m (.lst [.ref t1, .ref t2, .ref t3]) = K4 at *
      refine do_tLc ?_
      walk_at "rd"
      refine .inl ⟨⟨_, SqL.of f4⟩, fun D hD => ?_⟩
      refine lc_turns (J := Itl K m) (n := 3) (fun i ys H' => ys = List.replicate i (V.bl true) ∧ Same K4 H') (by decide) ⟨rfl, Same.new _ hD⟩ ?_ ?_ ?_ ?_
      · rintro i ys H5 hi ⟨_, s5⟩
        exact ⟨_, ([V.ref t1, V.ref t2, V.ref t3] : List V)[i], SqL.of (s5 _ _ f4), List.getElem?_eq_getElem hi⟩
      · rintro ys H5 ⟨_, s5⟩
        exact ⟨_, SqL.of (s5 _ _ f4), Nat.le_refl _⟩
      · rintro i ys H5 hi hys hl ⟨rfl, s5⟩ x H6 ⟨rfl, hy⟩
        have ex := hy _ (SqL.of (s5 _ _ f4))
        obtain ⟨t, a, k, rfl, ht, xa, na⟩ := I i x ex
        refine ⟨t, _, rfl, SqT.of (s5 _ _ ht), rfl, ?_⟩
        refine ⟨_, _, rfl, _, _, rfl, rfl, ?_⟩
        refine ⟨Ext.set (Ext.set (Ext.refl _) rfl) rfl, ?_⟩
        walk_at "rd"
        rw [if_pos trivial]
        refine do_xf T na (xa.same s5) (fun R r => ⟨_, rfl, r⟩) ?_
        walk_at "rd"
        rw [if_pos (by decide)]
        refine ⟨a, k, rfl, (xa.same s5).ex, fun H7 s7 => ?_⟩
        refine lc_put (s7 _ _ hys) hl hi (by decide) ⟨rep_snoc _ _, fun b o e => ?_⟩
        rw [upd_ne (ne_of_none e hD)]
        exact s7 _ _ (s5 _ _ e)
      · rintro ys H5 hys hl ⟨rfl, s5⟩
        rw [rep_bl] at hys
        refine ⟨_, SqL.of hys, ?_⟩
        refine ⟨true, rfl, ?_⟩
        rw [if_neg (by decide)]
        simp only [tPar, tCons, tNil]
        refine do_xi T (.int n) (by decide) T.n_NotRow_way (fun R r => ⟨_, rfl, r⟩) fun a4 G4 s6 x4 => ?_
        refine do_xi T (.int n) (by decide) T.n_NotReached_machine (fun R r => ⟨_, rfl, r⟩) fun a5 G5 s7 x5 => ?_
        refine ⟨_, _, rfl, ?_⟩
        walk_at "rd"
        refine do_xf T T.n_NotRow_way (x4.same s7) (fun R r => ⟨_, rfl, r⟩) ?_
        walk_at "rd"
        rw [if_neg (by decide)]
        refine ⟨a4, 12, rfl, (x4.same s7).ex, fun G6 s8 => ⟨true, rfl, ?_⟩⟩
        rw [if_neg (by decide)]
        refine do_xf T T.n_NotReached_machine (x5.same s8) (fun R r => ⟨_, rfl, r⟩) ?_
        walk_at "rd"
        rw [if_neg (by decide)]
        refine ⟨a5, 14, rfl, (x5.same s8).ex, fun G7 s9 => ⟨true, rfl, ?_⟩⟩
        rw [if_neg (by decide)]
        have sm : Same H' G7 := ((sK.trans s5).trans (s6.trans s7)).trans (s8.trans s9)
        exact ⟨⟨_, _, _, _, rfl, rfl, rfl, rfl⟩, st.same sm, sm _ _ e⟩
    · rintro σ H' ⟨_, st, _⟩
      exact q _ st

theorem do_xn (T : Tx K mg B c) {ta : TA} {σ : L2.St} {H : Hp} {Q : VK} {l : Addr} {xs : List V} (v : V) (hl : H l = some (.lst xs)) (ht : ∀ R : List V → Hp → Prop, R [.ref l, v] H → ta σ H R)
    (q : ∀ a r H', Same H H' → EXF c H' a 10 "falls" (.ref r) → EXF c H' a 10 "letter" v → H' r = some (.lst xs) → Q (.ref a) H') : tXI (c 10) (sp_noline K (c 10)) E0 ta σ H Q := by
  refine ht _ ⟨by show 2 ≤ 10; decide, fun a ha => ⟨a, B, l, xs, v, rfl, T.cl 10 (by decide), T.n_NoLine_falls, T.n_NoLine_letter, upd_same, by rw [upd_ne (ne_of_none hl ha)]; exact hl, fun r dx fs H' e1 e2 l1 l2 e3 kp => ⟨rfl, ?_⟩⟩⟩
  exact q a r H' (fun b o e => kp b o (by rw [upd_ne (ne_of_none e ha)]; exact e) (ne_of_none e ha)) ⟨by decide, dx, fs, e1, e2, l1⟩ ⟨by decide, dx, fs, e1, e2, l2⟩ e3

def FL (H : Hp) (u : V) : Prop := ∃ (t : Addr) (i j k : Int) (t2 : Addr) (a b : Int), u = .ref t ∧ H t = some (.tup [.int i, .int j, .int k, .ref t2]) ∧ H t2 = some (.tup [.int a, .int b])
theorem FL.tups {H H' : Hp} {u : V} (h : FL H u) (s : Tups H H') : FL H' u := let ⟨t, i, j, k, t2, a, b, e, e1, e2⟩ := h; ⟨t, i, j, k, t2, a, b, e, s _ _ e1, s _ _ e2⟩
theorem same_i {H : Hp} {n : Nat} {i : Int} : SameD K H (n + 1) (.int i) (.int i) := .inl ⟨rfl, rfl⟩
theorem same_ii {H : Hp} {n : Nat} {t : Addr} {a b : Int} (h : H t = some (.tup [.int a, .int b])) : SameD K H (n + 2) (.ref t) (.ref t) := by
  refine .inr ⟨t, t, _, _, rfl, rfl, .inl ⟨SqT.of h, SqT.of h⟩, rfl, fun i u v hu hv => ?_⟩
  rw [hu] at hv; cases hv
  match i, hu with
  | 0, hu => simp at hu; subst hu; exact same_i
  | 1, hu => simp at hu; subst hu; exact same_i
theorem FL.sm {H : Hp} {n : Nat} {u : V} (h : FL H u) : SameD K H (n + 3) u u := by
  obtain ⟨t, i, j, k, t2, a, b, rfl, e1, e2⟩ := h
  refine .inr ⟨t, t, _, _, rfl, rfl, .inl ⟨SqT.of e1, SqT.of e1⟩, rfl, fun i u v hu hv => ?_⟩
  rw [hu] at hv; cases hv
  match i, hu with
  | 0, hu => simp at hu; subst hu; exact same_i
  | 1, hu => simp at hu; subst hu; exact same_i
  | 2, hu => simp at hu; subst hu; exact same_i
  | 3, hu => simp at hu; subst hu; exact same_ii e2

abbrev s_law_with_letter : Stmt := top 31
def sp_wl : Sp := fun vs H Q _ => ∃ p, vs = [.ref p] ∧ PotB H p ∧ ∀ H', St p H H' → Q (.bl true) H'
theorem sc_law_with_letter : FnScope ["_law_pot_here", "_law_letter_here", "_law_falls", "_law_k", "_law_kept", "_law_one", "_law_other"] ["_law_pot_here"] (defScope s_law_with_letter) := ⟨rfl, rfl, rfl, by decide +kernel, rfl, by decide +kernel, by decide +kernel⟩
theorem d_law_with_letter (D : Top1 K mg "_law_with_letter" "_law_with_letter" s_law_with_letter ["_law_pot_here"]) (T : Tx K mg B c) (D_law_digit : Def P w K mg base "_law_digit" 1 ["_law_pot_here", "_law_many"] sp_digit) (D_law_letter : Def P w K mg base "_law_letter" 3 ["_law_pot_here"] sp_letter) (D_law_met : Def P w K mg base "_law_met" 2 ["_law_number_here", "_law_e"] (sp_met c)) (D_law_number : Def P w K mg base "_law_number" 2 ["_law_pot_here"] sp_number) (D_NoLine : XDef P w K mg base "NoLine" (c 10) B 1 ["self", "falls", "letter"] (sp_noline K (c 10))) (D_Orphaned : XDef P w K mg base "Orphaned" (c 8) B 1 ["self", "letter"] (sp_one K (c 8) "letter")) : Def P w K mg base "_law_with_letter" 4 ["_law_pot_here"] sp_wl := by
  have sc := sc_law_with_letter
  refine D.ok sc (fun vs H Q E h => ?_) (fun f cdv A outer s H vs Q E hr h => ?_)
  · obtain ⟨p, rfl, hp, q⟩ := h
    rfl
  · obtain ⟨p, rfl, hp, q⟩ := h
    have hu := hr.units
    refine ⟨_, (pss_cons (ps_st (i := 1) sc.nd rfl (by first | exact Or.inl rfl | exact Or.inr rfl) (pe_cf D_law_letter hr (pa_c (pv 0) pa_nil)))
      (pss_cons (ps_st (i := 2) sc.nd rfl (by first | exact Or.inl rfl | exact Or.inr rfl) (pe_lst pa_nil))
      (pss_cons (ps_for PassesOwn.never rfl (pi_range1 rfl T.b_range (pa_c (pe_cf D_law_digit hr (pa_c (pv 0) (pa_c pe_int pa_nil))) pa_nil)) (pg_name (i := 3) sc.nd rfl (by first | exact Or.inl rfl | exact Or.inr rfl))
      (pss_one (ps_ex (pe_bm PySem.F.plainAttrs_list PySem.F.slot_list_append PySem.F.type_list_append mt_uapp (pv 2) (pa_c (pe_tup (pa_c (pe_cf D_law_digit hr (pa_c (pv 0) (pa_c pe_int pa_nil))) (pa_c (pe_cB (call_umax rfl) rfl T.b_max PyProof.Rows.boot_max (pa_c pe_int (pa_c (pe_cf D_law_number hr (pa_c (pv 0) pa_nil)) pa_nil))) (pa_c (pe_cf D_law_number hr (pa_c (pv 0) pa_nil)) (pa_c (pe_cf D_law_letter hr (pa_c (pv 0) pa_nil)) pa_nil))))) pa_nil)))))
      (pss_cons (ps_st (i := 4) sc.nd rfl (by first | exact Or.inl rfl | exact Or.inr rfl) (pe_cT call_ulist rfl T.b_list PyProof.Rows.boot_list (pa_c (pv 2) pa_nil)))
      (pss_cons (ps_par (i := 5) (j := 6) rfl sc.nd rfl rfl (by decide) rfl rfl (pa_c (pe_xi D_Orphaned hr (pa_c (pv 1) pa_nil)) (pa_c (pe_xi D_NoLine hr (pa_c (pv 2) (pa_c (pv 1) pa_nil))) pa_nil)) (by rfl))
      (pss_cons (ps_if (PW.pt (pw_or (pt_cmpR (op_uNe hu) (pe_xf (pv 5)) (pv 1) (nomark _)) (pw_or (pt_not (pt_val (pe_cf D_law_met hr (pa_c pe_int (pa_c (pv 5) pa_nil))))) (pw_or (pt_cmpR (op_uNe hu) (pe_xf (pv 6)) (pv 1) (nomark _)) (pw_or1 (pt_not (pt_val (pe_cf D_law_met hr (pa_c pe_int (pa_c (pv 6) pa_nil)))))))))) (pss_one (ps_ret pe_bl)) pss_nil)
      (pss_one (ps_ret (pe_cmpR (op_uEq hu) (pe_xf (pv 6)) (pv 4) (nomark _)))))))))), ?_⟩
    walk_at "rd"
    refine ⟨p, rfl, hp, fun tl la lb H1 htl st1 => ⟨Nat.zero_le _, fun l hl => ?_⟩⟩
    have hlp : l ≠ p := St.ne st1.pot hl
    have htp : tl ≠ p := st1.pot.nt htl
    have stl : St p H (upd H1 l (.lst [])) := st1.new hl
    refine ⟨_, rfl, p, 5, rfl, stl.pot, by decide, by decide +kernel, fun n H2 hn0 hn1 st2 => ?_⟩
    refine ⟨n, rfl, by omega, by omega, for_range (n := n.toNat) (fun i σ H' => ∃ (xs : List V) (z : Option V), σ = [some (.ref p), some (.ref tl), some (.ref l), z, none, none, none] ∧ St p H H' ∧ H' tl = some (.tup [.int la, .int lb]) ∧ H' l = some (.lst xs) ∧ xs.length = i ∧ ∀ u ∈ xs, FL H' u) ?_ ?_ ?_⟩
    · refine ⟨[], _, rfl, stl.trans st2, ?_, ?_, rfl, fun u h => absurd h (by simp)⟩
      · exact st2.rest _ _ (by rw [upd_ne (ne_of_none htl hl)]; exact htl) htp
      · exact st2.rest _ _ upd_same hlp
    · rintro i σ H' hi ⟨xs, z, rfl, st, ht, hx, hlen, hd⟩
      walk_at "rd"
      refine ⟨.inl ⟨rfl, _, SqL.of hx⟩, p, 5, rfl, st.pot, by decide, by decide +kernel, fun m G1 hm0 hm1 q1 => ?_⟩
      refine ⟨p, rfl, q1.pot, fun m2 G2 hm2 q2 => ?_⟩
      walk_at "rd"
      refine ⟨p, rfl, q2.pot, fun m3 G3 hm3 q3 => ?_⟩
      refine ⟨p, rfl, q3.pot, fun t2 a2 b2 G4 ht2 q4 => ⟨by decide, fun t3 ht3 => ?_⟩⟩
      have Q4 : St p H' G4 := ((q1.trans q2).trans q3).trans q4
      have hlx : G4 l = some (.lst xs) := Q4.rest _ _ hx hlp
      have h3l : l ≠ t3 := ne_of_none hlx ht3
      have h3p : t3 ≠ p := St.ne Q4.pot ht3
      refine ⟨xs, by rw [upd_ne h3l]; exact hlx, by rw [hlen, PySem.sizeLine_eq]; omega, ?_⟩
      have tu : ∀ b zs, G4 b = some (.tup zs) → ∀ o o', (upd (upd G4 t3 o) l o') b = some (.tup zs) := fun b zs e o o' => by
        have hbl : b ≠ l := fun z => by subst z; rw [hlx] at e; cases e
        rw [upd_ne hbl, upd_ne (ne_of_none e ht3)]; exact e
      refine ⟨xs ++ [.ref t3], ?_, ?_, upd_same, by rw [List.length_append, hlen]; rfl, fun u hu => ?_⟩
      · refine ⟨?_, fun b o e nb => ?_⟩
        · obtain ⟨x, y, e, r⟩ := Q4.pot
          exact ⟨x, y, by rw [upd_ne (Ne.symm hlp), upd_ne (Ne.symm h3p)]; exact e, r⟩
        · have hbl : b ≠ l := fun z => by
            have := st1.rest _ _ e nb
            rw [z, hl] at this; cases this
          have e4 := (st.trans Q4).rest _ _ e nb
          rw [upd_ne hbl, upd_ne (ne_of_none e4 ht3)]; exact e4
      · exact tu _ _ (Q4.rest _ _ ht htp) _ _
      · rcases List.mem_append.mp hu with h | h
        · exact (hd u h).tups fun b zs e => tu _ _ (Q4.rest _ _ e (st.pot.nt e)) _ _
        · rw [List.mem_singleton.mp h]
          exact ⟨t3, m, if m2 > 1 then m2 else 1, m3, t2, a2, b2, rfl, by rw [upd_ne (Ne.symm h3l), upd_same], tu _ _ ht2 _ _⟩
    · rintro σ H' ⟨xs, z, rfl, st, ht, hx, hlen, hd⟩
      walk_at "rd"
      refine ⟨xs, .inl (SqL.of hx), fun k hk => ?_⟩
      have s1 : Same H' (upd H' k (.lst xs)) := Same.new _ hk
      have fk : (upd H' k (.lst xs)) k = some (.lst xs) := upd_same
      generalize upd H' k (.lst xs) = K1 at *
      simp only [tPar, tCons, tNil]
      refine do_xi T (.ref tl) (by decide) T.n_Orphaned_letter (fun R r => ⟨_, rfl, r⟩) fun a1 G1 s2 x1 => ?_
      refine do_xn T (.ref tl) (s2 _ _ (s1 _ _ hx)) (fun R r => ⟨_, rfl, _, rfl, r⟩) fun a2 r G2 s3 x2 x3 hr2 => ?_
      refine ⟨_, _, rfl, ?_⟩
      have s4 : Same H' G2 := (s1.trans s2).trans s3
      have htl2 := s4 _ _ ht
      walk_at "rd"
      refine do_xf T T.n_Orphaned_letter (x1.same s3) (fun R r => ⟨_, rfl, r⟩) ?_
      walk_at "rd"
      refine .inl ⟨same_ii htl2, ?_⟩
      rw [if_neg Bool.false_ne_true]
      refine ⟨a1, 8, rfl, (x1.same s3).ex, fun G3 s5 => ⟨true, rfl, ?_⟩⟩
      rw [if_neg (by decide)]
      refine do_xf T T.n_NoLine_letter (x3.same s5) (fun R r => ⟨_, rfl, r⟩) ?_
      walk_at "rd"
      refine .inl ⟨same_ii (s5 _ _ htl2), ?_⟩
      rw [if_neg Bool.false_ne_true]
      refine ⟨a2, 10, rfl, (x3.same s5).ex, fun G4 s6 => ⟨true, rfl, ?_⟩⟩
      rw [if_neg (by decide)]
      refine do_xf T T.n_NoLine_falls ((x2.same s5).same s6) (fun R r => ⟨_, rfl, r⟩) ?_
      walk_at "rd"
      have s7 : Same H' G4 := s4.trans (s5.trans s6)
      refine .inl ⟨.inr ⟨_, _, xs, xs, rfl, rfl, .inr ⟨SqL.of (s6 _ _ (s5 _ _ hr2)), SqL.of (s6 _ _ (s5 _ _ (s3 _ _ (s2 _ _ fk))))⟩, rfl, fun i u v hu hv => ?_⟩, q _ (st.same s7)⟩
      rw [hu] at hv; cases hv
      exact ((hd u (List.mem_of_getElem? hu)).tups fun b zs e => s7 _ _ e).sm

theorem sqL_same {H H' : Hp} (s : Same H H') {a : Addr} {xs : List V} (h : SqL K H a xs) : SqL K H' a xs := by
  rcases h with (h | ⟨o, h⟩) | h
  · exact .inl (.inl (s _ _ h))
  · exact .inl (.inr ⟨o, s _ _ h⟩)
  · exact .inr h

abbrev s_law : Stmt := top 32
def sp_law (K : PySem.W.Frag) : Sp := fun vs H Q _ => ∃ (a : Addr) (ns : List Int), vs = [.ref a] ∧ SqL K H a (ns.map V.int) ∧ ns.length ≤ 63 ∧ ∀ H', Q (.bl true) H'
theorem sc_law : FnScope ["_law_script", "_law_k", "_law_pot_here", "_law_number_here", "_law_e"] ["_law_script"] (defScope s_law) := ⟨rfl, rfl, rfl, by decide +kernel, rfl, by decide +kernel, by decide +kernel⟩
theorem ok_law {f : Addr} {fd : FuncData} (D : Fun K "law" "law" s_law f fd) (T : Tx K mg B c) (D_law_met : Def P w K mg base "_law_met" 2 ["_law_number_here", "_law_e"] (sp_met c)) (D_law_plain : Def P w K mg base "_law_plain" 1 ["_law_text_here"] (sp_plain c)) (D_law_pot : Def P w K mg base "_law_pot" 1 ["_law_script", "_law_k"] (sp_pot K)) (D_law_text : Def P w K mg base "_law_text" 2 ["_law_pot_here"] sp_text) (D_law_with_letter : Def P w K mg base "_law_with_letter" 4 ["_law_pot_here"] sp_wl) (D_law_with_number : Def P w K mg base "_law_with_number" 3 ["_law_pot_here"] sp_wn) : FnOk P w K mg base CX0 5 f fd ["_law_script"] (sp_law K) := by
  have sc := sc_law
  refine D.ok sc (fun vs H Q E h => ?_) (fun cdv A outer s H vs Q E hr h => ?_)
  · obtain ⟨a, ns, rfl, hS, h63, q⟩ := h
    rfl
  · obtain ⟨a, ns, rfl, hS, h63, q⟩ := h
    have hu := hr.units
    refine ⟨_, (pss_cons (ps_for PassesOwn.never rfl (pi_range1 rfl T.b_range (pa_c (pe_cB (call_umax rfl) rfl T.b_max PyProof.Rows.boot_max (pa_c pe_int (pa_c (pe_cB (call_umin rfl) rfl T.b_min PyProof.Rows.boot_min (pa_c pe_int (pa_c (pe_cB call_ulen rfl T.b_len PySem.boot_len (pa_c (pv 0) pa_nil)) pa_nil))) pa_nil))) pa_nil)) (pg_name (i := 1) sc.nd rfl (by first | exact Or.inl rfl | exact Or.inr rfl))
      (pss_cons (ps_st (i := 2) sc.nd rfl (by first | exact Or.inl rfl | exact Or.inr rfl) (pe_cf D_law_pot hr (pa_c (pv 0) (pa_c (pv 1) pa_nil))))
      (pss_cons (ps_for PassesOwn.never rfl (pi_seq (pe_cf D_law_plain hr (pa_c (pe_cf D_law_text hr (pa_c (pv 2) pa_nil)) pa_nil))) (pg_two (i := 3) (j := 4) rfl sc.nd rfl rfl (by first | exact Or.inl rfl | exact Or.inr rfl) (by first | exact Or.inl rfl | exact Or.inr rfl))
      (pss_one (ps_if (pt_not (pt_val (pe_cf D_law_met hr (pa_c (pv 3) (pa_c (pv 4) pa_nil))))) (pss_one (ps_ret pe_bl)) pss_nil)))
      (pss_one (ps_if (PW.pt (pw_or (pt_not (pt_val (pe_cf D_law_with_number hr (pa_c (pv 2) pa_nil)))) (pw_or1 (pt_not (pt_val (pe_cf D_law_with_letter hr (pa_c (pv 2) pa_nil))))))) (pss_one (ps_ret pe_bl)) pss_nil)))))
      (pss_one (ps_ret pe_bl))), ?_⟩
    walk_at "rd"
    refine ⟨_, rfl, _, .inl ⟨_, hS, rfl⟩, _, rfl, ?_, ?_, for_range (fun i σ H' => (∃ z1 z2 z3 z4, σ = [some (.ref a), z1, z2, z3, z4]) ∧ Same H H') ?_ ?_ ?_⟩
    · rw [List.length_map]; dsimp only; split <;> split <;> omega
    · rw [List.length_map]; dsimp only; split <;> split <;> omega
    · exact ⟨⟨_, _, _, _, rfl⟩, fun _ _ e => e⟩
    · rintro i σ H' hi ⟨⟨z1, z2, z3, z4, rfl⟩, s1⟩
      have hS' := sqL_same s1 hS
      walk_at "rd"
      refine ⟨a, ns, 0 + (i : Int), rfl, hS', by omega, fun p x y hp hy0 hy1 => ?_⟩
      have p0 : PotB (upd H' p (.lst [.int x, .int y])) p := ⟨x, y, upd_same, hy0, hy1⟩
      have s0 : Same H' (upd H' p (.lst [.int x, .int y])) := Same.new _ hp
      generalize upd H' p (.lst [.int x, .int y]) = H1 at *
      refine ⟨_, rfl, p, rfl, p0, fun tx H2 st2 => ⟨tx, rfl, fun l xs H3 s3 hlen hl ai => .inl ⟨⟨_, SqL.of hl⟩, for_list (K := K) (xs := xs) (fun j σ H' => (∃ b3 b4, σ = [some (.ref a), some (.int (0 + (i : Int))), some (.ref p), b3, b4]) ∧ Same H3 H') ?_ ?_ ?_ ?_⟩⟩⟩
      · exact ⟨⟨_, _, rfl⟩, fun _ _ e => e⟩
      · rintro j σ H4 hj ⟨_, s4⟩
        exact SqL.of (s4 _ _ hl)
      · rintro j x σ H4 hx ⟨⟨b3, b4, rfl⟩, s4⟩
        obtain ⟨t, e, k, rfl, ht, hx⟩ := ai.at hx
        refine ⟨t, _, rfl, SqT.of (s4 _ _ ht), rfl, _, _, rfl, _, _, rfl, rfl, ?_⟩
        walk_at "rd"
        refine ⟨e, k, rfl, hx.same s4, fun H5 s5 => ⟨true, rfl, ?_⟩⟩
        rw [if_neg (by decide)]
        exact ⟨⟨_, _, rfl, rfl⟩, s4.trans s5⟩
      · rintro σ H4 ⟨⟨b3, b4, rfl⟩, s4⟩
        have p4 : PotB H4 p := ((st2.same s3).same s4).pot
        walk_at "rd"
        refine ⟨p, rfl, p4, fun H5 st5 => ⟨true, rfl, ?_⟩⟩
        rw [if_neg (by decide)]
        refine ⟨p, rfl, st5.pot, fun H6 st6 => ⟨true, rfl, ?_⟩⟩
        rw [if_neg (by decide)]
        refine ⟨⟨_, _, _, _, rfl, rfl, rfl, rfl⟩, fun b o e => ?_⟩
        have nb : b ≠ p := ne_of_none (s1 _ _ e) hp
        exact st6.rest _ _ (st5.rest _ _ (s4 _ _ (s3 _ _ (st2.rest _ _ (s0 _ _ (s1 _ _ e)) nb))) nb) nb
    · rintro σ H' _
      exact q _

end
end K18

set_option Elab.async false
set_option linter.all false
set_option maxRecDepth 100000
set_option maxHeartbeats 4000000
namespace K18
open PySem L2
theorem xcls_mk {K : PySem.W.Frag} {C B : Addr} {nm q : Str} {N : Addr} {bs sub : List Value} {sn : List Str} {ab : Bool} {col : Option Bool} {dd : Option Addr} {k0 k1 k2 k3 k5 : Option Value}
    (ob : K.lookup C = some (excClassObj nm q C N bs (.ref B :: xbm) true sn sub ab col dd k0 k1 k2 k3 k5 "ValueError.__new__"))
    (ga : PySem.W.findIn K (.ref C) "__getattribute__" = some (some (.builtin "BaseException.__getattribute__"))) (gt : PySem.W.findIn K (.ref C) "__getattr__" = some none) (sa : PySem.W.findIn K (.ref C) "__setattr__" = some (some (.builtin "object.__setattr__"))) (cl : PySem.W.findIn K (.ref C) "__class__" = some (some (.builtin "object.__class__")))
    (cg : PySem.W.specialIn K (.builtin "object.__class__") "__get__" = some (some (.builtin "getset_descriptor.__get__"))) (ct : PySem.W.takesIn K (.builtin "object.__class__") = some true) (kp : PySem.W.keepIn K (.ref C) = true) : XCls K C B :=
  ⟨⟨_, _, _, _, _, _, _, _, _, _, _, _, _, _, ob⟩, ga, gt, sa, cl, cg, ct, kp⟩
theorem top1_mk {K : PySem.W.Frag} {h : Heap} {mg : Str → Option Value} (X : K.In h) (G : h.Ns mainGlobals mg) {x : Str} {st : Stmt} {f : Addr} {fd : FuncData} {ps : List Str} (F : Fun K x x st f fd) (a : PySem.W.nsIn K mainGlobals x = some (some (.ref f)))
    (b : ∀ (kV doc pm : Value) (an : Option Addr) (cdv ct : Value) (us : List Value), us.length = ps.length → bindArgs (PySem.W.fnOf x x (defArgs st) (defBody st) (defScope st) .none kV doc pm an cdv ct) ⟨us, []⟩ = pure (ps.zip us)) : Top1 K mg x x st ps :=
  ⟨_, _, F, PySem.W.mg_of X G a, F.binds b⟩
theorem xtop_mk {K : PySem.W.Frag} {h : Heap} {mg : Str → Option Value} (X : K.In h) (G : h.Ns mainGlobals mg) {x q : Str} {C B : Addr} {st : Stmt} {f : Addr} {fd : FuncData} {ps : List Str} (cl : XCls K C B) (i : PySem.W.findIn K (.ref C) "__init__" = some (some (.ref f))) (fn : PySem.W.isFn K (.ref f) = true)
    (F : Fun K "__init__" q st f fd) (a : PySem.W.nsIn K mainGlobals x = some (some (.ref C)))
    (b : ∀ (kV doc pm : Value) (an : Option Addr) (cdv ct : Value) (us : List Value), us.length = ps.length → bindArgs (PySem.W.fnOf "__init__" q (defArgs st) (defBody st) (defScope st) .none kV doc pm an cdv ct) ⟨us, []⟩ = pure (ps.zip us)) : XTop K mg x C B q st ps :=
  ⟨cl, ⟨_, _, i, fn, F, F.binds b⟩, PySem.W.mg_of X G a⟩
theorem len0 {us : List Value} (h : us.length = 0) : us = [] := List.length_eq_zero_iff.mp h
theorem lenS {us : List Value} {n : Nat} (h : us.length = n + 1) : ∃ x r, us = x :: r ∧ r.length = n := by
  cases us with
  | nil => cases h
  | cons x r => exact ⟨x, r, rfl, Nat.succ.inj h⟩
theorem b_law_pot (kV doc pm : Value) (an : Option Addr) (cdv ct : Value) (us : List Value) (hl : us.length = 2) : bindArgs (PySem.W.fnOf "_law_pot" "_law_pot" (defArgs s_law_pot) (defBody s_law_pot) (defScope s_law_pot) .none kV doc pm an cdv ct) ⟨us, []⟩ = pure ((["_law_script", "_law_k"] : List PySem.Str).zip us) := by
  obtain ⟨x0, u0, rfl, h0⟩ := lenS hl
  obtain ⟨x1, u1, rfl, h1⟩ := lenS h0
  cases len0 h1
  rfl
theorem b_law_digit (kV doc pm : Value) (an : Option Addr) (cdv ct : Value) (us : List Value) (hl : us.length = 2) : bindArgs (PySem.W.fnOf "_law_digit" "_law_digit" (defArgs s_law_digit) (defBody s_law_digit) (defScope s_law_digit) .none kV doc pm an cdv ct) ⟨us, []⟩ = pure ((["_law_pot_here", "_law_many"] : List PySem.Str).zip us) := by
  obtain ⟨x0, u0, rfl, h0⟩ := lenS hl
  obtain ⟨x1, u1, rfl, h1⟩ := lenS h0
  cases len0 h1
  rfl
theorem b_law_text (kV doc pm : Value) (an : Option Addr) (cdv ct : Value) (us : List Value) (hl : us.length = 1) : bindArgs (PySem.W.fnOf "_law_text" "_law_text" (defArgs s_law_text) (defBody s_law_text) (defScope s_law_text) .none kV doc pm an cdv ct) ⟨us, []⟩ = pure ((["_law_pot_here"] : List PySem.Str).zip us) := by
  obtain ⟨x0, u0, rfl, h0⟩ := lenS hl
  cases len0 h0
  rfl
theorem b_law_number (kV doc pm : Value) (an : Option Addr) (cdv ct : Value) (us : List Value) (hl : us.length = 1) : bindArgs (PySem.W.fnOf "_law_number" "_law_number" (defArgs s_law_number) (defBody s_law_number) (defScope s_law_number) .none kV doc pm an cdv ct) ⟨us, []⟩ = pure ((["_law_pot_here"] : List PySem.Str).zip us) := by
  obtain ⟨x0, u0, rfl, h0⟩ := lenS hl
  cases len0 h0
  rfl
theorem b_law_letter (kV doc pm : Value) (an : Option Addr) (cdv ct : Value) (us : List Value) (hl : us.length = 1) : bindArgs (PySem.W.fnOf "_law_letter" "_law_letter" (defArgs s_law_letter) (defBody s_law_letter) (defScope s_law_letter) .none kV doc pm an cdv ct) ⟨us, []⟩ = pure ((["_law_pot_here"] : List PySem.Str).zip us) := by
  obtain ⟨x0, u0, rfl, h0⟩ := lenS hl
  cases len0 h0
  rfl
theorem b_law_which (kV doc pm : Value) (an : Option Addr) (cdv ct : Value) (us : List Value) (hl : us.length = 1) : bindArgs (PySem.W.fnOf "_law_which" "_law_which" (defArgs s_law_which) (defBody s_law_which) (defScope s_law_which) .none kV doc pm an cdv ct) ⟨us, []⟩ = pure ((["_law_e"] : List PySem.Str).zip us) := by
  obtain ⟨x0, u0, rfl, h0⟩ := lenS hl
  cases len0 h0
  rfl
theorem b_law_plain (kV doc pm : Value) (an : Option Addr) (cdv ct : Value) (us : List Value) (hl : us.length = 1) : bindArgs (PySem.W.fnOf "_law_plain" "_law_plain" (defArgs s_law_plain) (defBody s_law_plain) (defScope s_law_plain) .none kV doc pm an cdv ct) ⟨us, []⟩ = pure ((["_law_text_here"] : List PySem.Str).zip us) := by
  obtain ⟨x0, u0, rfl, h0⟩ := lenS hl
  cases len0 h0
  rfl
theorem b_law_met (kV doc pm : Value) (an : Option Addr) (cdv ct : Value) (us : List Value) (hl : us.length = 2) : bindArgs (PySem.W.fnOf "_law_met" "_law_met" (defArgs s_law_met) (defBody s_law_met) (defScope s_law_met) .none kV doc pm an cdv ct) ⟨us, []⟩ = pure ((["_law_number_here", "_law_e"] : List PySem.Str).zip us) := by
  obtain ⟨x0, u0, rfl, h0⟩ := lenS hl
  obtain ⟨x1, u1, rfl, h1⟩ := lenS h0
  cases len0 h1
  rfl
theorem b_law_with_number (kV doc pm : Value) (an : Option Addr) (cdv ct : Value) (us : List Value) (hl : us.length = 1) : bindArgs (PySem.W.fnOf "_law_with_number" "_law_with_number" (defArgs s_law_with_number) (defBody s_law_with_number) (defScope s_law_with_number) .none kV doc pm an cdv ct) ⟨us, []⟩ = pure ((["_law_pot_here"] : List PySem.Str).zip us) := by
  obtain ⟨x0, u0, rfl, h0⟩ := lenS hl
  cases len0 h0
  rfl
theorem b_law_with_letter (kV doc pm : Value) (an : Option Addr) (cdv ct : Value) (us : List Value) (hl : us.length = 1) : bindArgs (PySem.W.fnOf "_law_with_letter" "_law_with_letter" (defArgs s_law_with_letter) (defBody s_law_with_letter) (defScope s_law_with_letter) .none kV doc pm an cdv ct) ⟨us, []⟩ = pure ((["_law_pot_here"] : List PySem.Str).zip us) := by
  obtain ⟨x0, u0, rfl, h0⟩ := lenS hl
  cases len0 h0
  rfl
theorem b_BadDeed (kV doc pm : Value) (an : Option Addr) (cdv ct : Value) (us : List Value) (hl : us.length = 2) : bindArgs (PySem.W.fnOf "__init__" "BadDeed.__init__" (defArgs s_BadDeed) (defBody s_BadDeed) (defScope s_BadDeed) .none kV doc pm an cdv ct) ⟨us, []⟩ = pure ((["self", "at"] : List PySem.Str).zip us) := by
  obtain ⟨x0, u0, rfl, h0⟩ := lenS hl
  obtain ⟨x1, u1, rfl, h1⟩ := lenS h0
  cases len0 h1
  rfl
theorem b_NoLetter (kV doc pm : Value) (an : Option Addr) (cdv ct : Value) (us : List Value) (hl : us.length = 2) : bindArgs (PySem.W.fnOf "__init__" "NoLetter.__init__" (defArgs s_NoLetter) (defBody s_NoLetter) (defScope s_NoLetter) .none kV doc pm an cdv ct) ⟨us, []⟩ = pure ((["self", "at"] : List PySem.Str).zip us) := by
  obtain ⟨x0, u0, rfl, h0⟩ := lenS hl
  obtain ⟨x1, u1, rfl, h1⟩ := lenS h0
  cases len0 h1
  rfl
theorem b_NotFirst (kV doc pm : Value) (an : Option Addr) (cdv ct : Value) (us : List Value) (hl : us.length = 2) : bindArgs (PySem.W.fnOf "__init__" "NotFirst.__init__" (defArgs s_NotFirst) (defBody s_NotFirst) (defScope s_NotFirst) .none kV doc pm an cdv ct) ⟨us, []⟩ = pure ((["self", "at"] : List PySem.Str).zip us) := by
  obtain ⟨x0, u0, rfl, h0⟩ := lenS hl
  obtain ⟨x1, u1, rfl, h1⟩ := lenS h0
  cases len0 h1
  rfl
theorem b_Orphaned (kV doc pm : Value) (an : Option Addr) (cdv ct : Value) (us : List Value) (hl : us.length = 2) : bindArgs (PySem.W.fnOf "__init__" "Orphaned.__init__" (defArgs s_Orphaned) (defBody s_Orphaned) (defScope s_Orphaned) .none kV doc pm an cdv ct) ⟨us, []⟩ = pure ((["self", "letter"] : List PySem.Str).zip us) := by
  obtain ⟨x0, u0, rfl, h0⟩ := lenS hl
  obtain ⟨x1, u1, rfl, h1⟩ := lenS h0
  cases len0 h1
  rfl
theorem b_NoLine (kV doc pm : Value) (an : Option Addr) (cdv ct : Value) (us : List Value) (hl : us.length = 3) : bindArgs (PySem.W.fnOf "__init__" "NoLine.__init__" (defArgs s_NoLine) (defBody s_NoLine) (defScope s_NoLine) .none kV doc pm an cdv ct) ⟨us, []⟩ = pure ((["self", "falls", "letter"] : List PySem.Str).zip us) := by
  obtain ⟨x0, u0, rfl, h0⟩ := lenS hl
  obtain ⟨x1, u1, rfl, h1⟩ := lenS h0
  obtain ⟨x2, u2, rfl, h2⟩ := lenS h1
  cases len0 h2
  rfl
theorem b_NotRow (kV doc pm : Value) (an : Option Addr) (cdv ct : Value) (us : List Value) (hl : us.length = 2) : bindArgs (PySem.W.fnOf "__init__" "NotRow.__init__" (defArgs s_NotRow) (defBody s_NotRow) (defScope s_NotRow) .none kV doc pm an cdv ct) ⟨us, []⟩ = pure ((["self", "way"] : List PySem.Str).zip us) := by
  obtain ⟨x0, u0, rfl, h0⟩ := lenS hl
  obtain ⟨x1, u1, rfl, h1⟩ := lenS h0
  cases len0 h1
  rfl
theorem b_NotReached (kV doc pm : Value) (an : Option Addr) (cdv ct : Value) (us : List Value) (hl : us.length = 2) : bindArgs (PySem.W.fnOf "__init__" "NotReached.__init__" (defArgs s_NotReached) (defBody s_NotReached) (defScope s_NotReached) .none kV doc pm an cdv ct) ⟨us, []⟩ = pure ((["self", "machine"] : List PySem.Str).zip us) := by
  obtain ⟨x0, u0, rfl, h0⟩ := lenS hl
  obtain ⟨x1, u1, rfl, h1⟩ := lenS h0
  cases len0 h1
  rfl
theorem core {P : Program} {w : World} {K : PySem.W.Frag} {mg : Str → Option Value} {base : Heap} {B fa : Addr} {fd : FuncData} {c : Nat → Addr} (T : Tx K mg B c) (F : Fun K "law" "law" s_law fa fd) (t_law_pot : Top1 K mg "_law_pot" "_law_pot" s_law_pot ["_law_script", "_law_k"]) (t_law_digit : Top1 K mg "_law_digit" "_law_digit" s_law_digit ["_law_pot_here", "_law_many"]) (t_law_text : Top1 K mg "_law_text" "_law_text" s_law_text ["_law_pot_here"]) (t_law_number : Top1 K mg "_law_number" "_law_number" s_law_number ["_law_pot_here"]) (t_law_letter : Top1 K mg "_law_letter" "_law_letter" s_law_letter ["_law_pot_here"]) (t_law_which : Top1 K mg "_law_which" "_law_which" s_law_which ["_law_e"]) (t_law_plain : Top1 K mg "_law_plain" "_law_plain" s_law_plain ["_law_text_here"]) (t_law_met : Top1 K mg "_law_met" "_law_met" s_law_met ["_law_number_here", "_law_e"]) (t_law_with_number : Top1 K mg "_law_with_number" "_law_with_number" s_law_with_number ["_law_pot_here"]) (t_law_with_letter : Top1 K mg "_law_with_letter" "_law_with_letter" s_law_with_letter ["_law_pot_here"]) (t_BadDeed : XTop K mg "BadDeed" (c 1) B "BadDeed.__init__" s_BadDeed ["self", "at"]) (t_NoLetter : XTop K mg "NoLetter" (c 4) B "NoLetter.__init__" s_NoLetter ["self", "at"]) (t_NotFirst : XTop K mg "NotFirst" (c 5) B "NotFirst.__init__" s_NotFirst ["self", "at"]) (t_Orphaned : XTop K mg "Orphaned" (c 8) B "Orphaned.__init__" s_Orphaned ["self", "letter"]) (t_NoLine : XTop K mg "NoLine" (c 10) B "NoLine.__init__" s_NoLine ["self", "falls", "letter"]) (t_NotRow : XTop K mg "NotRow" (c 12) B "NotRow.__init__" s_NotRow ["self", "way"]) (t_NotReached : XTop K mg "NotReached" (c 14) B "NotReached.__init__" s_NotReached ["self", "machine"]) : FnOk P w K mg base CX0 5 fa fd ["_law_script"] (sp_law K) := by
  have D_law_pot := d_law_pot (P := P) (w := w) (base := base) t_law_pot T
  have D_law_digit := d_law_digit (P := P) (w := w) (base := base) t_law_digit T
  have D_law_number := d_law_number (P := P) (w := w) (base := base) t_law_number T D_law_digit
  have D_law_letter := d_law_letter (P := P) (w := w) (base := base) t_law_letter T D_law_number
  have D_law_text := d_law_text (P := P) (w := w) (base := base) t_law_text T D_law_digit
  have D_law_which := d_law_which (P := P) (w := w) (base := base) t_law_which T
  have D_law_met := d_law_met (P := P) (w := w) (base := base) t_law_met T D_law_which
  have D_BadDeed := d_BadDeed (P := P) (w := w) (base := base) t_BadDeed T
  have D_NoLetter := d_NoLetter (P := P) (w := w) (base := base) t_NoLetter T
  have D_NotFirst := d_NotFirst (P := P) (w := w) (base := base) t_NotFirst T
  have D_Orphaned := d_Orphaned (P := P) (w := w) (base := base) t_Orphaned T
  have D_NotRow := d_NotRow (P := P) (w := w) (base := base) t_NotRow T
  have D_NotReached := d_NotReached (P := P) (w := w) (base := base) t_NotReached T
  have D_NoLine := d_NoLine (P := P) (w := w) (base := base) t_NoLine T
  have D_law_plain := d_law_plain (P := P) (w := w) (base := base) t_law_plain T
  have D_law_with_number := d_law_with_number (P := P) (w := w) (base := base) t_law_with_number T D_law_met D_law_number D_BadDeed D_NoLetter D_NotFirst D_NotReached D_NotRow
  have D_law_with_letter := d_law_with_letter (P := P) (w := w) (base := base) t_law_with_letter T D_law_digit D_law_letter D_law_met D_law_number D_NoLine D_Orphaned
  exact ok_law F T D_law_met D_law_plain D_law_pot D_law_text D_law_with_letter D_law_with_number
theorem all_mk {l : PySem.W.OpenLaw} {w : World} {K : PySem.W.Frag} {h : Heap} {mg : Str → Option Value} {fa B f0 f1 f2 f3 f4 f5 f6 f7 f8 f9 f10 f11 f12 f13 f14 f15 f16 f17 C0 C1 C2 C3 C4 C5 C6 C7 C8 C9 C10 C11 C12 C13 C14 C15 C16 C17 C18 : Addr} (X : K.In h) (G : h.Ns mainGlobals mg) (hfa : mg "law" = some (.ref fa))
    {cdB : ClassData} (aB : PySem.W.nsIn K mainGlobals "NetError" = some (some (.ref B))) (isB : PySem.W.clsIn K B = some cdB) (tyB : PySem.W.typeIn K (.ref B) = some (.type "type"))
    (cg : PySem.W.specialIn K (.builtin "object.__class__") "__get__" = some (some (.builtin "getset_descriptor.__get__"))) (ct : PySem.W.takesIn K (.builtin "object.__class__") = some true)
    {nm_0 q_0 : Str} {N_0 : Addr} {bs_0 sub_0 : List Value} {sn_0 : List Str} {ab_0 : Bool} {col_0 : Option Bool} {dd_0 : Option Addr} {k0_0 k1_0 k2_0 k3_0 k5_0 : Option Value}
    (ax_0 : PySem.W.nsIn K mainGlobals "BadMachine" = some (some (.ref C0))) (lx_0 : K.lookup C0 = some (excClassObj nm_0 q_0 C0 N_0 bs_0 (.ref B :: xbm) true sn_0 sub_0 ab_0 col_0 dd_0 k0_0 k1_0 k2_0 k3_0 k5_0 "ValueError.__new__"))
    (ga_0 : PySem.W.findIn K (.ref C0) "__getattribute__" = some (some (.builtin "BaseException.__getattribute__"))) (gt_0 : PySem.W.findIn K (.ref C0) "__getattr__" = some none) (sa_0 : PySem.W.findIn K (.ref C0) "__setattr__" = some (some (.builtin "object.__setattr__"))) (cl_0 : PySem.W.findIn K (.ref C0) "__class__" = some (some (.builtin "object.__class__"))) (kp_0 : PySem.W.keepIn K (.ref C0) = true)
    (in_0 : PySem.W.findIn K (.ref C0) "__init__" = some (some (.builtin "ValueError.__init__")))
    {nm_1 q_1 : Str} {N_1 : Addr} {bs_1 sub_1 : List Value} {sn_1 : List Str} {ab_1 : Bool} {col_1 : Option Bool} {dd_1 : Option Addr} {k0_1 k1_1 k2_1 k3_1 k5_1 : Option Value}
    (ax_1 : PySem.W.nsIn K mainGlobals "BadDeed" = some (some (.ref C1))) (lx_1 : K.lookup C1 = some (excClassObj nm_1 q_1 C1 N_1 bs_1 (.ref B :: xbm) true sn_1 sub_1 ab_1 col_1 dd_1 k0_1 k1_1 k2_1 k3_1 k5_1 "ValueError.__new__"))
    (ga_1 : PySem.W.findIn K (.ref C1) "__getattribute__" = some (some (.builtin "BaseException.__getattribute__"))) (gt_1 : PySem.W.findIn K (.ref C1) "__getattr__" = some none) (sa_1 : PySem.W.findIn K (.ref C1) "__setattr__" = some (some (.builtin "object.__setattr__"))) (cl_1 : PySem.W.findIn K (.ref C1) "__class__" = some (some (.builtin "object.__class__"))) (kp_1 : PySem.W.keepIn K (.ref C1) = true)
    (n_BadDeed_at : PySem.W.findIn K (.ref C1) "at" = some none)
    {nm_2 q_2 : Str} {N_2 : Addr} {bs_2 sub_2 : List Value} {sn_2 : List Str} {ab_2 : Bool} {col_2 : Option Bool} {dd_2 : Option Addr} {k0_2 k1_2 k2_2 k3_2 k5_2 : Option Value}
    (ax_2 : PySem.W.nsIn K mainGlobals "NoText" = some (some (.ref C2))) (lx_2 : K.lookup C2 = some (excClassObj nm_2 q_2 C2 N_2 bs_2 (.ref B :: xbm) true sn_2 sub_2 ab_2 col_2 dd_2 k0_2 k1_2 k2_2 k3_2 k5_2 "ValueError.__new__"))
    (ga_2 : PySem.W.findIn K (.ref C2) "__getattribute__" = some (some (.builtin "BaseException.__getattribute__"))) (gt_2 : PySem.W.findIn K (.ref C2) "__getattr__" = some none) (sa_2 : PySem.W.findIn K (.ref C2) "__setattr__" = some (some (.builtin "object.__setattr__"))) (cl_2 : PySem.W.findIn K (.ref C2) "__class__" = some (some (.builtin "object.__class__"))) (kp_2 : PySem.W.keepIn K (.ref C2) = true)
    (in_2 : PySem.W.findIn K (.ref C2) "__init__" = some (some (.builtin "ValueError.__init__")))
    {nm_3 q_3 : Str} {N_3 : Addr} {bs_3 sub_3 : List Value} {sn_3 : List Str} {ab_3 : Bool} {col_3 : Option Bool} {dd_3 : Option Addr} {k0_3 k1_3 k2_3 k3_3 k5_3 : Option Value}
    (ax_3 : PySem.W.nsIn K mainGlobals "BadNet" = some (some (.ref C3))) (lx_3 : K.lookup C3 = some (excClassObj nm_3 q_3 C3 N_3 bs_3 (.ref B :: xbm) true sn_3 sub_3 ab_3 col_3 dd_3 k0_3 k1_3 k2_3 k3_3 k5_3 "ValueError.__new__"))
    (ga_3 : PySem.W.findIn K (.ref C3) "__getattribute__" = some (some (.builtin "BaseException.__getattribute__"))) (gt_3 : PySem.W.findIn K (.ref C3) "__getattr__" = some none) (sa_3 : PySem.W.findIn K (.ref C3) "__setattr__" = some (some (.builtin "object.__setattr__"))) (cl_3 : PySem.W.findIn K (.ref C3) "__class__" = some (some (.builtin "object.__class__"))) (kp_3 : PySem.W.keepIn K (.ref C3) = true)
    (in_3 : PySem.W.findIn K (.ref C3) "__init__" = some (some (.builtin "ValueError.__init__")))
    {nm_4 q_4 : Str} {N_4 : Addr} {bs_4 sub_4 : List Value} {sn_4 : List Str} {ab_4 : Bool} {col_4 : Option Bool} {dd_4 : Option Addr} {k0_4 k1_4 k2_4 k3_4 k5_4 : Option Value}
    (ax_4 : PySem.W.nsIn K mainGlobals "NoLetter" = some (some (.ref C4))) (lx_4 : K.lookup C4 = some (excClassObj nm_4 q_4 C4 N_4 bs_4 (.ref B :: xbm) true sn_4 sub_4 ab_4 col_4 dd_4 k0_4 k1_4 k2_4 k3_4 k5_4 "ValueError.__new__"))
    (ga_4 : PySem.W.findIn K (.ref C4) "__getattribute__" = some (some (.builtin "BaseException.__getattribute__"))) (gt_4 : PySem.W.findIn K (.ref C4) "__getattr__" = some none) (sa_4 : PySem.W.findIn K (.ref C4) "__setattr__" = some (some (.builtin "object.__setattr__"))) (cl_4 : PySem.W.findIn K (.ref C4) "__class__" = some (some (.builtin "object.__class__"))) (kp_4 : PySem.W.keepIn K (.ref C4) = true)
    (n_NoLetter_at : PySem.W.findIn K (.ref C4) "at" = some none)
    {nm_5 q_5 : Str} {N_5 : Addr} {bs_5 sub_5 : List Value} {sn_5 : List Str} {ab_5 : Bool} {col_5 : Option Bool} {dd_5 : Option Addr} {k0_5 k1_5 k2_5 k3_5 k5_5 : Option Value}
    (ax_5 : PySem.W.nsIn K mainGlobals "NotFirst" = some (some (.ref C5))) (lx_5 : K.lookup C5 = some (excClassObj nm_5 q_5 C5 N_5 bs_5 (.ref B :: xbm) true sn_5 sub_5 ab_5 col_5 dd_5 k0_5 k1_5 k2_5 k3_5 k5_5 "ValueError.__new__"))
    (ga_5 : PySem.W.findIn K (.ref C5) "__getattribute__" = some (some (.builtin "BaseException.__getattribute__"))) (gt_5 : PySem.W.findIn K (.ref C5) "__getattr__" = some none) (sa_5 : PySem.W.findIn K (.ref C5) "__setattr__" = some (some (.builtin "object.__setattr__"))) (cl_5 : PySem.W.findIn K (.ref C5) "__class__" = some (some (.builtin "object.__class__"))) (kp_5 : PySem.W.keepIn K (.ref C5) = true)
    (n_NotFirst_at : PySem.W.findIn K (.ref C5) "at" = some none)
    {nm_6 q_6 : Str} {N_6 : Addr} {bs_6 sub_6 : List Value} {sn_6 : List Str} {ab_6 : Bool} {col_6 : Option Bool} {dd_6 : Option Addr} {k0_6 k1_6 k2_6 k3_6 k5_6 : Option Value}
    (ax_6 : PySem.W.nsIn K mainGlobals "NoCount" = some (some (.ref C6))) (lx_6 : K.lookup C6 = some (excClassObj nm_6 q_6 C6 N_6 bs_6 (.ref B :: xbm) true sn_6 sub_6 ab_6 col_6 dd_6 k0_6 k1_6 k2_6 k3_6 k5_6 "ValueError.__new__"))
    (ga_6 : PySem.W.findIn K (.ref C6) "__getattribute__" = some (some (.builtin "BaseException.__getattribute__"))) (gt_6 : PySem.W.findIn K (.ref C6) "__getattr__" = some none) (sa_6 : PySem.W.findIn K (.ref C6) "__setattr__" = some (some (.builtin "object.__setattr__"))) (cl_6 : PySem.W.findIn K (.ref C6) "__class__" = some (some (.builtin "object.__class__"))) (kp_6 : PySem.W.keepIn K (.ref C6) = true)
    (in_6 : PySem.W.findIn K (.ref C6) "__init__" = some (some (.builtin "ValueError.__init__")))
    {nm_7 q_7 : Str} {N_7 : Addr} {bs_7 sub_7 : List Value} {sn_7 : List Str} {ab_7 : Bool} {col_7 : Option Bool} {dd_7 : Option Addr} {k0_7 k1_7 k2_7 k3_7 k5_7 : Option Value}
    (ax_7 : PySem.W.nsIn K mainGlobals "NoEvent" = some (some (.ref C7))) (lx_7 : K.lookup C7 = some (excClassObj nm_7 q_7 C7 N_7 bs_7 (.ref B :: xbm) true sn_7 sub_7 ab_7 col_7 dd_7 k0_7 k1_7 k2_7 k3_7 k5_7 "ValueError.__new__"))
    (ga_7 : PySem.W.findIn K (.ref C7) "__getattribute__" = some (some (.builtin "BaseException.__getattribute__"))) (gt_7 : PySem.W.findIn K (.ref C7) "__getattr__" = some none) (sa_7 : PySem.W.findIn K (.ref C7) "__setattr__" = some (some (.builtin "object.__setattr__"))) (cl_7 : PySem.W.findIn K (.ref C7) "__class__" = some (some (.builtin "object.__class__"))) (kp_7 : PySem.W.keepIn K (.ref C7) = true)
    (in_7 : PySem.W.findIn K (.ref C7) "__init__" = some (some (.builtin "ValueError.__init__")))
    {nm_8 q_8 : Str} {N_8 : Addr} {bs_8 sub_8 : List Value} {sn_8 : List Str} {ab_8 : Bool} {col_8 : Option Bool} {dd_8 : Option Addr} {k0_8 k1_8 k2_8 k3_8 k5_8 : Option Value}
    (ax_8 : PySem.W.nsIn K mainGlobals "Orphaned" = some (some (.ref C8))) (lx_8 : K.lookup C8 = some (excClassObj nm_8 q_8 C8 N_8 bs_8 (.ref B :: xbm) true sn_8 sub_8 ab_8 col_8 dd_8 k0_8 k1_8 k2_8 k3_8 k5_8 "ValueError.__new__"))
    (ga_8 : PySem.W.findIn K (.ref C8) "__getattribute__" = some (some (.builtin "BaseException.__getattribute__"))) (gt_8 : PySem.W.findIn K (.ref C8) "__getattr__" = some none) (sa_8 : PySem.W.findIn K (.ref C8) "__setattr__" = some (some (.builtin "object.__setattr__"))) (cl_8 : PySem.W.findIn K (.ref C8) "__class__" = some (some (.builtin "object.__class__"))) (kp_8 : PySem.W.keepIn K (.ref C8) = true)
    (n_Orphaned_letter : PySem.W.findIn K (.ref C8) "letter" = some none)
    {nm_9 q_9 : Str} {N_9 : Addr} {bs_9 sub_9 : List Value} {sn_9 : List Str} {ab_9 : Bool} {col_9 : Option Bool} {dd_9 : Option Addr} {k0_9 k1_9 k2_9 k3_9 k5_9 : Option Value}
    (ax_9 : PySem.W.nsIn K mainGlobals "TooMany" = some (some (.ref C9))) (lx_9 : K.lookup C9 = some (excClassObj nm_9 q_9 C9 N_9 bs_9 (.ref B :: xbm) true sn_9 sub_9 ab_9 col_9 dd_9 k0_9 k1_9 k2_9 k3_9 k5_9 "ValueError.__new__"))
    (ga_9 : PySem.W.findIn K (.ref C9) "__getattribute__" = some (some (.builtin "BaseException.__getattribute__"))) (gt_9 : PySem.W.findIn K (.ref C9) "__getattr__" = some none) (sa_9 : PySem.W.findIn K (.ref C9) "__setattr__" = some (some (.builtin "object.__setattr__"))) (cl_9 : PySem.W.findIn K (.ref C9) "__class__" = some (some (.builtin "object.__class__"))) (kp_9 : PySem.W.keepIn K (.ref C9) = true)
    (in_9 : PySem.W.findIn K (.ref C9) "__init__" = some (some (.builtin "ValueError.__init__")))
    {nm_10 q_10 : Str} {N_10 : Addr} {bs_10 sub_10 : List Value} {sn_10 : List Str} {ab_10 : Bool} {col_10 : Option Bool} {dd_10 : Option Addr} {k0_10 k1_10 k2_10 k3_10 k5_10 : Option Value}
    (ax_10 : PySem.W.nsIn K mainGlobals "NoLine" = some (some (.ref C10))) (lx_10 : K.lookup C10 = some (excClassObj nm_10 q_10 C10 N_10 bs_10 (.ref B :: xbm) true sn_10 sub_10 ab_10 col_10 dd_10 k0_10 k1_10 k2_10 k3_10 k5_10 "ValueError.__new__"))
    (ga_10 : PySem.W.findIn K (.ref C10) "__getattribute__" = some (some (.builtin "BaseException.__getattribute__"))) (gt_10 : PySem.W.findIn K (.ref C10) "__getattr__" = some none) (sa_10 : PySem.W.findIn K (.ref C10) "__setattr__" = some (some (.builtin "object.__setattr__"))) (cl_10 : PySem.W.findIn K (.ref C10) "__class__" = some (some (.builtin "object.__class__"))) (kp_10 : PySem.W.keepIn K (.ref C10) = true)
    (n_NoLine_falls : PySem.W.findIn K (.ref C10) "falls" = some none)
    (n_NoLine_letter : PySem.W.findIn K (.ref C10) "letter" = some none)
    {nm_11 q_11 : Str} {N_11 : Addr} {bs_11 sub_11 : List Value} {sn_11 : List Str} {ab_11 : Bool} {col_11 : Option Bool} {dd_11 : Option Addr} {k0_11 k1_11 k2_11 k3_11 k5_11 : Option Value}
    (ax_11 : PySem.W.nsIn K mainGlobals "NoMachine" = some (some (.ref C11))) (lx_11 : K.lookup C11 = some (excClassObj nm_11 q_11 C11 N_11 bs_11 (.ref B :: xbm) true sn_11 sub_11 ab_11 col_11 dd_11 k0_11 k1_11 k2_11 k3_11 k5_11 "ValueError.__new__"))
    (ga_11 : PySem.W.findIn K (.ref C11) "__getattribute__" = some (some (.builtin "BaseException.__getattribute__"))) (gt_11 : PySem.W.findIn K (.ref C11) "__getattr__" = some none) (sa_11 : PySem.W.findIn K (.ref C11) "__setattr__" = some (some (.builtin "object.__setattr__"))) (cl_11 : PySem.W.findIn K (.ref C11) "__class__" = some (some (.builtin "object.__class__"))) (kp_11 : PySem.W.keepIn K (.ref C11) = true)
    (in_11 : PySem.W.findIn K (.ref C11) "__init__" = some (some (.builtin "ValueError.__init__")))
    {nm_12 q_12 : Str} {N_12 : Addr} {bs_12 sub_12 : List Value} {sn_12 : List Str} {ab_12 : Bool} {col_12 : Option Bool} {dd_12 : Option Addr} {k0_12 k1_12 k2_12 k3_12 k5_12 : Option Value}
    (ax_12 : PySem.W.nsIn K mainGlobals "NotRow" = some (some (.ref C12))) (lx_12 : K.lookup C12 = some (excClassObj nm_12 q_12 C12 N_12 bs_12 (.ref B :: xbm) true sn_12 sub_12 ab_12 col_12 dd_12 k0_12 k1_12 k2_12 k3_12 k5_12 "ValueError.__new__"))
    (ga_12 : PySem.W.findIn K (.ref C12) "__getattribute__" = some (some (.builtin "BaseException.__getattribute__"))) (gt_12 : PySem.W.findIn K (.ref C12) "__getattr__" = some none) (sa_12 : PySem.W.findIn K (.ref C12) "__setattr__" = some (some (.builtin "object.__setattr__"))) (cl_12 : PySem.W.findIn K (.ref C12) "__class__" = some (some (.builtin "object.__class__"))) (kp_12 : PySem.W.keepIn K (.ref C12) = true)
    (n_NotRow_way : PySem.W.findIn K (.ref C12) "way" = some none)
    {nm_13 q_13 : Str} {N_13 : Addr} {bs_13 sub_13 : List Value} {sn_13 : List Str} {ab_13 : Bool} {col_13 : Option Bool} {dd_13 : Option Addr} {k0_13 k1_13 k2_13 k3_13 k5_13 : Option Value}
    (ax_13 : PySem.W.nsIn K mainGlobals "Busy" = some (some (.ref C13))) (lx_13 : K.lookup C13 = some (excClassObj nm_13 q_13 C13 N_13 bs_13 (.ref B :: xbm) true sn_13 sub_13 ab_13 col_13 dd_13 k0_13 k1_13 k2_13 k3_13 k5_13 "ValueError.__new__"))
    (ga_13 : PySem.W.findIn K (.ref C13) "__getattribute__" = some (some (.builtin "BaseException.__getattribute__"))) (gt_13 : PySem.W.findIn K (.ref C13) "__getattr__" = some none) (sa_13 : PySem.W.findIn K (.ref C13) "__setattr__" = some (some (.builtin "object.__setattr__"))) (cl_13 : PySem.W.findIn K (.ref C13) "__class__" = some (some (.builtin "object.__class__"))) (kp_13 : PySem.W.keepIn K (.ref C13) = true)
    (in_13 : PySem.W.findIn K (.ref C13) "__init__" = some (some (.builtin "ValueError.__init__")))
    {nm_14 q_14 : Str} {N_14 : Addr} {bs_14 sub_14 : List Value} {sn_14 : List Str} {ab_14 : Bool} {col_14 : Option Bool} {dd_14 : Option Addr} {k0_14 k1_14 k2_14 k3_14 k5_14 : Option Value}
    (ax_14 : PySem.W.nsIn K mainGlobals "NotReached" = some (some (.ref C14))) (lx_14 : K.lookup C14 = some (excClassObj nm_14 q_14 C14 N_14 bs_14 (.ref B :: xbm) true sn_14 sub_14 ab_14 col_14 dd_14 k0_14 k1_14 k2_14 k3_14 k5_14 "ValueError.__new__"))
    (ga_14 : PySem.W.findIn K (.ref C14) "__getattribute__" = some (some (.builtin "BaseException.__getattribute__"))) (gt_14 : PySem.W.findIn K (.ref C14) "__getattr__" = some none) (sa_14 : PySem.W.findIn K (.ref C14) "__setattr__" = some (some (.builtin "object.__setattr__"))) (cl_14 : PySem.W.findIn K (.ref C14) "__class__" = some (some (.builtin "object.__class__"))) (kp_14 : PySem.W.keepIn K (.ref C14) = true)
    (n_NotReached_machine : PySem.W.findIn K (.ref C14) "machine" = some none)
    {nm_15 q_15 : Str} {N_15 : Addr} {bs_15 sub_15 : List Value} {sn_15 : List Str} {ab_15 : Bool} {col_15 : Option Bool} {dd_15 : Option Addr} {k0_15 k1_15 k2_15 k3_15 k5_15 : Option Value}
    (ax_15 : PySem.W.nsIn K mainGlobals "NoMark" = some (some (.ref C15))) (lx_15 : K.lookup C15 = some (excClassObj nm_15 q_15 C15 N_15 bs_15 (.ref B :: xbm) true sn_15 sub_15 ab_15 col_15 dd_15 k0_15 k1_15 k2_15 k3_15 k5_15 "ValueError.__new__"))
    (ga_15 : PySem.W.findIn K (.ref C15) "__getattribute__" = some (some (.builtin "BaseException.__getattribute__"))) (gt_15 : PySem.W.findIn K (.ref C15) "__getattr__" = some none) (sa_15 : PySem.W.findIn K (.ref C15) "__setattr__" = some (some (.builtin "object.__setattr__"))) (cl_15 : PySem.W.findIn K (.ref C15) "__class__" = some (some (.builtin "object.__class__"))) (kp_15 : PySem.W.keepIn K (.ref C15) = true)
    (in_15 : PySem.W.findIn K (.ref C15) "__init__" = some (some (.builtin "ValueError.__init__")))
    {nm_16 q_16 : Str} {N_16 : Addr} {bs_16 sub_16 : List Value} {sn_16 : List Str} {ab_16 : Bool} {col_16 : Option Bool} {dd_16 : Option Addr} {k0_16 k1_16 k2_16 k3_16 k5_16 : Option Value}
    (ax_16 : PySem.W.nsIn K mainGlobals "NoRow" = some (some (.ref C16))) (lx_16 : K.lookup C16 = some (excClassObj nm_16 q_16 C16 N_16 bs_16 (.ref B :: xbm) true sn_16 sub_16 ab_16 col_16 dd_16 k0_16 k1_16 k2_16 k3_16 k5_16 "ValueError.__new__"))
    (ga_16 : PySem.W.findIn K (.ref C16) "__getattribute__" = some (some (.builtin "BaseException.__getattribute__"))) (gt_16 : PySem.W.findIn K (.ref C16) "__getattr__" = some none) (sa_16 : PySem.W.findIn K (.ref C16) "__setattr__" = some (some (.builtin "object.__setattr__"))) (cl_16 : PySem.W.findIn K (.ref C16) "__class__" = some (some (.builtin "object.__class__"))) (kp_16 : PySem.W.keepIn K (.ref C16) = true)
    (in_16 : PySem.W.findIn K (.ref C16) "__init__" = some (some (.builtin "ValueError.__init__")))
    {nm_17 q_17 : Str} {N_17 : Addr} {bs_17 sub_17 : List Value} {sn_17 : List Str} {ab_17 : Bool} {col_17 : Option Bool} {dd_17 : Option Addr} {k0_17 k1_17 k2_17 k3_17 k5_17 : Option Value}
    (ax_17 : PySem.W.nsIn K mainGlobals "NoName" = some (some (.ref C17))) (lx_17 : K.lookup C17 = some (excClassObj nm_17 q_17 C17 N_17 bs_17 (.ref B :: xbm) true sn_17 sub_17 ab_17 col_17 dd_17 k0_17 k1_17 k2_17 k3_17 k5_17 "ValueError.__new__"))
    (ga_17 : PySem.W.findIn K (.ref C17) "__getattribute__" = some (some (.builtin "BaseException.__getattribute__"))) (gt_17 : PySem.W.findIn K (.ref C17) "__getattr__" = some none) (sa_17 : PySem.W.findIn K (.ref C17) "__setattr__" = some (some (.builtin "object.__setattr__"))) (cl_17 : PySem.W.findIn K (.ref C17) "__class__" = some (some (.builtin "object.__class__"))) (kp_17 : PySem.W.keepIn K (.ref C17) = true)
    (in_17 : PySem.W.findIn K (.ref C17) "__init__" = some (some (.builtin "ValueError.__init__")))
    {nm_18 q_18 : Str} {N_18 : Addr} {bs_18 sub_18 : List Value} {sn_18 : List Str} {ab_18 : Bool} {col_18 : Option Bool} {dd_18 : Option Addr} {k0_18 k1_18 k2_18 k3_18 k5_18 : Option Value}
    (ax_18 : PySem.W.nsIn K mainGlobals "NoDeed" = some (some (.ref C18))) (lx_18 : K.lookup C18 = some (excClassObj nm_18 q_18 C18 N_18 bs_18 (.ref B :: xbm) true sn_18 sub_18 ab_18 col_18 dd_18 k0_18 k1_18 k2_18 k3_18 k5_18 "ValueError.__new__"))
    (ga_18 : PySem.W.findIn K (.ref C18) "__getattribute__" = some (some (.builtin "BaseException.__getattribute__"))) (gt_18 : PySem.W.findIn K (.ref C18) "__getattr__" = some none) (sa_18 : PySem.W.findIn K (.ref C18) "__setattr__" = some (some (.builtin "object.__setattr__"))) (cl_18 : PySem.W.findIn K (.ref C18) "__class__" = some (some (.builtin "object.__class__"))) (kp_18 : PySem.W.keepIn K (.ref C18) = true)
    (in_18 : PySem.W.findIn K (.ref C18) "__init__" = some (some (.builtin "ValueError.__init__")))
    {od0 an0 : Option Addr} {sl0 : Array (Option Value)} {oc0 kV0 dc0 pm0 cd0 ct0 : Value}
    (a0 : PySem.W.nsIn K mainGlobals "_law_pot" = some (some (.ref f0))) (l0 : K.lookup f0 = some ⟨oc0, od0, .func (PySem.W.fnOf "_law_pot" "_law_pot" (defArgs s_law_pot) (defBody s_law_pot) (defScope s_law_pot) .none kV0 dc0 pm0 an0 cd0 ct0), sl0⟩) (c0 : PySem.W.codeIn K cd0 "_law_pot" = true) (k0 : PySem.W.keepIn K (.ref f0) = true)
    {od1 an1 : Option Addr} {sl1 : Array (Option Value)} {oc1 kV1 dc1 pm1 cd1 ct1 : Value}
    (a1 : PySem.W.nsIn K mainGlobals "_law_digit" = some (some (.ref f1))) (l1 : K.lookup f1 = some ⟨oc1, od1, .func (PySem.W.fnOf "_law_digit" "_law_digit" (defArgs s_law_digit) (defBody s_law_digit) (defScope s_law_digit) .none kV1 dc1 pm1 an1 cd1 ct1), sl1⟩) (c1 : PySem.W.codeIn K cd1 "_law_digit" = true) (k1 : PySem.W.keepIn K (.ref f1) = true)
    {od2 an2 : Option Addr} {sl2 : Array (Option Value)} {oc2 kV2 dc2 pm2 cd2 ct2 : Value}
    (a2 : PySem.W.nsIn K mainGlobals "_law_text" = some (some (.ref f2))) (l2 : K.lookup f2 = some ⟨oc2, od2, .func (PySem.W.fnOf "_law_text" "_law_text" (defArgs s_law_text) (defBody s_law_text) (defScope s_law_text) .none kV2 dc2 pm2 an2 cd2 ct2), sl2⟩) (c2 : PySem.W.codeIn K cd2 "_law_text" = true) (k2 : PySem.W.keepIn K (.ref f2) = true)
    {od3 an3 : Option Addr} {sl3 : Array (Option Value)} {oc3 kV3 dc3 pm3 cd3 ct3 : Value}
    (a3 : PySem.W.nsIn K mainGlobals "_law_number" = some (some (.ref f3))) (l3 : K.lookup f3 = some ⟨oc3, od3, .func (PySem.W.fnOf "_law_number" "_law_number" (defArgs s_law_number) (defBody s_law_number) (defScope s_law_number) .none kV3 dc3 pm3 an3 cd3 ct3), sl3⟩) (c3 : PySem.W.codeIn K cd3 "_law_number" = true) (k3 : PySem.W.keepIn K (.ref f3) = true)
    {od4 an4 : Option Addr} {sl4 : Array (Option Value)} {oc4 kV4 dc4 pm4 cd4 ct4 : Value}
    (a4 : PySem.W.nsIn K mainGlobals "_law_letter" = some (some (.ref f4))) (l4 : K.lookup f4 = some ⟨oc4, od4, .func (PySem.W.fnOf "_law_letter" "_law_letter" (defArgs s_law_letter) (defBody s_law_letter) (defScope s_law_letter) .none kV4 dc4 pm4 an4 cd4 ct4), sl4⟩) (c4 : PySem.W.codeIn K cd4 "_law_letter" = true) (k4 : PySem.W.keepIn K (.ref f4) = true)
    {od5 an5 : Option Addr} {sl5 : Array (Option Value)} {oc5 kV5 dc5 pm5 cd5 ct5 : Value}
    (a5 : PySem.W.nsIn K mainGlobals "_law_which" = some (some (.ref f5))) (l5 : K.lookup f5 = some ⟨oc5, od5, .func (PySem.W.fnOf "_law_which" "_law_which" (defArgs s_law_which) (defBody s_law_which) (defScope s_law_which) .none kV5 dc5 pm5 an5 cd5 ct5), sl5⟩) (c5 : PySem.W.codeIn K cd5 "_law_which" = true) (k5 : PySem.W.keepIn K (.ref f5) = true)
    {od6 an6 : Option Addr} {sl6 : Array (Option Value)} {oc6 kV6 dc6 pm6 cd6 ct6 : Value}
    (a6 : PySem.W.nsIn K mainGlobals "_law_plain" = some (some (.ref f6))) (l6 : K.lookup f6 = some ⟨oc6, od6, .func (PySem.W.fnOf "_law_plain" "_law_plain" (defArgs s_law_plain) (defBody s_law_plain) (defScope s_law_plain) .none kV6 dc6 pm6 an6 cd6 ct6), sl6⟩) (c6 : PySem.W.codeIn K cd6 "_law_plain" = true) (k6 : PySem.W.keepIn K (.ref f6) = true)
    {od7 an7 : Option Addr} {sl7 : Array (Option Value)} {oc7 kV7 dc7 pm7 cd7 ct7 : Value}
    (a7 : PySem.W.nsIn K mainGlobals "_law_met" = some (some (.ref f7))) (l7 : K.lookup f7 = some ⟨oc7, od7, .func (PySem.W.fnOf "_law_met" "_law_met" (defArgs s_law_met) (defBody s_law_met) (defScope s_law_met) .none kV7 dc7 pm7 an7 cd7 ct7), sl7⟩) (c7 : PySem.W.codeIn K cd7 "_law_met" = true) (k7 : PySem.W.keepIn K (.ref f7) = true)
    {od8 an8 : Option Addr} {sl8 : Array (Option Value)} {oc8 kV8 dc8 pm8 cd8 ct8 : Value}
    (a8 : PySem.W.nsIn K mainGlobals "_law_with_number" = some (some (.ref f8))) (l8 : K.lookup f8 = some ⟨oc8, od8, .func (PySem.W.fnOf "_law_with_number" "_law_with_number" (defArgs s_law_with_number) (defBody s_law_with_number) (defScope s_law_with_number) .none kV8 dc8 pm8 an8 cd8 ct8), sl8⟩) (c8 : PySem.W.codeIn K cd8 "_law_with_number" = true) (k8 : PySem.W.keepIn K (.ref f8) = true)
    {od9 an9 : Option Addr} {sl9 : Array (Option Value)} {oc9 kV9 dc9 pm9 cd9 ct9 : Value}
    (a9 : PySem.W.nsIn K mainGlobals "_law_with_letter" = some (some (.ref f9))) (l9 : K.lookup f9 = some ⟨oc9, od9, .func (PySem.W.fnOf "_law_with_letter" "_law_with_letter" (defArgs s_law_with_letter) (defBody s_law_with_letter) (defScope s_law_with_letter) .none kV9 dc9 pm9 an9 cd9 ct9), sl9⟩) (c9 : PySem.W.codeIn K cd9 "_law_with_letter" = true) (k9 : PySem.W.keepIn K (.ref f9) = true)
    {od10 an10 : Option Addr} {sl10 : Array (Option Value)} {oc10 kV10 dc10 pm10 cd10 ct10 : Value}
    (a10 : PySem.W.nsIn K mainGlobals "law" = some (some (.ref f10))) (l10 : K.lookup f10 = some ⟨oc10, od10, .func (PySem.W.fnOf "law" "law" (defArgs s_law) (defBody s_law) (defScope s_law) .none kV10 dc10 pm10 an10 cd10 ct10), sl10⟩) (c10 : PySem.W.codeIn K cd10 "law" = true) (k10 : PySem.W.keepIn K (.ref f10) = true)
    {od11 an11 : Option Addr} {sl11 : Array (Option Value)} {oc11 kV11 dc11 pm11 cd11 ct11 : Value}
    (a11 : PySem.W.findIn K (.ref C1) "__init__" = some (some (.ref f11))) (i11 : PySem.W.isFn K (.ref f11) = true) (l11 : K.lookup f11 = some ⟨oc11, od11, .func (PySem.W.fnOf "__init__" "BadDeed.__init__" (defArgs s_BadDeed) (defBody s_BadDeed) (defScope s_BadDeed) .none kV11 dc11 pm11 an11 cd11 ct11), sl11⟩) (c11 : PySem.W.codeIn K cd11 "BadDeed.__init__" = true) (k11 : PySem.W.keepIn K (.ref f11) = true)
    {od12 an12 : Option Addr} {sl12 : Array (Option Value)} {oc12 kV12 dc12 pm12 cd12 ct12 : Value}
    (a12 : PySem.W.findIn K (.ref C4) "__init__" = some (some (.ref f12))) (i12 : PySem.W.isFn K (.ref f12) = true) (l12 : K.lookup f12 = some ⟨oc12, od12, .func (PySem.W.fnOf "__init__" "NoLetter.__init__" (defArgs s_NoLetter) (defBody s_NoLetter) (defScope s_NoLetter) .none kV12 dc12 pm12 an12 cd12 ct12), sl12⟩) (c12 : PySem.W.codeIn K cd12 "NoLetter.__init__" = true) (k12 : PySem.W.keepIn K (.ref f12) = true)
    {od13 an13 : Option Addr} {sl13 : Array (Option Value)} {oc13 kV13 dc13 pm13 cd13 ct13 : Value}
    (a13 : PySem.W.findIn K (.ref C5) "__init__" = some (some (.ref f13))) (i13 : PySem.W.isFn K (.ref f13) = true) (l13 : K.lookup f13 = some ⟨oc13, od13, .func (PySem.W.fnOf "__init__" "NotFirst.__init__" (defArgs s_NotFirst) (defBody s_NotFirst) (defScope s_NotFirst) .none kV13 dc13 pm13 an13 cd13 ct13), sl13⟩) (c13 : PySem.W.codeIn K cd13 "NotFirst.__init__" = true) (k13 : PySem.W.keepIn K (.ref f13) = true)
    {od14 an14 : Option Addr} {sl14 : Array (Option Value)} {oc14 kV14 dc14 pm14 cd14 ct14 : Value}
    (a14 : PySem.W.findIn K (.ref C8) "__init__" = some (some (.ref f14))) (i14 : PySem.W.isFn K (.ref f14) = true) (l14 : K.lookup f14 = some ⟨oc14, od14, .func (PySem.W.fnOf "__init__" "Orphaned.__init__" (defArgs s_Orphaned) (defBody s_Orphaned) (defScope s_Orphaned) .none kV14 dc14 pm14 an14 cd14 ct14), sl14⟩) (c14 : PySem.W.codeIn K cd14 "Orphaned.__init__" = true) (k14 : PySem.W.keepIn K (.ref f14) = true)
    {od15 an15 : Option Addr} {sl15 : Array (Option Value)} {oc15 kV15 dc15 pm15 cd15 ct15 : Value}
    (a15 : PySem.W.findIn K (.ref C10) "__init__" = some (some (.ref f15))) (i15 : PySem.W.isFn K (.ref f15) = true) (l15 : K.lookup f15 = some ⟨oc15, od15, .func (PySem.W.fnOf "__init__" "NoLine.__init__" (defArgs s_NoLine) (defBody s_NoLine) (defScope s_NoLine) .none kV15 dc15 pm15 an15 cd15 ct15), sl15⟩) (c15 : PySem.W.codeIn K cd15 "NoLine.__init__" = true) (k15 : PySem.W.keepIn K (.ref f15) = true)
    {od16 an16 : Option Addr} {sl16 : Array (Option Value)} {oc16 kV16 dc16 pm16 cd16 ct16 : Value}
    (a16 : PySem.W.findIn K (.ref C12) "__init__" = some (some (.ref f16))) (i16 : PySem.W.isFn K (.ref f16) = true) (l16 : K.lookup f16 = some ⟨oc16, od16, .func (PySem.W.fnOf "__init__" "NotRow.__init__" (defArgs s_NotRow) (defBody s_NotRow) (defScope s_NotRow) .none kV16 dc16 pm16 an16 cd16 ct16), sl16⟩) (c16 : PySem.W.codeIn K cd16 "NotRow.__init__" = true) (k16 : PySem.W.keepIn K (.ref f16) = true)
    {od17 an17 : Option Addr} {sl17 : Array (Option Value)} {oc17 kV17 dc17 pm17 cd17 ct17 : Value}
    (a17 : PySem.W.findIn K (.ref C14) "__init__" = some (some (.ref f17))) (i17 : PySem.W.isFn K (.ref f17) = true) (l17 : K.lookup f17 = some ⟨oc17, od17, .func (PySem.W.fnOf "__init__" "NotReached.__init__" (defArgs s_NotReached) (defBody s_NotReached) (defScope s_NotReached) .none kV17 dc17 pm17 an17 cd17 ct17), sl17⟩) (c17 : PySem.W.codeIn K cd17 "NotReached.__init__" = true) (k17 : PySem.W.keepIn K (.ref f17) = true)
    (z_isinstance : PySem.W.nsIn K mainGlobals "isinstance" = some none)
    (z_len : PySem.W.nsIn K mainGlobals "len" = some none)
    (z_range : PySem.W.nsIn K mainGlobals "range" = some none)
    (z_min : PySem.W.nsIn K mainGlobals "min" = some none)
    (z_max : PySem.W.nsIn K mainGlobals "max" = some none)
    (z_abs : PySem.W.nsIn K mainGlobals "abs" = some none)
    (z_divmod : PySem.W.nsIn K mainGlobals "divmod" = some none)
    (z_all : PySem.W.nsIn K mainGlobals "all" = some none)
    (z_list : PySem.W.nsIn K mainGlobals "list" = some none)
    (z_ValueError : PySem.W.nsIn K mainGlobals "ValueError" = some none)
    (hinj : ∀ i, i < 19 → ∀ j, j < 19 → ([C0, C1, C2, C3, C4, C5, C6, C7, C8, C9, C10, C11, C12, C13, C14, C15, C16, C17, C18] : List Addr).getD i 0 = ([C0, C1, C2, C3, C4, C5, C6, C7, C8, C9, C10, C11, C12, C13, C14, C15, C16, C17, C18] : List Addr).getD j 0 → i = j) (hnB : ∀ i, i < 19 → ([C0, C1, C2, C3, C4, C5, C6, C7, C8, C9, C10, C11, C12, C13, C14, C15, C16, C17, C18] : List Addr).getD i 0 ≠ B)
    : ∃ fd : FuncData, (∀ (s : Shared) (v : Value), BindsTo s fd ⟨[v], []⟩ [("_law_script", v)]) ∧ ∀ base : Heap, K.In base → base.Ns mainGlobals mg → FnOk l.prog w K mg base CX0 5 fa fd ["_law_script"] (sp_law K) := by
  have X0 : XCls K C0 B := xcls_mk lx_0 ga_0 gt_0 sa_0 cl_0 cg ct kp_0
  have X1 : XCls K C1 B := xcls_mk lx_1 ga_1 gt_1 sa_1 cl_1 cg ct kp_1
  have X2 : XCls K C2 B := xcls_mk lx_2 ga_2 gt_2 sa_2 cl_2 cg ct kp_2
  have X3 : XCls K C3 B := xcls_mk lx_3 ga_3 gt_3 sa_3 cl_3 cg ct kp_3
  have X4 : XCls K C4 B := xcls_mk lx_4 ga_4 gt_4 sa_4 cl_4 cg ct kp_4
  have X5 : XCls K C5 B := xcls_mk lx_5 ga_5 gt_5 sa_5 cl_5 cg ct kp_5
  have X6 : XCls K C6 B := xcls_mk lx_6 ga_6 gt_6 sa_6 cl_6 cg ct kp_6
  have X7 : XCls K C7 B := xcls_mk lx_7 ga_7 gt_7 sa_7 cl_7 cg ct kp_7
  have X8 : XCls K C8 B := xcls_mk lx_8 ga_8 gt_8 sa_8 cl_8 cg ct kp_8
  have X9 : XCls K C9 B := xcls_mk lx_9 ga_9 gt_9 sa_9 cl_9 cg ct kp_9
  have X10 : XCls K C10 B := xcls_mk lx_10 ga_10 gt_10 sa_10 cl_10 cg ct kp_10
  have X11 : XCls K C11 B := xcls_mk lx_11 ga_11 gt_11 sa_11 cl_11 cg ct kp_11
  have X12 : XCls K C12 B := xcls_mk lx_12 ga_12 gt_12 sa_12 cl_12 cg ct kp_12
  have X13 : XCls K C13 B := xcls_mk lx_13 ga_13 gt_13 sa_13 cl_13 cg ct kp_13
  have X14 : XCls K C14 B := xcls_mk lx_14 ga_14 gt_14 sa_14 cl_14 cg ct kp_14
  have X15 : XCls K C15 B := xcls_mk lx_15 ga_15 gt_15 sa_15 cl_15 cg ct kp_15
  have X16 : XCls K C16 B := xcls_mk lx_16 ga_16 gt_16 sa_16 cl_16 cg ct kp_16
  have X17 : XCls K C17 B := xcls_mk lx_17 ga_17 gt_17 sa_17 cl_17 cg ct kp_17
  have X18 : XCls K C18 B := xcls_mk lx_18 ga_18 gt_18 sa_18 cl_18 cg ct kp_18
  have all : ∀ C ∈ ([C0, C1, C2, C3, C4, C5, C6, C7, C8, C9, C10, C11, C12, C13, C14, C15, C16, C17, C18] : List Addr), XCls K C B := (List.forall_mem_cons.mpr ⟨X0, (List.forall_mem_cons.mpr ⟨X1, (List.forall_mem_cons.mpr ⟨X2, (List.forall_mem_cons.mpr ⟨X3, (List.forall_mem_cons.mpr ⟨X4, (List.forall_mem_cons.mpr ⟨X5, (List.forall_mem_cons.mpr ⟨X6, (List.forall_mem_cons.mpr ⟨X7, (List.forall_mem_cons.mpr ⟨X8, (List.forall_mem_cons.mpr ⟨X9, (List.forall_mem_cons.mpr ⟨X10, (List.forall_mem_cons.mpr ⟨X11, (List.forall_mem_cons.mpr ⟨X12, (List.forall_mem_cons.mpr ⟨X13, (List.forall_mem_cons.mpr ⟨X14, (List.forall_mem_cons.mpr ⟨X15, (List.forall_mem_cons.mpr ⟨X16, (List.forall_mem_cons.mpr ⟨X17, (List.forall_mem_cons.mpr ⟨X18, (fun _ h => absurd h (by simp))⟩)⟩)⟩)⟩)⟩)⟩)⟩)⟩)⟩)⟩)⟩)⟩)⟩)⟩)⟩)⟩)⟩)⟩)⟩)
  have T : Tx K mg B (fun i : Nat => ([C0, C1, C2, C3, C4, C5, C6, C7, C8, C9, C10, C11, C12, C13, C14, C15, C16, C17, C18] : List Addr).getD i 0) := {
    b_isinstance := PySem.W.mg_none_of X G z_isinstance
    b_len := PySem.W.mg_none_of X G z_len
    b_range := PySem.W.mg_none_of X G z_range
    b_min := PySem.W.mg_none_of X G z_min
    b_max := PySem.W.mg_none_of X G z_max
    b_abs := PySem.W.mg_none_of X G z_abs
    b_divmod := PySem.W.mg_none_of X G z_divmod
    b_all := PySem.W.mg_none_of X G z_all
    b_list := PySem.W.mg_none_of X G z_list
    b_ValueError := PySem.W.mg_none_of X G z_ValueError
    m_BadMachine := PySem.W.mg_of X G ax_0
    m_BadDeed := PySem.W.mg_of X G ax_1
    m_NoText := PySem.W.mg_of X G ax_2
    m_BadNet := PySem.W.mg_of X G ax_3
    m_NoLetter := PySem.W.mg_of X G ax_4
    m_NotFirst := PySem.W.mg_of X G ax_5
    m_NoCount := PySem.W.mg_of X G ax_6
    m_NoEvent := PySem.W.mg_of X G ax_7
    m_Orphaned := PySem.W.mg_of X G ax_8
    m_TooMany := PySem.W.mg_of X G ax_9
    m_NoLine := PySem.W.mg_of X G ax_10
    m_NoMachine := PySem.W.mg_of X G ax_11
    m_NotRow := PySem.W.mg_of X G ax_12
    m_Busy := PySem.W.mg_of X G ax_13
    m_NotReached := PySem.W.mg_of X G ax_14
    m_NoMark := PySem.W.mg_of X G ax_15
    m_NoRow := PySem.W.mg_of X G ax_16
    m_NoName := PySem.W.mg_of X G ax_17
    m_NoDeed := PySem.W.mg_of X G ax_18
    m_NetError := PySem.W.mg_of X G aB
    x_BadMachine := ⟨X0, in_0, PySem.W.mg_of X G ax_0⟩
    x_NoText := ⟨X2, in_2, PySem.W.mg_of X G ax_2⟩
    x_BadNet := ⟨X3, in_3, PySem.W.mg_of X G ax_3⟩
    x_NoCount := ⟨X6, in_6, PySem.W.mg_of X G ax_6⟩
    x_NoEvent := ⟨X7, in_7, PySem.W.mg_of X G ax_7⟩
    x_TooMany := ⟨X9, in_9, PySem.W.mg_of X G ax_9⟩
    x_NoMachine := ⟨X11, in_11, PySem.W.mg_of X G ax_11⟩
    x_Busy := ⟨X13, in_13, PySem.W.mg_of X G ax_13⟩
    x_NoMark := ⟨X15, in_15, PySem.W.mg_of X G ax_15⟩
    x_NoRow := ⟨X16, in_16, PySem.W.mg_of X G ax_16⟩
    x_NoName := ⟨X17, in_17, PySem.W.mg_of X G ax_17⟩
    x_NoDeed := ⟨X18, in_18, PySem.W.mg_of X G ax_18⟩
    cl := fun i hi => all _ (by
      have e : ([C0, C1, C2, C3, C4, C5, C6, C7, C8, C9, C10, C11, C12, C13, C14, C15, C16, C17, C18] : List Addr).getD i 0 = ([C0, C1, C2, C3, C4, C5, C6, C7, C8, C9, C10, C11, C12, C13, C14, C15, C16, C17, C18] : List Addr)[i]'hi := by simp only [List.getD_eq_getElem?_getD, List.getElem?_eq_getElem (show i < ([C0, C1, C2, C3, C4, C5, C6, C7, C8, C9, C10, C11, C12, C13, C14, C15, C16, C17, C18] : List Addr).length from hi), Option.getD_some]
      show ([C0, C1, C2, C3, C4, C5, C6, C7, C8, C9, C10, C11, C12, C13, C14, C15, C16, C17, C18] : List Addr).getD i 0 ∈ ([C0, C1, C2, C3, C4, C5, C6, C7, C8, C9, C10, C11, C12, C13, C14, C15, C16, C17, C18] : List Addr)
      rw [e]; exact List.getElem_mem _)
    inj := fun i j hi hj e => hinj i hi j hj e
    nB := hnB
    isB := by rw [isB]; rfl
    tyB := tyB
    n_BadDeed_at := n_BadDeed_at
    n_NoLetter_at := n_NoLetter_at
    n_NotFirst_at := n_NotFirst_at
    n_Orphaned_letter := n_Orphaned_letter
    n_NoLine_falls := n_NoLine_falls
    n_NoLine_letter := n_NoLine_letter
    n_NotRow_way := n_NotRow_way
    n_NotReached_machine := n_NotReached_machine
  }
  have e := hfa.symm.trans (PySem.W.mg_of X G a10)
  cases e
  have F0 := fun_mk (st := s_law_pot) l0 c0 k0
  have t_law_pot : Top1 K mg "_law_pot" "_law_pot" s_law_pot ["_law_script", "_law_k"] := top1_mk X G F0 a0 b_law_pot
  have F1 := fun_mk (st := s_law_digit) l1 c1 k1
  have t_law_digit : Top1 K mg "_law_digit" "_law_digit" s_law_digit ["_law_pot_here", "_law_many"] := top1_mk X G F1 a1 b_law_digit
  have F2 := fun_mk (st := s_law_text) l2 c2 k2
  have t_law_text : Top1 K mg "_law_text" "_law_text" s_law_text ["_law_pot_here"] := top1_mk X G F2 a2 b_law_text
  have F3 := fun_mk (st := s_law_number) l3 c3 k3
  have t_law_number : Top1 K mg "_law_number" "_law_number" s_law_number ["_law_pot_here"] := top1_mk X G F3 a3 b_law_number
  have F4 := fun_mk (st := s_law_letter) l4 c4 k4
  have t_law_letter : Top1 K mg "_law_letter" "_law_letter" s_law_letter ["_law_pot_here"] := top1_mk X G F4 a4 b_law_letter
  have F5 := fun_mk (st := s_law_which) l5 c5 k5
  have t_law_which : Top1 K mg "_law_which" "_law_which" s_law_which ["_law_e"] := top1_mk X G F5 a5 b_law_which
  have F6 := fun_mk (st := s_law_plain) l6 c6 k6
  have t_law_plain : Top1 K mg "_law_plain" "_law_plain" s_law_plain ["_law_text_here"] := top1_mk X G F6 a6 b_law_plain
  have F7 := fun_mk (st := s_law_met) l7 c7 k7
  have t_law_met : Top1 K mg "_law_met" "_law_met" s_law_met ["_law_number_here", "_law_e"] := top1_mk X G F7 a7 b_law_met
  have F8 := fun_mk (st := s_law_with_number) l8 c8 k8
  have t_law_with_number : Top1 K mg "_law_with_number" "_law_with_number" s_law_with_number ["_law_pot_here"] := top1_mk X G F8 a8 b_law_with_number
  have F9 := fun_mk (st := s_law_with_letter) l9 c9 k9
  have t_law_with_letter : Top1 K mg "_law_with_letter" "_law_with_letter" s_law_with_letter ["_law_pot_here"] := top1_mk X G F9 a9 b_law_with_letter
  have F10 := fun_mk (st := s_law) l10 c10 k10
  have F11 := fun_mk (st := s_BadDeed) l11 c11 k11
  have t_BadDeed : XTop K mg "BadDeed" C1 B "BadDeed.__init__" s_BadDeed ["self", "at"] := xtop_mk X G X1 a11 i11 F11 ax_1 b_BadDeed
  have F12 := fun_mk (st := s_NoLetter) l12 c12 k12
  have t_NoLetter : XTop K mg "NoLetter" C4 B "NoLetter.__init__" s_NoLetter ["self", "at"] := xtop_mk X G X4 a12 i12 F12 ax_4 b_NoLetter
  have F13 := fun_mk (st := s_NotFirst) l13 c13 k13
  have t_NotFirst : XTop K mg "NotFirst" C5 B "NotFirst.__init__" s_NotFirst ["self", "at"] := xtop_mk X G X5 a13 i13 F13 ax_5 b_NotFirst
  have F14 := fun_mk (st := s_Orphaned) l14 c14 k14
  have t_Orphaned : XTop K mg "Orphaned" C8 B "Orphaned.__init__" s_Orphaned ["self", "letter"] := xtop_mk X G X8 a14 i14 F14 ax_8 b_Orphaned
  have F15 := fun_mk (st := s_NoLine) l15 c15 k15
  have t_NoLine : XTop K mg "NoLine" C10 B "NoLine.__init__" s_NoLine ["self", "falls", "letter"] := xtop_mk X G X10 a15 i15 F15 ax_10 b_NoLine
  have F16 := fun_mk (st := s_NotRow) l16 c16 k16
  have t_NotRow : XTop K mg "NotRow" C12 B "NotRow.__init__" s_NotRow ["self", "way"] := xtop_mk X G X12 a16 i16 F16 ax_12 b_NotRow
  have F17 := fun_mk (st := s_NotReached) l17 c17 k17
  have t_NotReached : XTop K mg "NotReached" C14 B "NotReached.__init__" s_NotReached ["self", "machine"] := xtop_mk X G X14 a17 i17 F17 ax_14 b_NotReached
  refine ⟨PySem.W.fnOf "law" "law" (defArgs s_law) (defBody s_law) (defScope s_law) .none kV10 dc10 pm10 an10 cd10 ct10, fun s v => .of_eq rfl, fun base _ _ => ?_⟩
  exact core T F10 t_law_pot t_law_digit t_law_text t_law_number t_law_letter t_law_which t_law_plain t_law_met t_law_with_number t_law_with_letter t_BadDeed t_NoLetter t_NotFirst t_Orphaned t_NoLine t_NotRow t_NotReached
theorem walk {l : PySem.W.OpenLaw} {q : Program} {loose : List Str} {XP : (Str → Option Value) → Heap → Prop} {YP : World → Heap → Prop} {d : DefRec} {K : Params → PySem.W.Frag} (hn : l.most = some 63) (hdf : d.params.defaults = [])
    (hY : ∀ (w : World) (h : Heap), YP w h → (K w.params).In h)
    (F : ∀ (w : World) (mg : Str → Option Value) (fa : Addr) (h : Heap), (K w.params).In h → h.Ns mainGlobals mg → mg d.name = some (.ref fa) →
      ∃ fd : FuncData, (∀ (s : Shared) (u : Value), BindsTo s fd ⟨[u], []⟩ [("_law_script", u)]) ∧ ∀ base : Heap, (K w.params).In base → base.Ns mainGlobals mg → FnOk l.prog w (K w.params) mg base CX0 5 fa fd ["_law_script"] (sp_law (K w.params))) :
    PySem.W.WalkO q loose XP YP l.row.toRowW d [] (fun f vs => PySem.call f vs) :=
  L2.walk_of (n := 63) (k := 5) (x := "_law_script") (CX := fun _ => CX0) (sp := fun w => sp_law (K w.params)) hn (by decide) hdf ⟨rfl, by decide, by decide⟩ hY F (fun _ _ a ns hl _ hS => ⟨a, ns, rfl, hS, hl, fun _ => rfl⟩) fun _ _ _ _ _ z => z
end K18

set_option Elab.async false
set_option linter.all false
set_option maxRecDepth 100000
set_option maxHeartbeats 4000000
def PySem.W.Fast.tw13114953004115714109 : Unit := ()
def PySem.W.Fast.tw6254255679877541051 : Unit := ()
def PySem.W.Fast.tw15570370888738453090 : Unit := ()
def PySem.W.Fast.tw6073309273985224780 : Unit := ()
def PySem.W.Fast.tw17050087943951319569 : Unit := ()
def PySem.W.Fast.tw8345775681609974003 : Unit := ()
def PySem.W.Fast.tw16831848847419663813 : Unit := ()
def PySem.W.Fast.tw6113119772300466926 : Unit := ()
def PySem.W.Fast.tw2735722055304465653 : Unit := ()
def PySem.W.Fast.tw12394688469893424192 : Unit := ()
def PySem.W.Fast.tw17537570562891150529 : Unit := ()
def PySem.W.Fast.tw305021382989012529 : Unit := ()
def PySem.W.Fast.tw322445614381393624 : Unit := ()
def PySem.W.Fast.tw14094573609565569366 : Unit := ()
def PySem.W.Fast.tw3254255533348312123 : Unit := ()
def PySem.W.Fast.tw14100479529489373859 : Unit := ()
def PySem.W.Fast.tw8642815281856379913 : Unit := ()
def PySem.W.Fast.tw1117915079872428815 : Unit := ()
def PySem.W.Fast.tw2974145362772857678 : Unit := ()
def PySem.W.Fast.tw11485436560342345298 : Unit := ()
def PySem.W.Fast.tw15147624647859932627 : Unit := ()
def PySem.W.Fast.tw8831978037461516889 : Unit := ()
def PySem.W.Fast.tw8313813179121330749 : Unit := ()
def PySem.W.Fast.tw14369082387476183868 : Unit := ()
def PySem.W.Fast.tw13434922607277152615 : Unit := ()
def PySem.W.Fast.tw200933442758781733 : Unit := ()
def PySem.W.Fast.tw5940324218182620260 : Unit := ()
def PySem.W.Fast.tw14847266060177001809 : Unit := ()
def PySem.W.Fast.tw12106719416950470485 : Unit := ()
def PySem.W.Fast.tw15922797915648488684 : Unit := ()
def PySem.W.Fast.tw9342867299078159624 : Unit := ()
def PySem.W.Fast.tw10320541592636408087 : Unit := ()
def PySem.W.Fast.tw7661668081421608266 : Unit := ()
def PySem.W.Fast.tw16132411877307743313 : Unit := ()
def PySem.W.Fast.tw11374797612349897858 : Unit := ()
def PySem.W.Fast.tw2933799790870460635 : Unit := ()
def PySem.W.Fast.tw15296195220363418764 : Unit := ()
def PySem.W.Fast.tw4452179503620924774 : Unit := ()
def PySem.W.Fast.tw1039715601631427311 : Unit := ()
def PySem.W.Fast.tw6540308610518166548 : Unit := ()
def PySem.W.Fast.tw13661585604595138459 : Unit := ()
def PySem.W.Fast.tw14928717204431812679 : Unit := ()
def PySem.W.Fast.tw5294800364984849660 : Unit := ()
def PySem.W.Fast.tw263955222421628262 : Unit := ()
def PySem.W.Fast.tw11530072247981273811 : Unit := ()
def PySem.W.Fast.tw10040628785212267131 : Unit := ()
def PySem.W.Fast.tw16660807825930350241 : Unit := ()
def PySem.W.Fast.tw1504979481301635074 : Unit := ()
def PySem.W.Fast.tw4183653545776678155 : Unit := ()
def PySem.W.Fast.tw13171664102594088681 : Unit := ()
def PySem.W.Fast.tw10535475587494246087 : Unit := ()
def PySem.W.Fast.tw4378908088000110585 : Unit := ()
def PySem.W.Fast.tw1915515910134959939 : Unit := ()
def PySem.W.Fast.tw12958250420231191667 : Unit := ()
def PySem.W.Fast.tw11451482178085940841 : Unit := ()
def PySem.W.Fast.tw16151075564610004685 : Unit := ()
def PySem.W.Fast.tw9972099766195646394 : Unit := ()
def PySem.W.Fast.tw4254128316959931298 : Unit := ()
def PySem.W.Fast.tw4446200012687836327 : Unit := ()
def PySem.W.Fast.tw910773735626504686 : Unit := ()
def PySem.W.Fast.tw15707025072402852391 : Unit := ()
def PySem.W.Fast.tw7998273210928249505 : Unit := ()
def PySem.W.Fast.tw10436218812046789672 : Unit := ()
def PySem.W.Fast.tw17116733030097521633 : Unit := ()
def PySem.W.Fast.tw16215073692993688594 : Unit := ()
def PySem.W.Fast.tw1334457463694713817 : Unit := ()
def PySem.W.Fast.tw17424828803860072774 : Unit := ()
def PySem.W.Fast.tw3866040027229515207 : Unit := ()
def PySem.W.Fast.tw7927569968401104075 : Unit := ()
def PySem.W.Fast.tw970126807452658124 : Unit := ()
def PySem.W.Fast.tw2438187658129276259 : Unit := ()
def PySem.W.Fast.tw12503681993441751622 : Unit := ()
def PySem.W.Fast.tw10137702206361805963 : Unit := ()
def PySem.W.Fast.tw17668278530473479288 : Unit := ()
def PySem.W.Fast.tw9660150230961913191 : Unit := ()
def PySem.W.Fast.tw3163721110791076121 : Unit := ()
def PySem.W.Fast.tw17128873091471417716 : Unit := ()
def PySem.W.Fast.tw6103169705863352040 : Unit := ()
def PySem.W.Fast.tw6015077536033286337 : Unit := ()
def PySem.W.Fast.tw10625147166747240339 : Unit := ()
def PySem.W.Fast.tw2045670287743610194 : Unit := ()
def PySem.W.Fast.tw7351645574498439268 : Unit := ()
def PySem.W.Fast.tw13723098542252242910 : Unit := ()
def PySem.W.Fast.tw15700327467676270807 : Unit := ()
def PySem.W.Fast.tw17708734683819815598 : Unit := ()
def PySem.W.Fast.tw13701088786657691233 : Unit := ()
def PySem.W.Fast.tw2636677712415053830 : Unit := ()
def PySem.W.Fast.tw12607132262714194383 : Unit := ()
def PySem.W.Fast.tw2943956171278802163 : Unit := ()
def PySem.W.Fast.tw1176499779342225401 : Unit := ()
def PySem.W.Fast.tw1072227040490130794 : Unit := ()
def PySem.W.Fast.tw12039035853375883456 : Unit := ()
def PySem.W.Fast.tw2362628784968852008 : Unit := ()
def PySem.W.Fast.tw11256264328421418459 : Unit := ()
def PySem.W.Fast.tw4844650468687769618 : Unit := ()
def PySem.W.Fast.tw5793933926605592440 : Unit := ()
def PySem.W.Fast.tw10698204742816686716 : Unit := ()
def PySem.W.Fast.tw2605738464107623209 : Unit := ()
def PySem.W.Fast.tw844798546734785793 : Unit := ()
def PySem.W.Fast.tw5693392521574145122 : Unit := ()
def PySem.W.Fast.tw9782701605720420390 : Unit := ()
def PySem.W.Fast.tw17353850154524331486 : Unit := ()
def PySem.W.Fast.tw17012298449666036190 : Unit := ()
def PySem.W.Fast.tw14930946324020078882 : Unit := ()
def PySem.W.Fast.tw8772868423675371284 : Unit := ()
def PySem.W.Fast.tw9000605861526780412 : Unit := ()
def PySem.W.Fast.tw12421696525615371191 : Unit := ()
def PySem.W.Fast.tw5704505428558054711 : Unit := ()
def PySem.W.Fast.tw14907230868360009345 : Unit := ()
def PySem.W.Fast.tw6663784734296616473 : Unit := ()
def PySem.W.Fast.tw4238211693751485652 : Unit := ()
def PySem.W.Fast.tw4524748876803630368 : Unit := ()
def PySem.W.Fast.tw11681601468072757119 : Unit := ()
def PySem.W.Fast.tw9323334749248037169 : Unit := ()
def PySem.W.Fast.tw9471859304117168607 : Unit := ()
def PySem.W.Fast.tw8552991990029978169 : Unit := ()
def PySem.W.Fast.tw9131967273783606161 : Unit := ()
def PySem.W.Fast.tw17153602606059241154 : Unit := ()
def PySem.W.Fast.tw17652589042305046733 : Unit := ()
def PySem.W.Fast.tw12716349000073825660 : Unit := ()
def PySem.W.Fast.tw13409164954177868474 : Unit := ()
def PySem.W.Fast.tw4142498461424938776 : Unit := ()
def PySem.W.Fast.tw685456229931611076 : Unit := ()
def PySem.W.Fast.tw4872948023112464956 : Unit := ()
def PySem.W.Fast.tw17204162524886950823 : Unit := ()
def PySem.W.Fast.tw3341150916451637225 : Unit := ()
def PySem.W.Fast.tw17931804883267750777 : Unit := ()
def PySem.W.Fast.tw1250820945877034112 : Unit := ()
def PySem.W.Fast.tw11899744442416827480 : Unit := ()
def PySem.W.Fast.tw5276775375352463359 : Unit := ()
def PySem.W.Fast.tw13942049083956234294 : Unit := ()
def PySem.W.Fast.tw9565363003419556720 : Unit := ()
def PySem.W.Fast.tw10066251674935113832 : Unit := ()
def PySem.W.Fast.tw13878683343872381135 : Unit := ()
def PySem.W.Fast.tw16806434016719348484 : Unit := ()
def PySem.W.Fast.tw8105144034013915233 : Unit := ()
def PySem.W.Fast.tw2063400942749388610 : Unit := ()
def PySem.W.Fast.tw4900677029928472892 : Unit := ()
def PySem.W.Fast.tw428190275291798242 : Unit := ()
def PySem.W.Fast.tw5948577718117746204 : Unit := ()
def PySem.W.Fast.tw11371746377004283959 : Unit := ()
def PySem.W.Fast.tw8770955328003757218 : Unit := ()
def PySem.W.Fast.tw1356329720991316816 : Unit := ()
def PySem.W.Fast.tw1869321378134945820 : Unit := ()
def PySem.W.Fast.tw12266162543410279290 : Unit := ()
def PySem.W.Fast.tw7313318234666483279 : Unit := ()
def PySem.W.Fast.tw13237015464588645336 : Unit := ()
def PySem.W.Fast.tw14864984591046375396 : Unit := ()
def PySem.W.Fast.tw5540669409645442365 : Unit := ()
def PySem.W.Fast.tw2872122596920270285 : Unit := ()
def PySem.W.Fast.tw15773573159067294019 : Unit := ()
def PySem.W.Fast.tw14377227301947136703 : Unit := ()
def PySem.W.Fast.tw16791899444576423512 : Unit := ()
def PySem.W.Fast.tw2718454087848425850 : Unit := ()
def PySem.W.Fast.tw1937022288240792021 : Unit := ()
def PySem.W.Fast.tw3196236269190847469 : Unit := ()
def PySem.W.Fast.tw11883667150763718593 : Unit := ()
def PySem.W.Fast.tw1588852614214158785 : Unit := ()
def PySem.W.Fast.tw10546975334562324429 : Unit := ()
def PySem.W.Fast.tw16582347646262296321 : Unit := ()
def PySem.W.Fast.tw7570022507368517550 : Unit := ()
def PySem.W.Fast.tw14738139593320829073 : Unit := ()
def PySem.W.Fast.tw10387977493943052280 : Unit := ()
def PySem.W.Fast.tw9603358514572230952 : Unit := ()
def PySem.W.Fast.tw5508684692320541912 : Unit := ()
def PySem.W.Fast.tw7898072529815879605 : Unit := ()
def PySem.W.Fast.tw5327804378469865142 : Unit := ()
def PySem.W.Fast.tw17321712597566784077 : Unit := ()
def PySem.W.Fast.tw15681950304909326071 : Unit := ()
def PySem.W.Fast.tw12624838202759128202 : Unit := ()
def PySem.W.Fast.tw13054964475629075775 : Unit := ()
def PySem.W.Fast.tw721210830570036939 : Unit := ()
def PySem.W.Fast.tw15025161258285847501 : Unit := ()
def PySem.W.Fast.tw10886816127764867652 : Unit := ()
def PySem.W.Fast.tw16059269303334112595 : Unit := ()
def PySem.W.Fast.tw16137728510263590029 : Unit := ()
def PySem.W.Fast.tw14386219704952394133 : Unit := ()
def PySem.W.Fast.tw16156718009176350905 : Unit := ()
def PySem.W.Fast.tw15607583584725258177 : Unit := ()
def PySem.W.Fast.tw16391331657929479469 : Unit := ()
def PySem.W.Fast.tw17767200601284825986 : Unit := ()
def PySem.W.Fast.tw9707958269590138926 : Unit := ()
def PySem.W.Fast.tw8675037300443317737 : Unit := ()
def PySem.W.Fast.tw9734448969502496675 : Unit := ()
def PySem.W.Fast.tw4019001873483386278 : Unit := ()
def PySem.W.Fast.tw18030544972588421089 : Unit := ()
def PySem.W.Fast.tw11124749358747785150 : Unit := ()
def PySem.W.Fast.tw15100048662733199666 : Unit := ()
def PySem.W.Fast.tw9116875992923798963 : Unit := ()
def PySem.W.Fast.tw4462906177988069023 : Unit := ()
def PySem.W.Fast.tw6955281909798085095 : Unit := ()
def PySem.W.Fast.tw3715218186334947523 : Unit := ()
def PySem.W.Fast.tw8569077726178480412 : Unit := ()
def PySem.W.Fast.tw8720650020735554998 : Unit := ()
def PySem.W.Fast.tw10698081023766427139 : Unit := ()
def PySem.W.Fast.tw2839485981038322879 : Unit := ()
def PySem.W.Fast.tw5109724305549405870 : Unit := ()
def PySem.W.Fast.tw1685523704233916467 : Unit := ()
def PySem.W.Fast.tw18234372877357098035 : Unit := ()
def PySem.W.Fast.tw9707090569795884560 : Unit := ()
def PySem.W.Fast.tw531655236584679912 : Unit := ()
def PySem.W.Fast.tw1658099451454604404 : Unit := ()
def PySem.W.Fast.tw14377008592243749395 : Unit := ()
def PySem.W.Fast.tw5179194632133650122 : Unit := ()
def PySem.W.Fast.tw18276979048900827145 : Unit := ()
def PySem.W.Fast.tw2728924704639421149 : Unit := ()
def PySem.W.Fast.tw1652914125278233644 : Unit := ()
def PySem.W.Fast.tw14326321805710996621 : Unit := ()
def PySem.W.Fast.tw14180703433593280233 : Unit := ()
def PySem.W.Fast.tw13905920376240600347 : Unit := ()
def PySem.W.Fast.tw3921229707867531453 : Unit := ()
def PySem.W.Fast.tw15767496109998786861 : Unit := ()
def PySem.W.Fast.tw5071883841576117473 : Unit := ()
def PySem.W.Fast.tw8699455758343360396 : Unit := ()
def PySem.W.Fast.tw18394766044980801604 : Unit := ()
def PySem.W.Fast.tw10205220503521829468 : Unit := ()
def PySem.W.Fast.tw6698433447761051934 : Unit := ()
def PySem.W.Fast.tw7448406607303888276 : Unit := ()
def PySem.W.Fast.tw16234765269880768090 : Unit := ()
def PySem.W.Fast.tw2068626129353549977 : Unit := ()
def PySem.W.Fast.tw13647104949856337324 : Unit := ()
def PySem.W.Fast.tw12926306785582592519 : Unit := ()
def PySem.W.Fast.tw9901780623659499408 : Unit := ()
def PySem.W.Fast.tw16187132269179479159 : Unit := ()
def PySem.W.Fast.tw17755386808822322258 : Unit := ()
def PySem.W.Fast.tw4595123877537639427 : Unit := ()
def PySem.W.Fast.tw15621852386391445599 : Unit := ()
def PySem.W.Fast.tw12641562765972770277 : Unit := ()
def PySem.W.Fast.tw7076415269944577929 : Unit := ()
def PySem.W.Fast.tw15468346892464286161 : Unit := ()
def PySem.W.Fast.tw5615226392910007433 : Unit := ()
def PySem.W.Fast.tw15981938849226632462 : Unit := ()
def PySem.W.Fast.tw14901064217948965422 : Unit := ()
def PySem.W.Fast.tw17043890348544597503 : Unit := ()
def PySem.W.Fast.tw2984384415121300393 : Unit := ()
def PySem.W.Fast.tw17721358746571357300 : Unit := ()
def PySem.W.Fast.tw4775022524541575088 : Unit := ()
def PySem.W.Fast.tw928954042842911309 : Unit := ()
def PySem.W.Fast.tw17315112892911414359 : Unit := ()
def PySem.W.Fast.tw12828150554273070379 : Unit := ()
def PySem.W.Fast.tw1015360546428772365 : Unit := ()
def PySem.W.Fast.tw2676164998305260608 : Unit := ()
def PySem.W.Fast.tw4575955148155085209 : Unit := ()
def PySem.W.Fast.tw12895115771984861454 : Unit := ()
def PySem.W.Fast.tw13850165562847544471 : Unit := ()
def PySem.W.Fast.tw14672207850142360069 : Unit := ()
def PySem.W.Fast.tw14452097790787008115 : Unit := ()
def PySem.W.Fast.tw6205161332055835936 : Unit := ()
def PySem.W.Fast.tw12045682601446737400 : Unit := ()
def PySem.W.Fast.tw83673321925938820 : Unit := ()
def PySem.W.Fast.tw9651313870859603489 : Unit := ()
def PySem.W.Fast.tw6186116058905663457 : Unit := ()
def PySem.W.Fast.tw11667562114791255842 : Unit := ()
def PySem.W.Fast.tw10881511925036806412 : Unit := ()
def PySem.W.Fast.tw8290254798358756367 : Unit := ()
def PySem.W.Fast.tw4153370687069124949 : Unit := ()
def PySem.W.Fast.tw11508569933805264656 : Unit := ()
def PySem.W.Fast.tw6186406625466621467 : Unit := ()
def PySem.W.Fast.tw13748392450713053894 : Unit := ()
def PySem.W.Fast.tw18114150301477974384 : Unit := ()
def PySem.W.Fast.tw6866292321555368842 : Unit := ()
def PySem.W.Fast.tw2941150141196201548 : Unit := ()
def PySem.W.Fast.tw12746438081110884822 : Unit := ()
def PySem.W.Fast.tw766010074327660376 : Unit := ()
def PySem.W.Fast.tw5410444106712927897 : Unit := ()
def PySem.W.Fast.tw12705936856705053407 : Unit := ()
def PySem.W.Fast.tw2713394321006773605 : Unit := ()
def PySem.W.Fast.tw11683818509640781312 : Unit := ()
def PySem.W.Fast.tw4485735480656989726 : Unit := ()
def PySem.W.Fast.tw1453534241926185498 : Unit := ()
def PySem.W.Fast.tw5694914141113687143 : Unit := ()
def PySem.W.Fast.tw978836278728242149 : Unit := ()
def PySem.W.Fast.tw9457374049604487795 : Unit := ()
def PySem.W.Fast.tw4352296684119087376 : Unit := ()
def PySem.W.Fast.tw13528855432979274471 : Unit := ()
def PySem.W.Fast.tw10876773618419334032 : Unit := ()
def PySem.W.Fast.tw1390773785399578268 : Unit := ()
def PySem.W.Fast.tw9639571858557419174 : Unit := ()
def PySem.W.Fast.tw666164408014913325 : Unit := ()
def PySem.W.Fast.tw11324989354181080370 : Unit := ()
def PySem.W.Fast.tw6398194657367214865 : Unit := ()
def PySem.W.Fast.tw4606044679329589740 : Unit := ()
def PySem.W.Fast.tw14804009278934430232 : Unit := ()
def PySem.W.Fast.tw11774458897687527162 : Unit := ()
def PySem.W.Fast.tw7950668490184118418 : Unit := ()
def PySem.W.Fast.tw15087929171621115176 : Unit := ()
def PySem.W.Fast.tw14440241768265173506 : Unit := ()
def PySem.W.Fast.tw12668439716177787317 : Unit := ()
def PySem.W.Fast.tw8484176734758574256 : Unit := ()
def PySem.W.Fast.tw10805186353509172256 : Unit := ()
def PySem.W.Fast.tw4745876002798360167 : Unit := ()
def PySem.W.Fast.tw3121831606407217180 : Unit := ()
def PySem.W.Fast.tw3696515806765305921 : Unit := ()
def PySem.W.Fast.tw13419025586468308951 : Unit := ()
def PySem.W.Fast.tw8350069156044491899 : Unit := ()
def PySem.W.Fast.tw10109153611072988469 : Unit := ()
def PySem.W.Fast.tw11973696240922836966 : Unit := ()
def PySem.W.Fast.tw12431291252001638688 : Unit := ()
def PySem.W.Fast.tw1011022897704299910 : Unit := ()
def PySem.W.Fast.tw2515651255621557654 : Unit := ()
def PySem.W.Fast.tw1404180530188889037 : Unit := ()
def PySem.W.Fast.tw3796721677442233548 : Unit := ()
def PySem.W.Fast.tw5096091583354755563 : Unit := ()
def PySem.W.Fast.tw17521275055278923162 : Unit := ()
def PySem.W.Fast.tw6015558986586785044 : Unit := ()
def PySem.W.Fast.tw9522353588752486637 : Unit := ()
def PySem.W.Fast.tw4597636347662094847 : Unit := ()
def PySem.W.Fast.tw1825608881382089109 : Unit := ()
def PySem.W.Fast.tw18052488631948339793 : Unit := ()
def PySem.W.Fast.tw1904533221266782307 : Unit := ()
def PySem.W.Fast.tw17807476695764258884 : Unit := ()
def PySem.W.Fast.tw8876710640623179341 : Unit := ()
def PySem.W.Fast.tw6903927413406044064 : Unit := ()
def PySem.W.Fast.tw29034016125063255 : Unit := ()
def PySem.W.Fast.tw17731855724278856559 : Unit := ()
def PySem.W.Fast.tw11026804575380453533 : Unit := ()
def PySem.W.Fast.tw6309564425760372047 : Unit := ()
def PySem.W.Fast.tw10969707802316692254 : Unit := ()
def PySem.W.Fast.tw12750751173589171385 : Unit := ()
def PySem.W.Fast.tw11317820049228607832 : Unit := ()
def PySem.W.Fast.tw4481651973639933577 : Unit := ()
def PySem.W.Fast.tw4328812483603275507 : Unit := ()
def PySem.W.Fast.tw2889461064987369882 : Unit := ()
def PySem.W.Fast.tw17373798036679835712 : Unit := ()
def PySem.W.Fast.tw14599791839241559007 : Unit := ()
def PySem.W.Fast.tw5235941803741965340 : Unit := ()
def PySem.W.Fast.tw13805786136207596896 : Unit := ()
def PySem.W.Fast.tw2332453775495487904 : Unit := ()
def PySem.W.Fast.tw5472275293513165017 : Unit := ()
def PySem.W.Fast.tw17657743910623800369 : Unit := ()
def PySem.W.Fast.tw4861615583595228124 : Unit := ()
def PySem.W.Fast.tw509864429995083339 : Unit := ()
def PySem.W.Fast.tw103867854007506888 : Unit := ()
def PySem.W.Fast.tw147082358981330146 : Unit := ()
def PySem.W.Fast.tw11992821549017703983 : Unit := ()
def PySem.W.Fast.tw8197009713178018487 : Unit := ()
def PySem.W.Fast.tw8793963587433894785 : Unit := ()
def PySem.W.Fast.tw14783142654474346546 : Unit := ()
def PySem.W.Fast.tw5259356295784109247 : Unit := ()
def PySem.W.Fast.tw6228643242250399216 : Unit := ()
def PySem.W.Fast.tw10878214830366454282 : Unit := ()
def PySem.W.Fast.tw10780697971859808817 : Unit := ()
def PySem.W.Fast.tw11241673961654500843 : Unit := ()
def PySem.W.Fast.tw17596202502232597441 : Unit := ()
def PySem.W.Fast.tw14274706642560478894 : Unit := ()
def PySem.W.Fast.tw17229638326063707286 : Unit := ()
def PySem.W.Fast.tw12315993076200086814 : Unit := ()
def PySem.W.Fast.tw10996013064299770184 : Unit := ()
def PySem.W.Fast.tw4613430001272079555 : Unit := ()
def PySem.W.Fast.tw15415970541171487527 : Unit := ()
def PySem.W.Fast.tw2572429135088660305 : Unit := ()
def PySem.W.Fast.tw17366049533199514353 : Unit := ()
def PySem.W.Fast.tw11268831641443018266 : Unit := ()
def PySem.W.Fast.tw2526518532793113376 : Unit := ()
def PySem.W.Fast.tw119820074418009449 : Unit := ()
def PySem.W.Fast.tw15541471783993860896 : Unit := ()
def PySem.W.Fast.tw4001890132185660401 : Unit := ()
def PySem.W.Fast.tw15179883821569814345 : Unit := ()
def PySem.W.Fast.tw5886978983797569597 : Unit := ()
def PySem.W.Fast.tw12378754467077340755 : Unit := ()
def PySem.W.Fast.tw2974871229011925272 : Unit := ()
def PySem.W.Fast.tw15772215078439081127 : Unit := ()
def PySem.W.Fast.tw9169447463923661947 : Unit := ()
def PySem.W.Fast.tw5784005222318868092 : Unit := ()
def PySem.W.Fast.tw10417924870680678075 : Unit := ()
def PySem.W.Fast.tw1931802657353231210 : Unit := ()
def PySem.W.Fast.tw18096487556807510107 : Unit := ()
def PySem.W.Fast.tw17832518073420803020 : Unit := ()
def PySem.W.Fast.tw16054849175957612583 : Unit := ()
def PySem.W.Fast.tw789370858363498616 : Unit := ()
def PySem.W.Fast.tw4097702619349748327 : Unit := ()
def PySem.W.Fast.tw7761110375874403394 : Unit := ()
def PySem.W.Fast.tw8829362358623971488 : Unit := ()
def PySem.W.Fast.tw10767893039541533330 : Unit := ()
def PySem.W.Fast.tw16383897385505451774 : Unit := ()
def PySem.W.Fast.tw15287373844463125232 : Unit := ()
def PySem.W.Fast.tw17926041432412773371 : Unit := ()
def PySem.W.Fast.tw9225473564911394540 : Unit := ()
def PySem.W.Fast.tw6262797157381148834 : Unit := ()
def PySem.W.Fast.tw13420105298603580223 : Unit := ()
def PySem.W.Fast.tw13014740193583858246 : Unit := ()
def PySem.W.Fast.tw17634714770653506440 : Unit := ()
def PySem.W.Fast.tw8684561672745742153 : Unit := ()
def PySem.W.Fast.tw193682978414338728 : Unit := ()
def PySem.W.Fast.tw2610627931137965895 : Unit := ()
def PySem.W.Fast.tw17578389411564238465 : Unit := ()
def PySem.W.Fast.tw6349144029104404947 : Unit := ()
def PySem.W.Fast.tw1852629410480506466 : Unit := ()
def PySem.W.Fast.tw2913469621341483745 : Unit := ()
def PySem.W.Fast.tw11200277232612950714 : Unit := ()
def PySem.W.Fast.tw5424749711389942334 : Unit := ()
def PySem.W.Fast.tw16501534139028350807 : Unit := ()
def PySem.W.Fast.tw14253604218323698560 : Unit := ()
def PySem.W.Fast.tw6098513652670052007 : Unit := ()
def PySem.W.Fast.tw15546714711546954477 : Unit := ()
def PySem.W.Fast.tw9259566041470696933 : Unit := ()
def PySem.W.Fast.tw9009522995484875476 : Unit := ()
def PySem.W.Fast.tw13806106714022133092 : Unit := ()
def PySem.W.Fast.tw17850556531740014252 : Unit := ()
def PySem.W.Fast.tw6273067357858302850 : Unit := ()
def PySem.W.Fast.tw5729023919764845543 : Unit := ()
def PySem.W.Fast.tw1572837346084948063 : Unit := ()
def PySem.W.Fast.tw17451154888668078424 : Unit := ()
def PySem.W.Fast.tw12541345954075919892 : Unit := ()
def PySem.W.Fast.tw12185850333962256042 : Unit := ()
def PySem.W.Fast.tw1539803100161199777 : Unit := ()
def PySem.W.Fast.tw18063502361984831274 : Unit := ()
def PySem.W.Fast.tw6419169013592260851 : Unit := ()
def PySem.W.Fast.tw7222970032366144593 : Unit := ()
def PySem.W.Fast.tw4017241631969445390 : Unit := ()
def PySem.W.Fast.tw1129728601836767433 : Unit := ()
def PySem.W.Fast.tw12754904759492517949 : Unit := ()
def PySem.W.Fast.tw2937617185589926341 : Unit := ()
def PySem.W.Fast.tw5504228425637239593 : Unit := ()
def PySem.W.Fast.tw16270434712279532678 : Unit := ()
def PySem.W.Fast.tw1612900632664800898 : Unit := ()
def PySem.W.Fast.tw17118348861246990282 : Unit := ()
def PySem.W.Fast.tw10798777647791850743 : Unit := ()
open PySem PySem.W PyProof.Rows
set_option maxRecDepth 100000 in
set_option maxHeartbeats 0 in
theorem PySem.Challenge.cw_cutrestore_k18_refusals_made_holds : PySem.Challenge.rw_cutrestore_k18_refusals_made.Holds := by
  w_on; o_law; k_head; (case hw => w_witness2)
  k_fill
  refine K18.walk (l := PySem.Challenge.rw_cutrestore_k18_refusals_made) rfl rfl (fun w h Y => PySem.W.kIn_of Y) ?F
  case F =>
    intro w mg fa h KX G hmg
    refine' K18.all_mk KX G hmg ?aB ?isB ?tyB ?cg ?ct ?ax_0 ?lx_0 ?ga_0 ?gt_0 ?sa_0 ?cl_0 ?kp_0 ?in_0 ?ax_1 ?lx_1 ?ga_1 ?gt_1 ?sa_1 ?cl_1 ?kp_1 ?n_BadDeed_at ?ax_2 ?lx_2 ?ga_2 ?gt_2 ?sa_2 ?cl_2 ?kp_2 ?in_2 ?ax_3 ?lx_3 ?ga_3 ?gt_3 ?sa_3 ?cl_3 ?kp_3 ?in_3 ?ax_4 ?lx_4 ?ga_4 ?gt_4 ?sa_4 ?cl_4 ?kp_4 ?n_NoLetter_at ?ax_5 ?lx_5 ?ga_5 ?gt_5 ?sa_5 ?cl_5 ?kp_5 ?n_NotFirst_at ?ax_6 ?lx_6 ?ga_6 ?gt_6 ?sa_6 ?cl_6 ?kp_6 ?in_6 ?ax_7 ?lx_7 ?ga_7 ?gt_7 ?sa_7 ?cl_7 ?kp_7 ?in_7 ?ax_8 ?lx_8 ?ga_8 ?gt_8 ?sa_8 ?cl_8 ?kp_8 ?n_Orphaned_letter ?ax_9 ?lx_9 ?ga_9 ?gt_9 ?sa_9 ?cl_9 ?kp_9 ?in_9 ?ax_10 ?lx_10 ?ga_10 ?gt_10 ?sa_10 ?cl_10 ?kp_10 ?n_NoLine_falls ?n_NoLine_letter ?ax_11 ?lx_11 ?ga_11 ?gt_11 ?sa_11 ?cl_11 ?kp_11 ?in_11 ?ax_12 ?lx_12 ?ga_12 ?gt_12 ?sa_12 ?cl_12 ?kp_12 ?n_NotRow_way ?ax_13 ?lx_13 ?ga_13 ?gt_13 ?sa_13 ?cl_13 ?kp_13 ?in_13 ?ax_14 ?lx_14 ?ga_14 ?gt_14 ?sa_14 ?cl_14 ?kp_14 ?n_NotReached_machine ?ax_15 ?lx_15 ?ga_15 ?gt_15 ?sa_15 ?cl_15 ?kp_15 ?in_15 ?ax_16 ?lx_16 ?ga_16 ?gt_16 ?sa_16 ?cl_16 ?kp_16 ?in_16 ?ax_17 ?lx_17 ?ga_17 ?gt_17 ?sa_17 ?cl_17 ?kp_17 ?in_17 ?ax_18 ?lx_18 ?ga_18 ?gt_18 ?sa_18 ?cl_18 ?kp_18 ?in_18 ?a0 ?l0 ?c0 ?k0 ?a1 ?l1 ?c1 ?k1 ?a2 ?l2 ?c2 ?k2 ?a3 ?l3 ?c3 ?k3 ?a4 ?l4 ?c4 ?k4 ?a5 ?l5 ?c5 ?k5 ?a6 ?l6 ?c6 ?k6 ?a7 ?l7 ?c7 ?k7 ?a8 ?l8 ?c8 ?k8 ?a9 ?l9 ?c9 ?k9 ?a10 ?l10 ?c10 ?k10 ?a11 ?i11 ?l11 ?c11 ?k11 ?a12 ?i12 ?l12 ?c12 ?k12 ?a13 ?i13 ?l13 ?c13 ?k13 ?a14 ?i14 ?l14 ?c14 ?k14 ?a15 ?i15 ?l15 ?c15 ?k15 ?a16 ?i16 ?l16 ?c16 ?k16 ?a17 ?i17 ?l17 ?c17 ?k17 ?z_isinstance ?z_len ?z_range ?z_min ?z_max ?z_abs ?z_divmod ?z_all ?z_list ?z_ValueError ?hinj ?hnB
    (case aB => k_is)
    (case isB => k_is)
    (case tyB => k_is)
    (case cg => k_is)
    (case ct => k_is)
    (case ax_0 => k_is)
    (case lx_0 => k_is)
    (case ga_0 => k_is)
    (case gt_0 => k_is)
    (case sa_0 => k_is)
    (case cl_0 => k_is)
    (case kp_0 => k_is)
    (case in_0 => k_is)
    (case ax_1 => k_is)
    (case lx_1 => k_is)
    (case ga_1 => k_is)
    (case gt_1 => k_is)
    (case sa_1 => k_is)
    (case cl_1 => k_is)
    (case kp_1 => k_is)
    (case n_BadDeed_at => k_is)
    (case ax_2 => k_is)
    (case lx_2 => k_is)
    (case ga_2 => k_is)
    (case gt_2 => k_is)
    (case sa_2 => k_is)
    (case cl_2 => k_is)
    (case kp_2 => k_is)
    (case in_2 => k_is)
    (case ax_3 => k_is)
    (case lx_3 => k_is)
    (case ga_3 => k_is)
    (case gt_3 => k_is)
    (case sa_3 => k_is)
    (case cl_3 => k_is)
    (case kp_3 => k_is)
    (case in_3 => k_is)
    (case ax_4 => k_is)
    (case lx_4 => k_is)
    (case ga_4 => k_is)
    (case gt_4 => k_is)
    (case sa_4 => k_is)
    (case cl_4 => k_is)
    (case kp_4 => k_is)
    (case n_NoLetter_at => k_is)
    (case ax_5 => k_is)
    (case lx_5 => k_is)
    (case ga_5 => k_is)
    (case gt_5 => k_is)
    (case sa_5 => k_is)
    (case cl_5 => k_is)
    (case kp_5 => k_is)
    (case n_NotFirst_at => k_is)
    (case ax_6 => k_is)
    (case lx_6 => k_is)
    (case ga_6 => k_is)
    (case gt_6 => k_is)
    (case sa_6 => k_is)
    (case cl_6 => k_is)
    (case kp_6 => k_is)
    (case in_6 => k_is)
    (case ax_7 => k_is)
    (case lx_7 => k_is)
    (case ga_7 => k_is)
    (case gt_7 => k_is)
    (case sa_7 => k_is)
    (case cl_7 => k_is)
    (case kp_7 => k_is)
    (case in_7 => k_is)
    (case ax_8 => k_is)
    (case lx_8 => k_is)
    (case ga_8 => k_is)
    (case gt_8 => k_is)
    (case sa_8 => k_is)
    (case cl_8 => k_is)
    (case kp_8 => k_is)
    (case n_Orphaned_letter => k_is)
    (case ax_9 => k_is)
    (case lx_9 => k_is)
    (case ga_9 => k_is)
    (case gt_9 => k_is)
    (case sa_9 => k_is)
    (case cl_9 => k_is)
    (case kp_9 => k_is)
    (case in_9 => k_is)
    (case ax_10 => k_is)
    (case lx_10 => k_is)
    (case ga_10 => k_is)
    (case gt_10 => k_is)
    (case sa_10 => k_is)
    (case cl_10 => k_is)
    (case kp_10 => k_is)
    (case n_NoLine_falls => k_is)
    (case n_NoLine_letter => k_is)
    (case ax_11 => k_is)
    (case lx_11 => k_is)
    (case ga_11 => k_is)
    (case gt_11 => k_is)
    (case sa_11 => k_is)
    (case cl_11 => k_is)
    (case kp_11 => k_is)
    (case in_11 => k_is)
    (case ax_12 => k_is)
    (case lx_12 => k_is)
    (case ga_12 => k_is)
    (case gt_12 => k_is)
    (case sa_12 => k_is)
    (case cl_12 => k_is)
    (case kp_12 => k_is)
    (case n_NotRow_way => k_is)
    (case ax_13 => k_is)
    (case lx_13 => k_is)
    (case ga_13 => k_is)
    (case gt_13 => k_is)
    (case sa_13 => k_is)
    (case cl_13 => k_is)
    (case kp_13 => k_is)
    (case in_13 => k_is)
    (case ax_14 => k_is)
    (case lx_14 => k_is)
    (case ga_14 => k_is)
    (case gt_14 => k_is)
    (case sa_14 => k_is)
    (case cl_14 => k_is)
    (case kp_14 => k_is)
    (case n_NotReached_machine => k_is)
    (case ax_15 => k_is)
    (case lx_15 => k_is)
    (case ga_15 => k_is)
    (case gt_15 => k_is)
    (case sa_15 => k_is)
    (case cl_15 => k_is)
    (case kp_15 => k_is)
    (case in_15 => k_is)
    (case ax_16 => k_is)
    (case lx_16 => k_is)
    (case ga_16 => k_is)
    (case gt_16 => k_is)
    (case sa_16 => k_is)
    (case cl_16 => k_is)
    (case kp_16 => k_is)
    (case in_16 => k_is)
    (case ax_17 => k_is)
    (case lx_17 => k_is)
    (case ga_17 => k_is)
    (case gt_17 => k_is)
    (case sa_17 => k_is)
    (case cl_17 => k_is)
    (case kp_17 => k_is)
    (case in_17 => k_is)
    (case ax_18 => k_is)
    (case lx_18 => k_is)
    (case ga_18 => k_is)
    (case gt_18 => k_is)
    (case sa_18 => k_is)
    (case cl_18 => k_is)
    (case kp_18 => k_is)
    (case in_18 => k_is)
    (case a0 => k_is)
    (case l0 => k_is)
    (case c0 => k_is)
    (case k0 => k_is)
    (case a1 => k_is)
    (case l1 => k_is)
    (case c1 => k_is)
    (case k1 => k_is)
    (case a2 => k_is)
    (case l2 => k_is)
    (case c2 => k_is)
    (case k2 => k_is)
    (case a3 => k_is)
    (case l3 => k_is)
    (case c3 => k_is)
    (case k3 => k_is)
    (case a4 => k_is)
    (case l4 => k_is)
    (case c4 => k_is)
    (case k4 => k_is)
    (case a5 => k_is)
    (case l5 => k_is)
    (case c5 => k_is)
    (case k5 => k_is)
    (case a6 => k_is)
    (case l6 => k_is)
    (case c6 => k_is)
    (case k6 => k_is)
    (case a7 => k_is)
    (case l7 => k_is)
    (case c7 => k_is)
    (case k7 => k_is)
    (case a8 => k_is)
    (case l8 => k_is)
    (case c8 => k_is)
    (case k8 => k_is)
    (case a9 => k_is)
    (case l9 => k_is)
    (case c9 => k_is)
    (case k9 => k_is)
    (case a10 => k_is)
    (case l10 => k_is)
    (case c10 => k_is)
    (case k10 => k_is)
    (case a11 => k_is)
    (case i11 => k_is)
    (case l11 => k_is)
    (case c11 => k_is)
    (case k11 => k_is)
    (case a12 => k_is)
    (case i12 => k_is)
    (case l12 => k_is)
    (case c12 => k_is)
    (case k12 => k_is)
    (case a13 => k_is)
    (case i13 => k_is)
    (case l13 => k_is)
    (case c13 => k_is)
    (case k13 => k_is)
    (case a14 => k_is)
    (case i14 => k_is)
    (case l14 => k_is)
    (case c14 => k_is)
    (case k14 => k_is)
    (case a15 => k_is)
    (case i15 => k_is)
    (case l15 => k_is)
    (case c15 => k_is)
    (case k15 => k_is)
    (case a16 => k_is)
    (case i16 => k_is)
    (case l16 => k_is)
    (case c16 => k_is)
    (case k16 => k_is)
    (case a17 => k_is)
    (case i17 => k_is)
    (case l17 => k_is)
    (case c17 => k_is)
    (case k17 => k_is)
    (case z_isinstance => k_is)
    (case z_len => k_is)
    (case z_range => k_is)
    (case z_min => k_is)
    (case z_max => k_is)
    (case z_abs => k_is)
    (case z_divmod => k_is)
    (case z_all => k_is)
    (case z_list => k_is)
    (case z_ValueError => k_is)
    (case hinj => decide +kernel)
    (case hnB => decide +kernel)

