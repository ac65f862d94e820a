import PyProof.Rows.All
import Wide.All
import OpenK.AllK
import Wide.FinOn
import Lean
import PyProof.EqAt
import PyProof.EqKinds
import PyProof.TupleCall
import PySem.Challenge.RW_widelines_k05_lines_of_any_thing
local macro_rules | `(tactic| omega) => `(tactic| first | with_reducible assumption | decide | omega +splitMinMax)
theorem PySem.W.Fast.te4716910519553920525 : True := True.intro
set_option Elab.async false
set_option linter.all false
set_option maxRecDepth 100000
set_option bootstrap.genMatcherCode false
set_option genSizeOf false
namespace L2
open PySem PySem.Spec PyProof.Rows

noncomputable abbrev Key := Sum Int Str
noncomputable def X1 : Key → Value → Bool
 | .inl k, v => Value.isInt k v
 | .inr x, v => Value.isStrOf x v
noncomputable def b3R (w : World) : Key → Int
 | .inl k => hashInt k
 | .inr x => hashStr w x
theorem R3 : ∀ {k : Key} {v : Value}, X1 k v = true → (∃ i t, k = Sum.inl i ∧ v = Value.int i t) ∨ (∃ x t, k = Sum.inr x ∧ v = Value.str x t)
 | .inl i, v, h => by
  obtain ⟨t, e⟩ := Value.isInt_shape (k := i) (v := v) h
  exact .inl ⟨i, t, rfl, e⟩
 | .inr x, v, h => by
  obtain ⟨t, e⟩ := Value.isStrOf_shape (x := x) (v := v) h
  exact .inr ⟨x, t, rfl, e⟩
theorem b3e (i : Int) (t : Tok) : X1 (.inl i) (.int i t) = true := by simp [X1, Value.isInt]
theorem b1b (x : Str) (t : Tok) : X1 (.inr x) (.str x t) = true := by simp [X1, Value.isStrOf]
theorem a75 (a b : Int) : decide ((Sum.inl a : Key) = Sum.inl b) = (a == b) := by
 by_cases e : a = b
 ·subst e; simp
 ·have h : ¬ (Sum.inl a : Key) = Sum.inl b := fun q => e (Sum.inl.inj q)
  rw [decide_eq_false h]
  exact (beq_eq_false_iff_ne.mpr e).symm
theorem b0m (a b : Str) : decide ((Sum.inr a : Key) = Sum.inr b) = decide (a = b) := by
 by_cases e : a = b
 ·subst e; simp
 ·have h : ¬ (Sum.inr a : Key) = Sum.inr b := fun q => e (Sum.inr.inj q)
  rw [decide_eq_false h, decide_eq_false e]
theorem b2k (a : Int) (b : Str) : decide ((Sum.inl a : Key) = Sum.inr b) = false := decide_eq_false (fun q => nomatch q)
theorem b0h (a : Str) (b : Int) : decide ((Sum.inr a : Key) = Sum.inl b) = false := decide_eq_false (fun q => nomatch q)

noncomputable def F7 (prog : Program) (w : World) : PySem.KeyKind prog w Key where
 is := X1
 hash := b3R w
 inj := fun v a b ha hb => by
  rcases R3 ha with ⟨i, t, rfl, rfl⟩ | ⟨x, t, rfl, rfl⟩
  ·rcases R3 hb with ⟨j, u, rfl, e⟩ | ⟨y, u, rfl, e⟩
   ·injection e with e1 _; rw [e1]
   ·exact nomatch e
  ·rcases R3 hb with ⟨j, u, rfl, e⟩ | ⟨y, u, rfl, e⟩
   ·exact nomatch e
   ·injection e with e1 _; rw [e1]
 byValue := fun k v h => by
  rcases R3 h with ⟨i, t, rfl, rfl⟩ | ⟨x, t, rfl, rfl⟩ <;> rfl
 pyHash := fun hv h => by
  rcases R3 hv with ⟨i, t, rfl, rfl⟩ | ⟨x, t, rfl, rfl⟩
  ·exact wpAny_pyHash_int h
  ·exact wpAny_pyHash_str h
 eqBool := fun hu hv h => by
  rcases R3 hu with ⟨i, t, rfl, rfl⟩ | ⟨x, t, rfl, rfl⟩
  ·rcases R3 hv with ⟨j, u, rfl, rfl⟩ | ⟨y, u, rfl, rfl⟩
   ·rw [a75] at h; exact wpAny_eqBool_int h
   ·rw [b2k] at h; exact SeqAt.EqAt.int_str i t y u _ _ _ _ h
  ·rcases R3 hv with ⟨j, u, rfl, rfl⟩ | ⟨y, u, rfl, rfl⟩
   ·rw [b0h] at h; exact SeqAt.EqAt.str_int x t j u _ _ _ _ h
   ·rw [b0m] at h; exact wpAny_eqBool_str h
 «strs» := fun k x t v h => by
  rcases R3 h with ⟨i, u, rfl, e⟩ | ⟨y, u, rfl, e⟩
  ·exact nomatch e
  ·injection e with e1 _
   subst e1
   cases v <;> rfl

theorem a7Q (prog : Program) (w : World) (i : Int) (t : Tok) : (F7 prog w).is (.inl i) (.int i t) = true := b3e i t
theorem b28 (prog : Program) (w : World) (x : Str) (t : Tok) : (F7 prog w).is (.inr x) (.str x t) = true := b1b x t
end L2

namespace L2
open PySem PySem.Spec PyProof.Rows

inductive V where
 | non | bl (b : Bool) | int (i : Int) | str (x : Str) | byt (b : Array UInt8) | flt (b : UInt64) | ref (a : Addr) | ty (n : String)
 deriving DecidableEq

noncomputable def RelV : V → Value → Prop
 | .non, u => u = Value.none
 | .bl b, u => u = Value.bool b
 | .int i, u => ∃ t, u = Value.int i t
 | .str x, u => ∃ t, u = Value.str x t
 | .byt b, u => ∃ t, u = Value.bytes b t
 | .flt b, u => ∃ t, u = Value.float b t
 | .ref a, u => u = Value.ref a
 | .ty n, u => u = Value.type n

noncomputable abbrev Vals : List V → List Value → Prop := Paired RelV
theorem Vals.length {xs : List V} {us : List Value} (r : Vals xs us) : xs.length = us.length := Paired.length r
theorem Vals.get : ∀ {xs : List V} {us : List Value} {i : Nat} {x : V}, Vals xs us → xs[i]? = some x → ∃ u, us[i]? = some u ∧ RelV x u
 | _, _, _, _, .nil, e => by simp at e
 | _, _, 0, _, .cons r _, e => by simp at e; subst e; exact ⟨_, rfl, r⟩
 | _, _, i + 1, x, .cons _ t, e => by
  obtain ⟨u, h1, h2⟩ := Vals.get (i := i) (x := x) t (by simpa using e)
  exact ⟨u, by simpa using h1, h2⟩
theorem Vals.append : ∀ {xs ys : List V} {us ws : List Value}, Vals xs us → Vals ys ws → Vals (xs ++ ys) (us ++ ws) := by
 intro xs ys us ws h s
 induction h with
 | nil => exact s
 | cons r t ih => exact .cons r ih
theorem Vals.take : ∀ {xs : List V} {us : List Value} (n : Nat), Vals xs us → Vals (xs.take n) (us.take n)
 | _, _, 0, _ => .nil
 | _, _, _ + 1, .nil => .nil
 | _, _, n + 1, .cons r t => .cons r (Vals.take n t)
theorem Vals.drop : ∀ {xs : List V} {us : List Value} (n : Nat), Vals xs us → Vals (xs.drop n) (us.drop n)
 | _, _, 0, r => r
 | _, _, _ + 1, .nil => .nil
 | _, _, n + 1, .cons _ t => Vals.drop n t
noncomputable def RelO : Option V → Option Value → Prop
 | some v, some u => RelV v u
 | none, none => True
 | _, _ => False
noncomputable def KV {κ : Type} : List (κ × V) → List (κ × Value) → Prop := Paired fun (p : κ × V) (q : κ × Value) => p.1 = q.1 ∧ RelV p.2 q.2

noncomputable def kV : Key → V
 | .inl i => .int i
 | .inr x => .str x

inductive HO where
 | lst (xs : List V)
 | tup (xs : List V)
 | dK (kvs : List (Key × V)) | dT (kvs : List (List Key × V))
 | set (S : Int → Bool) (n : Nat)
 | ins (C dx : Addr) (fs : List (Str × V))
 | own (x : Addr)
 | xd (fs : List (Str × V))
 | met (f x : Addr)
 | rng (lo hi : Int)
 | frz (o : Obj) (u : HO)
 | tbl (ps : Array Value)
 | ext (φ : Heap → Prop)

noncomputable abbrev Hp := Addr → Option HO
noncomputable def upd (H : Hp) (a : Addr) (o : HO) : Hp := fun b => if b = a then some o else H b
theorem C9 {H : Hp} {a : Addr} {o : HO} : upd H a o a = some o := by unfold upd; rw [if_pos rfl]
theorem u5 {H : Hp} {a b : Addr} {o : HO} (h : b ≠ a) : upd H a o b = H b := by unfold upd; rw [if_neg h]
theorem b1v {H : Hp} {a b : Addr} {o u : HO} (h : H a = some o) (h' : H b = some u) (d : o ≠ u) : a ≠ b := by
 intro e; subst e; rw [h] at h'; exact d (Option.some.inj h')
theorem L0 {H : Hp} {a b : Addr} {o : HO} (h : H a = some o) (h' : H b = none) : a ≠ b := by
 intro e; subst e; rw [h] at h'; cases h'

section
variable (P : Program) (w : World)
noncomputable def ObjOk (H : Hp) (h : Heap) (a : Addr) : HO → Prop
 | .lst xs => xs.length ≤ sizeLine ∧ ∃ (its : List Value) (n : Nat), Vals xs its ∧ h.get? a = some { cls := .type "list", data := .seq its.toArray n }
 | .tup xs => xs.length ≤ sizeLine ∧ ∃ its : List Value, Vals xs its ∧ IsTup h a its.toArray
 | .dK kvs => kvs.length ≤ sizeLine ∧ (a == sysModules) = false ∧ ∃ vs, KV kvs vs ∧ h.DictOf (F7 P w) a vs
 | .dT kvs => kvs.length ≤ sizeLine ∧ (a == sysModules) = false ∧ ∃ xs : List (List Key × Addr × Value),
   Paired (fun (p : List Key × V) (q : List Key × Addr × Value) => p.1 = q.1 ∧ H q.2.1 = some (.tup (p.1.map kV)) ∧ RelV p.2 q.2.2) kvs xs ∧
   ∃ o es ep, h.get? a = some o ∧ o.ExactDict ∧ o.data = .dict es ep ∧ es.toList = xs.map (entryOfKey (tupleKind (F7 P w))) ∧ (xs.map (·.1)).Nodup
 | .set S n => h.SetOf (intKind P w) a S n
 | .ins C dx fs => H dx = some (.own a) ∧ fs.length ≤ 1000 ∧ dx ≠ a ∧ h.get? a = some (PySem.W.instObj C dx) ∧
   ∃ mA, h.Ns1 dx mA ∧ (∀ f, RelO (fs.lookup f) (mA f)) ∧ PySem.Within mA (fs.map (·.1))
 | .own _ => ∃ o, h.get? a = some o
 | .xd fs => ∃ mA, h.Ns1 a mA ∧ ∀ f, RelO (fs.lookup f) (mA f)
 | .rng lo hi => ∃ t u v, h.get? a = some { cls := .type "range", data := .fields #[.int lo t, .int hi u, .int 1 v] }
 | .frz o u => h.get? a = some o ∧ ObjOk H h a u
 | .tbl ps => h.get? a = some { cls := .none, data := .fields ps }
 | .met f x => h.get? a = some (PySem.W.methodObj (.ref f) (.ref x))
 | .ext φ => φ h ∧ (∃ o, h.get? a = some o) ∧ ∀ h1 h2 : Heap, φ h1 → (∀ o, h1.get? a = some o → h2.get? a = some o) → φ h2
noncomputable def HOk (H : Hp) (h : Heap) : Prop := ∀ a o, H a = some o → ObjOk P w H h a o
end

section
variable {P : Program} {w : World} {H H' : Hp} {h h' : Heap} {a : Addr} {o : HO}
theorem ObjOk.lt (x : ObjOk P w H h a o) : a < h.objs.size := by
 cases o with
 | lst xs => obtain ⟨_, _, _, _, e⟩ := x; exact Heap.lt_size e
 | tup xs => obtain ⟨_, _, _, p⟩ := x; exact p.lt
 | dK kvs => obtain ⟨_, _, _, _, o, _, _, e, _⟩ := x; exact Heap.lt_size e
 | dT kvs => obtain ⟨_, _, _, _, o, _, _, e, _⟩ := x; exact Heap.lt_size e
 | set S n => obtain ⟨o, _, _, _, e, _⟩ := x; exact Heap.lt_size e
 | ins C dx fs => obtain ⟨_, _, _, e, _⟩ := x; exact Heap.lt_size e
 | own y => obtain ⟨_, e⟩ := x; exact Heap.lt_size e
 | xd fs => obtain ⟨_, ⟨_, _, _, e, _⟩, _⟩ := x; exact Heap.lt_size e
 | rng lo hi => obtain ⟨_, _, _, e⟩ := x; exact Heap.lt_size e
 | frz ob u => obtain ⟨e, _⟩ := x; exact Heap.lt_size e
 | tbl ps => exact Heap.lt_size (show h.get? a = some _ from x)
 | met f y => exact Heap.lt_size (show h.get? a = some _ from x)
 | ext φ => obtain ⟨_, ⟨_, e⟩, _⟩ := x; exact Heap.lt_size e
theorem Paired.mapP {α β : Type} {F G : α → β → Prop} : ∀ {l₁ : List α} {l₂ : List β}, Paired F l₁ l₂ → (∀ a b, F a b → G a b) → Paired G l₁ l₂ := by
 intro l₁ l₂ h f
 induction h with
 | nil => exact .nil
 | cons r t ih => exact .cons (f _ _ r) ih
theorem ObjOk.stay (x : ObjOk P w H h a o) (k : ∀ b u, (b = a ∨ H b = some (.own a)) → h.get? b = some u → h'.get? b = some u)
  (ho : ∀ b, H b = some (.own a) → H' b = some (.own a)) (ht : ∀ b xs, H b = some (.tup xs) → H' b = some (.tup xs)) : ObjOk P w H' h' a o := by
 induction o with
 | lst xs => obtain ⟨z, its, n, r, e⟩ := x; exact ⟨z, its, n, r, k _ _ (.inl rfl) e⟩
 | tup xs => obtain ⟨z, its, r, ob, e, c⟩ := x; exact ⟨z, its, r, ob, k _ _ (.inl rfl) e, c⟩
 | dK kvs => obtain ⟨z, y, vs, r, ob, es, ep, e, c⟩ := x; exact ⟨z, y, vs, r, ob, es, ep, k _ _ (.inl rfl) e, c⟩
 | dT kvs =>
  obtain ⟨z, y, xs, r, ob, es, ep, e, c⟩ := x
  exact ⟨z, y, xs, Paired.mapP r fun p q z => ⟨z.1, ht _ _ z.2.1, z.2.2⟩, ob, es, ep, k _ _ (.inl rfl) e, c⟩
 | set S n => obtain ⟨ob, es, ep, t, e, c⟩ := x; exact ⟨ob, es, ep, t, k _ _ (.inl rfl) e, c⟩
 | ins C dx fs =>
  obtain ⟨d, z, ne, e, mA, ⟨od, es, ep, e2, c⟩, r⟩ := x
  exact ⟨ho _ d, z, ne, k _ _ (.inl rfl) e, mA, ⟨od, es, ep, k _ _ (.inr d) e2, c⟩, r⟩
 | own y => obtain ⟨ob, e⟩ := x; exact ⟨ob, k _ _ (.inl rfl) e⟩
 | xd fs => obtain ⟨mA, ⟨od, es, ep, e, c⟩, r⟩ := x; exact ⟨mA, ⟨od, es, ep, k _ _ (.inl rfl) e, c⟩, r⟩
 | rng lo hi => obtain ⟨t, u, v, e⟩ := x; exact ⟨t, u, v, k _ _ (.inl rfl) e⟩
 | frz ob u ih => obtain ⟨e, q⟩ := x; exact ⟨k _ _ (.inl rfl) e, ih q⟩
 | tbl ps =>
  have e : h.get? a = some { cls := .none, data := .fields ps } := x
  show h'.get? a = some { cls := .none, data := .fields ps }
  exact k a _ (.inl rfl) e
 | met f y =>
  have e : h.get? a = some (PySem.W.methodObj (.ref f) (.ref y)) := x
  show h'.get? a = some (PySem.W.methodObj (.ref f) (.ref y))
  exact k a _ (.inl rfl) e
 | ext φ => obtain ⟨p, ⟨o, e⟩, st⟩ := x; exact ⟨st _ _ p fun o q => k _ _ (.inl rfl) q, ⟨o, k _ _ (.inl rfl) e⟩, st⟩
theorem HOk.lt (x : HOk P w H h) (e : H a = some o) : a < h.objs.size := (x a o e).lt
theorem HOk.fresh (x : HOk P w H h) (e : h.objs.size ≤ a) : H a = none := by
 cases q : H a with
 | none => rfl
 | some u => exact absurd (Nat.lt_of_lt_of_le (x.lt q) e) (Nat.lt_irrefl _)
theorem HOk.kept (x : HOk P w H h) (k : ∀ b u, h.get? b = some u → h'.get? b = some u) : HOk P w H h' := fun a o e =>
 (x a o e).stay (fun b u _ q => k b u q) (fun _ q => q) fun _ _ q => q
theorem HOk.laid (x : HOk P w H h) (k : ∀ b u, h.get? b = some u → h'.get? b = some u) (hp : h.objs.size ≤ a) (new : ObjOk P w (upd H a o) h' a o) : HOk P w (upd H a o) h' := fun b u e => by
 have hn := x.fresh hp
 by_cases hb : b = a
 ·subst hb; rw [C9] at e; cases e; exact new
 ·rw [u5 hb] at e
  exact (x b u e).stay (fun c v _ q => k c v q) (fun c q => by rw [u5 (L0 q hn)]; exact q) fun c xs q => by rw [u5 (L0 q hn)]; exact q
end

noncomputable def Rd (H : Hp) (a : Addr) (u : HO) : Prop := H a = some u ∨ ∃ o, H a = some (.frz o u)
theorem Rd.ok {P : Program} {w : World} {H : Hp} {h : Heap} {a : Addr} {u : HO} (r : Rd H a u) (x : HOk P w H h) : ObjOk P w H h a u := by
 rcases r with r | ⟨o, r⟩
 ·exact x a u r
 ·obtain ⟨_, q⟩ := x a _ r
  exact q
noncomputable def Mut : Option HO → Prop
 | some (.lst _) => True
 | some (.dK _) => True
 | some (.dT _) => True
 | some (.set _ _) => True
 | some (.ins _ _ _) => True
 | some (.ext _) => True
 | _ => False
section
variable {P : Program} {w : World} {H : Hp} {h h' : Heap} {x e : Addr} {o' : HO}
theorem HOk.write (ok : HOk P w H h) (mu : Mut (H x)) (he : e = x ∨ H e = some (.own x)) (k : ∀ b u, b ≠ e → h.get? b = some u → h'.get? b = some u) (heo : ∃ u, h'.get? e = some u)
  (new : ObjOk P w (upd H x o') h' x o') : HOk P w (upd H x o') h' := fun b u q => by
 have nown : ∀ c y, H c = some (.own y) → c ≠ x := fun c y r z => by subst z; rw [r] at mu; exact mu
 have ntup : ∀ c xs, H c = some (.tup xs) → c ≠ x := fun c xs r z => by subst z; rw [r] at mu; exact mu
 by_cases hb : b = x
 ·subst hb; rw [C9] at q; cases q; exact new
 ·rw [u5 hb] at q
  by_cases hbe : b = e
  ·have q' : H b = some (.own x) := by
    rcases he with z | z
    ·exact absurd (hbe.trans z) hb
    ·rw [hbe]; exact z
   rw [q] at q'; cases q'
   obtain ⟨v, hv⟩ := heo
   exact ⟨v, by rw [hbe]; exact hv⟩
  ·refine (ok b u q).stay (fun c v hc r => k c v ?_ r) (fun c r => by rw [u5 (nown c b r)]; exact r) fun c xs r => by rw [u5 (ntup c xs r)]; exact r
   rcases hc with rfl | hc
   ·exact hbe
   ·rintro rfl
    rcases he with z | z
    ·exact nown c b hc z
    ·rw [hc] at z; cases z; exact hb rfl
end

structure Un (fs ex : List Addr) (H H' : Hp) (h h' : Heap) : Prop where
 keep : ∀ b o, h.get? b = some o → H b = none → b ∉ fs → b ∉ ex → h'.get? b = some o
 slot : ∀ b o, h.get? b = some o → H b = none → b ∈ fs → b ∉ ex → ∃ sl, h'.get? b = some { o with slots := sl }
 free : ∀ b o, h.get? b = some o → H b = none → b ∉ ex → H' b = none
 there : ∀ b o, h.get? b = some o → b ∉ ex → ∃ o', h'.get? b = some o'
 tups : ∀ b xs, H b = some (.tup xs) → H' b = some (.tup xs)
 frzs : ∀ b o u, H b = some (.frz o u) → H' b = some (.frz o u)
 tbls : ∀ b ps, H b = some (.tbl ps) → ∃ more, H' b = some (.tbl (ps ++ more))
section
variable {fs fs' ex ex' : List Addr} {H H1 H2 : Hp} {h h1 h2 h' : Heap} {a x e : Addr} {o : HO}
theorem Un.any (u : Un fs ex H H1 h h1) {b : Addr} {ob : Obj} (q : h.get? b = some ob) (n : H b = none) (hx : b ∉ ex) : ∃ sl, h1.get? b = some { ob with slots := sl } := by
 by_cases hb : b ∈ fs
 ·exact u.slot b ob q n hb hx
 ·exact ⟨ob.slots, u.keep b ob q n hb hx⟩
theorem Un.kept (k : ∀ b u, h.get? b = some u → h'.get? b = some u) : Un fs ex H H h h' :=
 ⟨fun b ob q _ _ _ => k b ob q, fun b ob q _ _ _ => ⟨ob.slots, k b ob q⟩, fun _ _ _ n _ => n, fun b ob q _ => ⟨ob, k b ob q⟩, fun _ _ q => q, fun _ _ _ q => q, fun _ ps q => ⟨#[], by rw [q]; simp⟩⟩
theorem Un.refl : Un fs ex H H h h := Un.kept fun _ _ q => q
theorem Un.laid (k : ∀ b u, h.get? b = some u → h'.get? b = some u) (hp : h.objs.size ≤ a) (hn : H a = none) : Un fs ex H (upd H a o) h h' where
 keep := fun b u q _ _ _ => k b u q
 slot := fun b u q _ _ _ => ⟨u.slots, k b u q⟩
 free := fun b u q n _ => by rw [u5 (Nat.ne_of_lt (Nat.lt_of_lt_of_le (Heap.lt_size q) hp))]; exact n
 there := fun b u q _ => ⟨u, k b u q⟩
 tups := fun b xs q => by rw [u5 (L0 q hn)]; exact q
 frzs := fun b u xs q => by rw [u5 (L0 q hn)]; exact q
 tbls := fun b ps q => ⟨#[], by rw [u5 (L0 q hn), q]; simp⟩
theorem Un.write (mu : Mut (H x)) (he : e = x ∨ H e = some (.own x)) (k : ∀ b u, b ≠ e → h.get? b = some u → h'.get? b = some u) (heo : ∃ u, h'.get? e = some u) : Un fs ex H (upd H x o) h h' := by
 have hx : ∀ b, H b = none → b ≠ x := fun b n z => by subst z; rw [n] at mu; exact mu
 have hb : ∀ b, H b = none → b ≠ e := fun b n z => by
  subst z
  rcases he with r | r
  ·exact hx b n r
  ·rw [n] at r; cases r
 have hm : ∀ b u, H b = some u → ¬ Mut (some u) → b ≠ x := fun b u q nm z => by subst z; rw [q] at mu; exact nm mu
 refine ⟨fun b u q n _ _ => k b u (hb b n) q, fun b u q n _ _ => ⟨u.slots, k b u (hb b n) q⟩, fun b u q n _ => by rw [u5 (hx b n)]; exact n, fun b u q _ => ?_,
  fun b xs q => by rw [u5 (hm b _ q fun z => z)]; exact q, fun b u xs q => by rw [u5 (hm b _ q fun z => z)]; exact q, fun b ps q => ⟨#[], by rw [u5 (hm b _ q fun z => z), q]; simp⟩⟩
 by_cases hbe : b = e
 ·subst hbe; exact heo
 ·exact ⟨u, k b u hbe q⟩
end

noncomputable def trk (h : Heap) (H : Hp) : List Addr := (List.range h.objs.size).filter fun a => (H a).isSome
noncomputable def Q5 (h : Heap) (H : Hp) : Heap := PySem.W.hideAll h (trk h H)
theorem b3L (h : Heap) (H : Hp) : (Q5 h H).objs.size = h.objs.size := PySem.W.hideAll_size _ _
theorem a8M {h : Heap} {H : Hp} {b : Addr} {o : Obj} (e : h.get? b = some o) (n : H b = none) : (Q5 h H).get? b = some o :=
 PySem.W.hideAll_get _ e fun hm => by
  have q : (H b).isSome = true := (List.mem_filter.mp hm).2
  rw [n] at q; simp at q
theorem b1O {h : Heap} {H : Hp} {b : Addr} {o : Obj} (e : (Q5 h H).get? b = some o) : h.get? b = some o ∧ H b = none := by
 have e' : h.get? b = some o := PySem.W.of_hideAll (trk h H) e
 refine ⟨e', ?_⟩
 cases q : H b with
 | none => rfl
 | some x =>
  have hm : b ∈ trk h H := List.mem_filter.mpr ⟨List.mem_range.mpr (Heap.lt_size e'), by simp [q]⟩
  have z : (Q5 h H).get? b = none := PySem.W.hideAll_none (trk h H) hm
  rw [z] at e; cases e

end L2

namespace L2
open PySem PySem.Spec PyProof.Rows

structure Mod (K : PySem.W.Frag) (mg : Str → Option Value) (base : Heap) : Prop where
 kin : K.In base
 glob : base.Ns mainGlobals mg
 blt : ∃ mb, base.Ns builtinsNs mb ∧ ∀ x : Str, x ≠ "__name__" → mb x = bootBuiltins x
 nolimit : base.NoLimit

structure Cx where
 prog : Program
 w : World
 K : PySem.W.Frag
 mg : Str → Option Value
 base : Heap
 A : Around
 N : List Str
 s₀ : Shared
 H₀ : Hp
 env : Env
 outer : List Env
 stack : List Env
 ex : List Addr
 fn : Str → Bool
 calm : Bool
 pn : List (Addr × Obj)
 xe : Value → Shared → Prop
noncomputable def frs (l : List Env) : List Addr := l.filterMap (·.frame)
noncomputable abbrev Cx.fs (X : Cx) : List Addr := frs X.outer

noncomputable def Vis (sc : Scope) (x : Str) : Prop := sc.names.lookup x = some .local ∨ sc.names.lookup x = some .cell ∨ sc.names.lookup x = some .free
noncomputable def Loc (sc : Scope) (x : Str) : Prop := sc.names.lookup x = some .local ∨ sc.names.lookup x = some .cell
noncomputable def a91 (env : Env) (h : Heap) (m : Str → Option Value) (x : Str) (u : Value) : Prop :=
 (env.kindOf x = some .local ∧ m x = some u) ∨ ((env.kindOf x = some .cell ∨ env.kindOf x = some .free) ∧ ∃ c, env.cells.lookup x = some c ∧ h.IsCell c (some u))

structure Cx.Ok (X : Cx) : Prop where
 mod : Mod X.K X.mg X.base
 kind : X.env.scope.kind = .function
 glob : X.env.globals = mainGlobals
 blt : X.env.builtins = builtinsNs
 above : X.s₀.heap.objs.size ≤ X.env.locals
 inj : ∀ x y c, X.env.cells.lookup x = some c → X.env.cells.lookup y = some c → x = y
 has : ∀ x, (X.env.kindOf x = some .cell ∨ X.env.kindOf x = some .free) → ∃ c, X.env.cells.lookup x = some c
 cab : ∀ x c, X.fn x = true → X.env.cells.lookup x = some c → X.s₀.heap.objs.size ≤ c
 hd : X.calm = true → X.A.handled = none
 frames : X.A.frames = some X.stack
 stk : X.stack = X.outer ∨ (X.stack = X.env :: X.outer ∧ X.env.frame = some X.env.locals)
 exf : ∀ b ∈ X.ex, b ≠ X.env.locals ∧ ∀ x c, X.env.cells.lookup x = some c → c ≠ b
 bs : ∀ b o, X.base.get? b = some o → X.s₀.heap.get? b = some o ∧ X.H₀ b = none
 bsz : X.base.objs.size ≤ X.s₀.heap.objs.size
 noex : ∀ b o, X.base.get? b = some o → b ∉ X.ex
 exfs : ∀ b ∈ X.ex, b ∉ X.fs
 funs : X.s₀.heap.FunFrames X.base X.outer
 frf : ∀ b ∈ X.fs, X.H₀ b = none

structure Inv (X : Cx) (pins : List (Addr × Obj)) (σ : List (Option V)) (H : Hp) (s : Shared) : Prop where
 ok : X.Ok
 os : s.os = X.s₀.os
 bare : AllBare s.gens
 base : Un X.fs X.ex X.H₀ H X.s₀.heap s.heap
 loc : ∃ m, s.heap.Ns X.env.locals m ∧ ∀ (i : Nat) (x : Str) (v : V), X.N[i]? = some x → σ[i]? = some (some v) → Vis X.env.scope x → ∃ u, RelV v u ∧ a91 X.env s.heap m x u
 cell : ∀ x c, X.env.cells.lookup x = some c → ∃ v, s.heap.IsCell c v
 free : H X.env.locals = none
 freeC : ∀ x c, X.env.cells.lookup x = some c → H c = none
 pin : ∀ p ∈ X.pn ++ pins, s.heap.get? p.1 = some p.2 ∧ H p.1 = none ∧ p.1 ≠ X.env.locals ∧ p.1 ∉ X.fs ∧ ∀ v, p.2.data ≠ .cell v
 hok : HOk X.prog X.w H s.heap
 len : σ.length = X.N.length

section
variable {X : Cx} {pins : List (Addr × Obj)} {σ : List (Option V)} {H H' : Hp} {s : Shared} {h' : Heap}

theorem Cx.Ok.nofr (ok : X.Ok) {b : Addr} {o : Obj} (e : X.base.get? b = some o) : b ∉ X.fs := fun hb => by
 have := (ok.funs.mem hb).1
 rw [e] at this; cases this
theorem Inv.bs (I : Inv X pins σ H s) : ∀ b o, X.base.get? b = some o → s.heap.get? b = some o ∧ H b = none := fun b o e =>
 ⟨I.base.keep b o (I.ok.bs b o e).1 (I.ok.bs b o e).2 (I.ok.nofr e) (I.ok.noex b o e), I.base.free b o (I.ok.bs b o e).1 (I.ok.bs b o e).2 (I.ok.noex b o e)⟩
theorem Inv.bk (I : Inv X pins σ H s) : ∀ b o, X.base.get? b = some o → s.heap.get? b = some o := fun b o e => (I.bs b o e).1
theorem Inv.mod (I : Inv X pins σ H s) : Mod X.K X.mg X.base := I.ok.mod
theorem Inv.kIn (I : Inv X pins σ H s) : X.K.In s.heap := I.ok.mod.kin.keeps I.bk
theorem Inv.lt (I : Inv X pins σ H s) : X.env.locals < s.heap.objs.size := let ⟨_, hn, _⟩ := I.loc; hn.lt
theorem Inv.sz (I : Inv X pins σ H s) : X.s₀.heap.objs.size ≤ s.heap.objs.size := Nat.le_trans I.ok.above (Nat.le_of_lt I.lt)
theorem Inv.nofs (I : Inv X pins σ H s) {a : Addr} (h : s.heap.objs.size ≤ a) : a ∉ X.fs := fun hb => by
 obtain ⟨_, o, ho, _⟩ := I.ok.funs.mem hb
 exact absurd (Nat.lt_of_lt_of_le (Heap.lt_size ho) (Nat.le_trans I.sz h)) (Nat.lt_irrefl _)
theorem Inv.cne (I : Inv X pins σ H s) : ∀ x c, X.env.cells.lookup x = some c → c ≠ X.env.locals := fun x c e z => by
 obtain ⟨v, o, ho, hd⟩ := I.cell x c e
 obtain ⟨m, ⟨o', es, ep, ho', hd', _⟩, _⟩ := I.loc
 rw [z, ho'] at ho; cases ho; rw [hd'] at hd; cases hd
theorem Inv.funs (I : Inv X pins σ H s) : s.heap.FunFrames X.base X.outer := by
 have all : ∀ (l : List Env), (∀ b ∈ frs l, b ∈ X.fs) → X.s₀.heap.FunFrames X.base l → s.heap.FunFrames X.base l := by
  intro l
  induction l with
  | nil => intro _ _; trivial
  | cons env r ih =>
   intro hs hl
   obtain ⟨hk, ⟨L, o, hf, hn, ho, hd⟩, hr⟩ := hl
   have hL : L ∈ X.fs := hs L (by unfold frs; rw [List.filterMap_cons, hf]; exact List.mem_cons_self)
   obtain ⟨sl, e⟩ := I.base.slot L o ho (I.ok.frf L hL) hL fun z => I.ok.exfs L z hL
   exact ⟨hk, ⟨L, _, hf, hn, e, hd⟩, ih (fun b hb => hs b (by unfold frs; rw [List.filterMap_cons, hf]; exact List.mem_cons_of_mem _ hb)) hr⟩
 exact all X.outer (fun _ hb => hb) I.ok.funs

theorem Inv.stack (I : Inv X pins σ H s) : s.heap.FunFrames X.base X.stack := by
 rcases I.ok.stk with e | ⟨e, hf⟩
 ·rw [e]; exact I.funs
 ·rw [e]
  obtain ⟨m, hn, _⟩ := I.loc
  refine .cons (by rw [I.ok.kind]; decide) hf hn ?_ I.funs
  exact Heap.get?_none_of_le (Nat.le_trans I.ok.bsz I.ok.above)
theorem Inv.stkSub (I : Inv X pins σ H s) : ∀ b ∈ frs X.stack, b ∈ X.env.locals :: X.fs := fun b hb => by
 rcases I.ok.stk with e | ⟨e, hf⟩
 ·rw [e] at hb; exact List.mem_cons_of_mem _ hb
 ·rw [e] at hb
  unfold frs at hb
  rw [List.filterMap_cons, hf] at hb
  exact hb
theorem Inv.stkFree (I : Inv X pins σ H s) : ∀ b ∈ frs X.stack, H b = none := fun b hb => by
 rcases List.mem_cons.mp (I.stkSub b hb) with e | hb
 ·rw [e]; exact I.free
 ·obtain ⟨_, o, ho, _⟩ := I.ok.funs.mem hb
  exact I.base.free b o ho (I.ok.frf b hb) fun z => I.ok.exfs b z hb

theorem Inv.step {g' : Array GenState} {t' : Nat} {d' : Drawn} {ch : List Addr} (I : Inv X pins σ H s)
  (hch : ∀ b ∈ ch, (b ∈ X.ex ∨ X.s₀.heap.objs.size ≤ b) ∧ b ≠ X.env.locals ∧ (∀ x c, X.env.cells.lookup x = some c → c ≠ b) ∧ ∀ p ∈ X.pn ++ pins, p.1 ≠ b)
  (keep : ∀ b o, b ≠ X.env.locals → b ∉ X.fs → b ∉ ch → s.heap.get? b = some o → H b = none → h'.get? b = some o)
  (slot : ∀ b o, b ≠ X.env.locals → b ∈ X.fs → b ∉ ch → s.heap.get? b = some o → H b = none → ∃ sl, h'.get? b = some { o with slots := sl }) (free : ∀ b o, b ∉ ch → s.heap.get? b = some o → H b = none → H' b = none)
  (there : ∀ b o, b ∉ ch → s.heap.get? b = some o → ∃ o', h'.get? b = some o')
  (tups : ∀ b xs, H b = some (.tup xs) → H' b = some (.tup xs)) (frzs : ∀ b o u, H b = some (.frz o u) → H' b = some (.frz o u)) (tbls : ∀ b ps, H b = some (.tbl ps) → ∃ more, H' b = some (.tbl (ps ++ more)))
  (ns : ∀ m, s.heap.Ns X.env.locals m → h'.Ns X.env.locals m) (hok : HOk X.prog X.w H' h') (hg : AllBare g') :
  Inv X pins σ H' { s with heap := h', gens := g', drawn := d', toks := t' } := by
 have neL : ∀ b o, X.s₀.heap.get? b = some o → b ≠ X.env.locals := fun b o e => Nat.ne_of_lt (Nat.lt_of_lt_of_le (Heap.lt_size e) I.ok.above)
 have neC : ∀ b o, X.s₀.heap.get? b = some o → b ∉ X.ex → b ∉ ch := fun b o e hx hb => by
  rcases (hch b hb).1 with z | z
  ·exact hx z
  ·exact absurd (Nat.lt_of_lt_of_le (Heap.lt_size e) z) (Nat.lt_irrefl _)
 have cellK : ∀ x c, X.env.cells.lookup x = some c → ∀ v, s.heap.IsCell c v → h'.IsCell c v := fun x c e v hQ__ => by
  obtain ⟨o, ho, hd⟩ := hQ__
  have nch : c ∉ ch := fun z => (hch c z).2.2.1 x c e rfl
  by_cases hc : c ∈ X.fs
  ·obtain ⟨sl, q⟩ := slot c o (I.cne x c e) hc nch ho (I.freeC x c e)
   exact ⟨_, q, hd⟩
  ·exact ⟨o, keep c o (I.cne x c e) hc nch ho (I.freeC x c e), hd⟩
 refine ⟨I.ok, I.os, hg, ⟨fun b o e n hb hx => ?_, fun b o e n hb hx => ?_, fun b o e n hx => ?_, fun b o e hx => ?_, fun b xs e => tups b xs (I.base.tups b xs e), fun b o xs e => frzs b o xs (I.base.frzs b o xs e), fun b ps e => ?_⟩, ?_, fun x c e => ?_, ?_, fun x c e => ?_, fun p hp => ?_, hok, I.len⟩
 ·exact keep b o (neL b o e) hb (neC b o e hx) (I.base.keep b o e n hb hx) (I.base.free b o e n hx)
 ·obtain ⟨sl, e1⟩ := I.base.slot b o e n hb hx
  obtain ⟨sl', e2⟩ := slot b _ (neL b o e) hb (neC b o e hx) e1 (I.base.free b o e n hx)
  exact ⟨sl', e2⟩
 ·obtain ⟨o', e1⟩ := I.base.there b o e hx
  exact free b o' (neC b o e hx) e1 (I.base.free b o e n hx)
 ·obtain ⟨o', e1⟩ := I.base.there b o e hx
  exact there b o' (neC b o e hx) e1
 ·obtain ⟨m1, e1⟩ := I.base.tbls b ps e
  obtain ⟨m2, e2⟩ := tbls b _ e1
  exact ⟨m1 ++ m2, by rw [e2, Array.append_assoc]⟩
 ·obtain ⟨m, hn, hl⟩ := I.loc
  refine ⟨m, ns m hn, fun i x v e1 e2 e3 => ?_⟩
  obtain ⟨u, r, l⟩ := hl i x v e1 e2 e3
  refine ⟨u, r, ?_⟩
  rcases l with l | ⟨k, c, e, z⟩
  ·exact .inl l
  ·exact .inr ⟨k, c, e, cellK x c e _ z⟩
 ·obtain ⟨v, z⟩ := I.cell x c e
  exact ⟨v, cellK x c e v z⟩
 ·obtain ⟨m, ⟨o, _, _, ho, _⟩, _⟩ := I.loc
  exact free _ o (fun z => (hch _ z).2.1 rfl) ho I.free
 ·obtain ⟨v, o, ho, hd⟩ := I.cell x c e
  exact free c o (fun z => (hch c z).2.2.1 x c e rfl) ho (I.freeC x c e)
 ·obtain ⟨e, n, ne, nf, d⟩ := I.pin p hp
  have nch : p.1 ∉ ch := fun z => (hch p.1 z).2.2.2 p hp rfl
  exact ⟨keep p.1 p.2 ne nf nch e n, free p.1 p.2 nch e n, ne, nf, d⟩
theorem Inv.un {t' : Nat} (I : Inv X pins σ H s) (u : Un X.fs [] H H' s.heap h') (hok : HOk X.prog X.w H' h') : Inv X pins σ H' { s with heap := h', toks := t' } := by
 obtain ⟨m, ⟨o, es, ep, ho, r⟩, _⟩ := id I.loc
 obtain ⟨sl, hL⟩ := u.any ho I.free (by simp)
 exact I.step (g' := s.gens) (d' := s.drawn) (ch := []) (fun _ z => nomatch z) (fun b o _ hb _ e n => u.keep b o e n hb (by simp)) (fun b o _ hb _ e n => u.slot b o e n hb (by simp)) (fun b o _ e n => u.free b o e n (by simp)) (fun b o _ e => u.there b o e (by simp)) u.tups u.frzs u.tbls (fun m' hm => by
  obtain ⟨o', es', ep', ho', r'⟩ := hm
  rw [ho] at ho'; cases ho'
  exact ⟨_, es', ep', hL, r'⟩) hok I.bare
theorem Inv.call {g' : Array GenState} {t' : Nat} {d' : Drawn} {ch : List Addr} (I : Inv X pins σ H s) (u : Un (frs X.stack) ch H H' s.heap h') (hok : HOk X.prog X.w H' h') (hg : AllBare g')
  (hch : ∀ b ∈ ch, (b ∈ X.ex ∨ X.s₀.heap.objs.size ≤ b) ∧ b ≠ X.env.locals ∧ (∀ x c, X.env.cells.lookup x = some c → c ≠ b) ∧ ∀ p ∈ X.pn ++ pins, p.1 ≠ b) :
  Inv X pins σ H' { s with heap := h', gens := g', drawn := d', toks := t' } := by
 obtain ⟨m, ⟨o, es, ep, ho, r⟩, _⟩ := id I.loc
 obtain ⟨sl, hL⟩ := u.any ho I.free fun z => (hch _ z).2.1 rfl
 exact I.step (ch := ch) hch (fun b o hL hb hc e n => u.keep b o e n (fun z => (List.mem_cons.mp (I.stkSub b z)).elim hL hb) hc) (fun b o _ _ hc e n => u.any e n hc) (fun b o hc e n => u.free b o e n hc) (fun b o hc e => u.there b o e hc) u.tups u.frzs u.tbls (fun m' hm => by
  obtain ⟨o', es', ep', ho', r'⟩ := hm
  rw [ho] at ho'; cases ho'
  exact ⟨_, es', ep', hL, r'⟩) hok hg
theorem Inv.turned {t' : Nat} {it : Addr} (I : Inv X pins σ H s) (k : ∀ b o, b ≠ it → s.heap.get? b = some o → h'.get? b = some o) (hn : H it = none) (hL : it ≠ X.env.locals)
  (h1 : it ∈ X.ex ∨ X.s₀.heap.objs.size ≤ it) (h2 : ∀ x c, X.env.cells.lookup x = some c → c ≠ it) (h3 : ∀ p ∈ X.pn ++ pins, p.1 ≠ it) : Inv X pins σ H { s with heap := h', toks := t' } := by
 have nit : ∀ b u, H b = some u → b ≠ it := fun b u e z => by rw [z, hn] at e; cases e
 refine I.step (g' := s.gens) (d' := s.drawn) (ch := [it]) (fun b hb => ?_) (fun b o _ _ hc e _ => k b o (fun z => hc (by simp [z])) e) (fun b o _ _ hc e _ => ⟨o.slots, k b o (fun z => hc (by simp [z])) e⟩) (fun _ _ _ _ n => n)
  (fun b o hc e => ⟨o, k b o (fun z => hc (by simp [z])) e⟩) (fun _ _ e => e) (fun _ _ _ e => e) (fun b ps e => ⟨#[], by rw [e]; simp⟩) (fun m hm => ?_) (fun b u e => ?_) I.bare
 ·have e : b = it := by simpa using hb
  subst e
  exact ⟨h1, hL, h2, h3⟩
 ·obtain ⟨o, es, ep, ho, r⟩ := hm
  exact ⟨o, es, ep, k _ o (Ne.symm hL) ho, r⟩
 ·refine (I.hok b u e).stay (fun c v hc q => k c v ?_ q) (fun _ q => q) fun _ _ q => q
  rcases hc with z | z
  ·rw [z]; exact nit b u e
  ·exact nit c _ z
theorem Inv.tok (I : Inv X pins σ H s) (t : Nat) : Inv X pins σ H { s with toks := t } := I.un (h' := s.heap) (t' := t) Un.refl I.hok
theorem Inv.kept {t' : Nat} (I : Inv X pins σ H s) (k : ∀ b u, s.heap.get? b = some u → h'.get? b = some u) : Inv X pins σ H { s with heap := h', toks := t' } := I.un (Un.kept k) (I.hok.kept k)
theorem Inv.laid {a : Addr} {o : HO} {t' : Nat} (I : Inv X pins σ H s) (k : ∀ b u, s.heap.get? b = some u → h'.get? b = some u) (hp : s.heap.objs.size ≤ a) (new : ObjOk X.prog X.w (upd H a o) h' a o) :
  Inv X pins σ (upd H a o) { s with heap := h', toks := t' } := I.un (Un.laid k hp (I.hok.fresh hp)) (I.hok.laid k hp new)
theorem Inv.write {x e : Addr} {o : HO} {t' : Nat} (I : Inv X pins σ H s) (mu : Mut (H x)) (he : e = x ∨ H e = some (.own x)) (k : ∀ b u, b ≠ e → s.heap.get? b = some u → h'.get? b = some u) (heo : ∃ u, h'.get? e = some u)
  (new : ObjOk X.prog X.w (upd H x o) h' x o) : Inv X pins σ (upd H x o) { s with heap := h', toks := t' } := I.un (Un.write mu he k heo) (I.hok.write mu he k heo new)
theorem Inv.weak {σ' : List (Option V)} (I : Inv X pins σ H s) (hl : σ'.length = σ.length) (w : ∀ (i : Nat) v, σ'[i]? = some (some v) → σ[i]? = some (some v)) : Inv X pins σ' H s :=
 ⟨I.ok, I.os, I.bare, I.base, let ⟨m, hn, hl'⟩ := I.loc; ⟨m, hn, fun i x v e1 e2 e3 => hl' i x v e1 (w i v e2) e3⟩, I.cell, I.free, I.freeC, I.pin, I.hok, hl.trans I.len⟩
theorem Inv.pins_of {pins' : List (Addr × Obj)} (I : Inv X pins σ H s) (h : ∀ p ∈ pins', s.heap.get? p.1 = some p.2 ∧ H p.1 = none ∧ p.1 ≠ X.env.locals ∧ p.1 ∉ X.fs ∧ ∀ v, p.2.data ≠ .cell v) : Inv X pins' σ H s :=
 ⟨I.ok, I.os, I.bare, I.base, I.loc, I.cell, I.free, I.freeC, fun p hp => (List.mem_append.mp hp).elim (fun z => I.pin p (List.mem_append_left _ z)) (h p), I.hok, I.len⟩

theorem a6x {N : List Str} (hN : N.Nodup) {i j : Nat} {x : Str} (a : N[i]? = some x) (b : N[j]? = some x) : i = j := by
 obtain ⟨h1, e1⟩ := List.getElem?_eq_some_iff.mp a
 obtain ⟨h2, e2⟩ := List.getElem?_eq_some_iff.mp b
 exact (List.getElem_inj hN).mp (e1.trans e2.symm)

theorem b3V {M : Model} {A : Around} {E : Value → Shared → Prop} {i : Nat} {x : Str} {v : V} {u : Value} {Q : Unit → Shared → Prop} (I : Inv X pins σ H s) (hN : X.N.Nodup) (hi : X.N[i]? = some x) (hx : Loc X.env.scope x) (r : RelV v u)
  (h : ∀ s', Inv X pins (σ.set i (some v)) H s' → (∃ a, Heap.SameBut a s.heap s'.heap ∧ (a = X.env.locals ∨ X.env.cells.lookup x = some a)) → Q () s') (hf : X.fn x = true ∨ X.env.scope.names.lookup x = some .local := by first | exact .inl rfl | exact .inr rfl | assumption) : wpAny M A (storeName X.env x u) Q E s := by
 obtain ⟨m, hn, hl⟩ := id I.loc
 have hcls : (X.env.scope.kind == .class || (X.env.scope.kind == .module && X.env.locals != X.env.globals)) = false := by rw [I.ok.kind]; rfl
 have hiσ : i < σ.length := by rw [I.len]; exact (List.getElem?_eq_some_iff.mp hi).1
 have cne := I.cne
 have tracked : ∀ {a : Addr} {h' : Heap}, (∃ o, s.heap.get? a = some o ∧ H a = none) → Heap.SameBut a s.heap h' → HOk X.prog X.w H h' := fun {a h'} ha hs b ob e => by
  obtain ⟨_, _, hfree⟩ := ha
  refine (I.hok b ob e).stay (fun c w' hc q => (hs.2 c ?_).trans q) (fun _ q => q) fun _ _ q => q
  rintro rfl
  rcases hc with rfl | hc
  ·rw [hfree] at e; cases e
  ·rw [hfree] at hc; cases hc
 rcases hx with hk | hk
 ·refine wpAny_storeName_local hk hn (fun h' hn' hs => ?_) hcls
  obtain ⟨oL, _, _, hoL, _⟩ := id hn
  refine h _ ⟨I.ok, I.os, I.bare, ⟨fun b o e n hb hx => ?_, fun b o e n hb hx => ?_, I.base.free, fun b o e hx => ?_, I.base.tups, I.base.frzs, I.base.tbls⟩, ⟨_, hn', fun j y v' e1 e2 e3 => ?_⟩, fun y c e => ?_, I.free, I.freeC, fun p hp => ?_, tracked ⟨oL, hoL, I.free⟩ hs, by simpa using I.len⟩ ⟨_, hs, .inl rfl⟩
  ·exact (hs.2 b (Nat.ne_of_lt (Nat.lt_of_lt_of_le (Heap.lt_size e) I.ok.above))).trans (I.base.keep b o e n hb hx)
  ·obtain ⟨sl, e1⟩ := I.base.slot b o e n hb hx
   exact ⟨sl, (hs.2 b (Nat.ne_of_lt (Nat.lt_of_lt_of_le (Heap.lt_size e) I.ok.above))).trans e1⟩
  ·obtain ⟨o', e1⟩ := I.base.there b o e hx
   exact ⟨o', (hs.2 b (Nat.ne_of_lt (Nat.lt_of_lt_of_le (Heap.lt_size e) I.ok.above))).trans e1⟩
  ·by_cases hj : j = i
   ·subst hj
    rw [hi] at e1; cases e1
    rw [List.getElem?_set_self hiσ] at e2
    cases e2
    exact ⟨u, r, .inl ⟨hk, by simp⟩⟩
   ·rw [List.getElem?_set_ne (Ne.symm hj)] at e2
    obtain ⟨u', r', q⟩ := hl j y v' e1 e2 e3
    refine ⟨u', r', ?_⟩
    rcases q with ⟨k, e⟩ | ⟨k, c, e, z⟩
    ·refine .inl ⟨k, ?_⟩
     have : y ≠ x := fun e => hj (a6x hN e1 (e ▸ hi))
     simp [this, e]
    ·exact .inr ⟨k, c, e, z.sameBut hs (cne y c e)⟩
  ·obtain ⟨w', z⟩ := I.cell y c e
   exact ⟨w', z.sameBut hs (cne y c e)⟩
  ·obtain ⟨e, n, ne, nf, d⟩ := I.pin p hp
   exact ⟨(hs.2 p.1 ne).trans e, n, ne, nf, d⟩
 ·have hfn : X.fn x = true := by
   rcases hf with z | z
   ·exact z
   ·rw [z] at hk; cases hk
  obtain ⟨c, hc⟩ := I.ok.has x (.inl hk)
  obtain ⟨w', z⟩ := I.cell x c hc
  refine wpAny_storeName_cell I.ok.kind hk hc z (fun h' hc' hs => ?_)
  obtain ⟨oc, hoc, hocd⟩ := id z
  refine h { s with heap := h' } ⟨I.ok, I.os, I.bare, ⟨fun b o e n hb hx => ?_, fun b o e n hb hx => ?_, I.base.free, fun b o e hx => ?_, I.base.tups, I.base.frzs, I.base.tbls⟩, ⟨m, hn.sameBut hs (Ne.symm (cne x c hc)), fun j y v' e1 e2 e3 => ?_⟩, fun y c' e => ?_, I.free, I.freeC, fun p hp => ?_, tracked ⟨oc, hoc, I.freeC x c hc⟩ hs, by simpa using I.len⟩ ⟨c, hs, .inr hc⟩
  ·exact (hs.2 b (Nat.ne_of_lt (Nat.lt_of_lt_of_le (Heap.lt_size e) (I.ok.cab x c hfn hc)))).trans (I.base.keep b o e n hb hx)
  ·obtain ⟨sl, e1⟩ := I.base.slot b o e n hb hx
   exact ⟨sl, (hs.2 b (Nat.ne_of_lt (Nat.lt_of_lt_of_le (Heap.lt_size e) (I.ok.cab x c hfn hc)))).trans e1⟩
  ·obtain ⟨o', e1⟩ := I.base.there b o e hx
   exact ⟨o', (hs.2 b (Nat.ne_of_lt (Nat.lt_of_lt_of_le (Heap.lt_size e) (I.ok.cab x c hfn hc)))).trans e1⟩
  ·by_cases hj : j = i
   ·subst hj
    rw [hi] at e1; cases e1
    rw [List.getElem?_set_self hiσ] at e2
    cases e2
    exact ⟨u, r, .inr ⟨.inl hk, c, hc, hc'⟩⟩
   ·rw [List.getElem?_set_ne (Ne.symm hj)] at e2
    obtain ⟨u', r', q⟩ := hl j y v' e1 e2 e3
    refine ⟨u', r', ?_⟩
    rcases q with q | ⟨k, c', e, z'⟩
    ·exact .inl q
    ·refine .inr ⟨k, c', e, z'.sameBut hs ?_⟩
     rintro rfl
     exact hj (a6x hN e1 (I.ok.inj _ _ _ e hc ▸ hi))
  ·by_cases hcc : c' = c
   ·subst hcc; exact ⟨_, hc'⟩
   ·obtain ⟨w2, z2⟩ := I.cell y c' e
    exact ⟨w2, z2.sameBut hs hcc⟩
  ·obtain ⟨e, n, ne, nf, d⟩ := I.pin p hp
   refine ⟨(hs.2 p.1 ?_).trans e, n, ne, nf, d⟩
   intro q
   rw [q, hoc] at e
   have q' : oc = p.2 := Option.some.inj e
   exact d w' (by rw [← q']; exact hocd)
theorem a1J {M : Model} {A : Around} {E : Value → Shared → Prop} {i : Nat} {x : Str} {v : V} {u : Value} {Q : Unit → Shared → Prop} (I : Inv X pins σ H s) (hN : X.N.Nodup) (hi : X.N[i]? = some x) (hx : Loc X.env.scope x) (r : RelV v u)
  (h : ∀ s', Inv X pins (σ.set i (some v)) H s' → Q () s') (hf : X.fn x = true ∨ X.env.scope.names.lookup x = some .local := by first | exact .inl rfl | exact .inr rfl | assumption) : wpAny M A (storeName X.env x u) Q E s :=
 b3V I hN hi hx r (fun s' I' _ => h s' I') hf
theorem Inv.call' {s' : Shared} {ch : List Addr} (I : Inv X pins σ H s) (ho : s'.os = s.os) (u : Un (frs X.stack) ch H H' s.heap s'.heap) (hok : HOk X.prog X.w H' s'.heap) (hg : AllBare s'.gens)
  (hch : ∀ b ∈ ch, (b ∈ X.ex ∨ X.s₀.heap.objs.size ≤ b) ∧ b ≠ X.env.locals ∧ (∀ x c, X.env.cells.lookup x = some c → c ≠ b) ∧ ∀ p ∈ X.pn ++ pins, p.1 ≠ b) : Inv X pins σ H' s' := by
 obtain ⟨h', g', d', t', o'⟩ := s'
 have e : o' = s.os := ho
 subst e
 exact I.call (g' := g') (t' := t') (d' := d') u hok hg hch
end

noncomputable abbrev XK := Value → Option Addr → Hp → Prop
noncomputable abbrev St := List (Option V)
noncomputable abbrev VK := V → Hp → Prop
noncomputable abbrev TE := St → Hp → VK → Prop
noncomputable abbrev TT := St → Hp → (Bool → Hp → Prop) → Prop
noncomputable abbrev TA := St → Hp → (List V → Hp → Prop) → Prop
structure Ends where
 nx : St → Hp → Prop
 rt : VK
 bk : St → Hp → Prop := fun _ _ => False
 ct : St → Hp → Prop := fun _ _ => False
noncomputable abbrev TS := Ends → St → Hp → Prop

noncomputable def EP (X : Cx) (pins : List (Addr × Obj)) (σ : St) (Q : VK) (u : Value) (s' : Shared) : Prop := ∃ v H', Inv X pins σ H' s' ∧ RelV v u ∧ Q v H'
noncomputable def TP (X : Cx) (pins : List (Addr × Obj)) (σ : St) (Q : Bool → Hp → Prop) (b : Bool) (s' : Shared) : Prop := ∃ H', Inv X pins σ H' s' ∧ Q b H'
noncomputable def AP (X : Cx) (pins : List (Addr × Obj)) (σ : St) (Q : List V → Hp → Prop) (us : List Value) (s' : Shared) : Prop := ∃ vs H', Inv X pins σ H' s' ∧ Vals vs us ∧ Q vs H'
noncomputable def SP (X : Cx) (pins : List (Addr × Obj)) (D : Ends) (f : Flow) (s' : Shared) : Prop :=
 match f with
 | .next => ∃ σ' H', Inv X pins σ' H' s' ∧ D.nx σ' H'
 | .brk => ∃ σ' H', Inv X pins σ' H' s' ∧ D.bk σ' H'
 | .cont => ∃ σ' H', Inv X pins σ' H' s' ∧ D.ct σ' H'
 | .ret u => ∃ v σ' H', Inv X pins σ' H' s' ∧ RelV v u ∧ D.rt v H'

noncomputable def PE (X : Cx) (e : Expr) (t : TE) : Prop :=
 ∀ (pins : List (Addr × Obj)) (s : Shared) (σ : St) (H : Hp) (Q : VK), Inv X pins σ H s → t σ H Q → wpAny (model X.prog X.w) X.A (eval e X.env) (EP X pins σ Q) X.xe s
noncomputable def PT (X : Cx) (e : Expr) (t : TT) : Prop :=
 ∀ (pins : List (Addr × Obj)) (s : Shared) (σ : St) (H : Hp) (Q : Bool → Hp → Prop), Inv X pins σ H s → t σ H Q → wpAny (model X.prog X.w) X.A (isTrue e X.env (eval e X.env)) (TP X pins σ Q) X.xe s
noncomputable def PW (X : Cx) (e : Expr) (t : TT) : Prop :=
 ∀ (whole : Sem Value) (pins : List (Addr × Obj)) (s : Shared) (σ : St) (H : Hp) (Q : Bool → Hp → Prop), Inv X pins σ H s → t σ H Q → wpAny (model X.prog X.w) X.A (isTrue e X.env whole) (TP X pins σ Q) X.xe s
theorem PW.pt {X : Cx} {e : Expr} {t : TT} (h : PW X e t) : PT X e t := h _
noncomputable def PA (X : Cx) (es : List Expr) (t : TA) : Prop :=
 ∀ (pos : Pos) (pins : List (Addr × Obj)) (s : Shared) (σ : St) (H : Hp) (Q : List V → Hp → Prop), Inv X pins σ H s → t σ H Q → wpAny (model X.prog X.w) X.A (spliced (backTo pos (starEach es X.env))) (AP X pins σ Q) X.xe s
noncomputable def PS (X : Cx) (st : Stmt) (t : TS) : Prop :=
 ∀ (pins : List (Addr × Obj)) (s : Shared) (σ : St) (H : Hp) (D : Ends), Inv X pins σ H s → t D σ H → wpAny (model X.prog X.w) X.A (exec st X.env) (SP X pins D) X.xe s
noncomputable def PSs (X : Cx) (st : List Stmt) (t : TS) : Prop :=
 ∀ (pins : List (Addr × Obj)) (s : Shared) (σ : St) (H : Hp) (D : Ends), Inv X pins σ H s → t D σ H → wpAny (model X.prog X.w) X.A (execs st X.env) (SP X pins D) X.xe s
theorem thn {α : Type} {t : Sem α} {Q Q' : α → Shared → Prop} {M : Model} {A : Around} {E : Value → Shared → Prop} {s : Shared} (h : wpAny M A t Q E s) (hQ : ∀ a s, Q a s → Q' a s) : wpAny M A t Q' E s := wpAny_mono h hQ fun _ _ x => x
end L2

namespace L2
open PySem PySem.Spec PyProof.Rows
section
variable {X : Cx}

noncomputable def T6 (i : Nat) : TE := fun σ H Q => ∃ v, σ[i]? = some (some v) ∧ Q v H
noncomputable def tC (v : V) : TE := fun _ H Q => Q v H
theorem b3O {i : Nat} {x : Str} {pos : Pos} (hN : X.N[i]? = some x) (hv : Vis X.env.scope x) (hd : (x == ("__debug__" : Str)) = false := by decide) (hcd : (x == ("__classdict__" : Str)) = false := by decide) : PE X (.Name x pos) (T6 i) := by
 intro pins s σ H Q I h
 obtain ⟨v, e, h⟩ := h
 obtain ⟨m, hn, hl⟩ := I.loc
 obtain ⟨u, r, l⟩ := hl i x v hN e hv
 have fin : EP X pins σ Q u s := ⟨v, H, I, r, h⟩
 rcases l with ⟨hk, hm⟩ | ⟨hk, c, hc, hcell⟩
 ·exact wpAny_Name (wpAny_loadName_local I.ok.kind hk hn hm fin) hd
 ·rcases hk with hk | hk
  ·exact wpAny_Name (wpAny_loadName_cell I.ok.kind hk hc hcell fin) hd
  ·exact wpAny_Name (wpAny_loadName_free I.ok.kind hk hc hcell fin hcd) hd
theorem a0q {i j pos} : PE X (.Constant (.int i) j pos) (tC (.int i)) := fun _ _ _ H _ I h => wpAny_Constant_int ⟨.int i, H, I.tok _, ⟨_, rfl⟩, h⟩
theorem a9n {b j pos} : PE X (.Constant (.bool b) j pos) (tC (.bl b)) := fun _ _ _ H _ I h => Constant_bool ⟨.bl b, H, I, rfl, h⟩
theorem a8w {j pos} : PE X (.Constant .none j pos) (tC .non) := fun _ _ _ H _ I h => Constant_none ⟨.non, H, I, rfl, h⟩
theorem U8 {x j pos} : PE X (.Constant (.str x) j pos) (tC (.str x)) := fun _ _ _ H _ I h => Calls.Constant_str ⟨.str x, H, I.tok _, ⟨_, rfl⟩, h⟩

noncomputable def Gl (X : Cx) (x : Str) : Prop := X.env.kindOf x = some .globalImplicit
theorem b3q {E : Value → Shared → Prop} {pins : List (Addr × Obj)} {s : Shared} {σ : St} {H : Hp} {x : Str} {u : Value} {pos : Pos} {Q : Value → Shared → Prop} (I : Inv X pins σ H s) (hg : Gl X x) (hm : X.mg x = some u) (h : Q u s)
  (hd : (x == ("__debug__" : Str)) = false := by decide) : wpAny (model X.prog X.w) X.A (eval (.Name x pos) X.env) Q E s :=
 Calls.Name_function_global I.ok.kind hg (Calls.loadGlobal_global (by rw [I.ok.glob]; exact I.mod.glob.keeps I.bk) hm h) hd
theorem W7 {E : Value → Shared → Prop} {pins : List (Addr × Obj)} {s : Shared} {σ : St} {H : Hp} {x : Str} {u : Value} {pos : Pos} {Q : Value → Shared → Prop} (I : Inv X pins σ H s) (hg : Gl X x) (hm : X.mg x = none) (hv : bootBuiltins x = some u) (h : Q u s)
  (hn : x ≠ "__name__" := by decide) (hd : (x == ("__debug__" : Str)) = false := by decide) : wpAny (model X.prog X.w) X.A (eval (.Name x pos) X.env) Q E s := by
 obtain ⟨mb, h1, h2⟩ := I.mod.blt
 exact Calls.Name_function_global I.ok.kind hg (Calls.loadGlobal_builtin (by rw [I.ok.glob]; exact I.mod.glob.keeps I.bk) hm (by rw [I.ok.blt]; exact h1.keeps I.bk) ((h2 x hn).trans hv) h) hd
theorem b2l {x : Str} {v : V} {u : Value} {pos : Pos} (hg : Gl X x) (hm : X.mg x = none) (hv : bootBuiltins x = some u) (r : RelV v u) (hn : x ≠ "__name__" := by decide) (hd : (x == ("__debug__" : Str)) = false := by decide) : PE X (.Name x pos) (tC v) :=
 fun _ _ _ H _ I h => W7 I hg hm hv ⟨v, H, I, r, h⟩ hn hd

variable {a b : Expr} {ta tb : TE} {pos : Pos}
variable {tA tB' : TT} {rest : List Expr}
noncomputable def b0x (t u : TT) : TT := fun σ H Q => t σ H fun c H1 => if c = true then u σ H1 Q else Q false H1
noncomputable def tOr (t u : TT) : TT := fun σ H Q => t σ H fun c H1 => if c = true then Q true H1 else u σ H1 Q
noncomputable def a9y (t : TT) : TT := fun σ H Q => t σ H fun c H1 => Q (!c) H1
theorem b1N (ha : PT X a tA) : PW X (.BoolOp .And [a] pos) tA := by
 intro wh pins s σ H Q I h
 refine isTrue_and (thn (ha pins s σ H Q I h) fun c s1 e => ?_)
 cases c with
 | true => exact isTrue_and_nil e
 | false => exact e
theorem a97 (ha : PT X a tA) : PW X (.BoolOp .Or [a] pos) tA := by
 intro wh pins s σ H Q I h
 refine isTrue_or (thn (ha pins s σ H Q I h) fun c s1 e => ?_)
 cases c with
 | false => exact isTrue_or_nil e
 | true => exact e
theorem a79 (ha : PT X a tA) (hb : PW X (.BoolOp .And (b :: rest) pos) tB') : PW X (.BoolOp .And (a :: b :: rest) pos) (b0x tA tB') := by
 intro wh pins s σ H Q I h
 refine isTrue_and (thn (ha pins s σ H _ I h) fun c s1 ⟨H1, I1, q1⟩ => ?_)
 cases c with
 | true => exact hb wh pins s1 σ H1 Q I1 q1
 | false => exact ⟨H1, I1, q1⟩
theorem b0E (ha : PT X a tA) (hb : PW X (.BoolOp .Or (b :: rest) pos) tB') : PW X (.BoolOp .Or (a :: b :: rest) pos) (tOr tA tB') := by
 intro wh pins s σ H Q I h
 refine isTrue_or (thn (ha pins s σ H _ I h) fun c s1 ⟨H1, I1, q1⟩ => ?_)
 cases c with
 | true => exact ⟨H1, I1, q1⟩
 | false => exact hb wh pins s1 σ H1 Q I1 q1
theorem a9k (ha : PT X a tA) : PT X (.UnaryOp .Not a pos) (a9y tA) := by
 intro pins s σ H Q I h
 exact isTrue_not (ha pins s σ H (fun c H1 => Q (!c) H1) I h)
noncomputable def b3w (ta tb : TE) : TE := fun σ H Q => ta σ H fun x H1 => ∃ c, x = .bl c ∧ if c = true then tb σ H1 Q else Q (.bl false) H1
noncomputable def a8T (ta : TE) : TE := fun σ H Q => ta σ H fun x H1 => ∃ c, x = .bl c ∧ Q (.bl (!c)) H1
theorem a8O {op} {t : TE} (h : PE X a t) : PE X (.BoolOp op [a] pos) t := fun pins s σ H Q I hw => BoolOp_one (h pins s σ H Q I hw)
theorem b1Q (ha : PE X a ta) (hb : PE X (.BoolOp .And (b :: rest) pos) tb) : PE X (.BoolOp .And (a :: b :: rest) pos) (b3w ta tb) := by
 intro pins s σ H Q I h
 refine BoolOp_and (thn (ha pins s σ H _ I h) fun v s1 ⟨x, H1, I1, r1, q1⟩ => ?_)
 obtain ⟨c, rfl, q1⟩ := q1
 cases r1
 refine wpAny_truthy_bool ?_
 cases c with
 | true => exact hb pins s1 σ H1 Q I1 q1
 | false => exact ⟨.bl false, H1, I1, rfl, q1⟩
theorem b2B (ha : PE X a ta) : PE X (.UnaryOp .Not a pos) (a8T ta) := by
 intro pins s σ H Q I h
 refine UnaryOp_ (thn (ha pins s σ H _ I h) fun v s1 ⟨x, H1, I1, r1, q1⟩ => ?_)
 obtain ⟨c, rfl, q1⟩ := q1
 cases r1
 exact not_of (wpAny_truthy_bool ⟨.bl (!c), H1, I1, rfl, q1⟩)
noncomputable def tIf (t : TT) (ta tb : TE) : TE := fun σ H Q => t σ H fun c H1 => if c = true then ta σ H1 Q else tb σ H1 Q
theorem a8Y {c : Expr} (hc : PT X c tA) (ha : PE X a ta) (hb : PE X b tb) : PE X (.IfExp c a b pos) (tIf tA ta tb) := by
 intro pins s σ H Q I h
 refine wpAny_IfExp (thn (hc pins s σ H _ I h) fun d s1 ⟨H1, I1, q1⟩ => ?_)
 cases d with
 | true => exact ha pins s1 σ H1 Q I1 q1
 | false => exact hb pins s1 σ H1 Q I1 q1
end
end L2

namespace L2
open PySem PySem.Spec PyProof.Rows

noncomputable def SqL (K : PySem.W.Frag) (H : Hp) (a : Addr) (xs : List V) : Prop :=
 Rd H a (.lst xs) ∨
  ∃ (o : Obj) (its : Array Value) (n : Nat), K.lookup a = some o ∧ o.cls = .type "list" ∧ o.dict = none ∧ o.data = .seq its n ∧ its.size ≤ sizeLine ∧ Vals xs its.toList
noncomputable def SqT (K : PySem.W.Frag) (H : Hp) (a : Addr) (xs : List V) : Prop :=
 Rd H a (.tup xs) ∨
  ∃ (o : Obj) (its : Array Value) (n : Nat), K.lookup a = some o ∧ o.cls = .type "tuple" ∧ o.data = .seq its n ∧ its.size ≤ sizeLine ∧ Vals xs its.toList
noncomputable def b3K : Value → Option V
 | .none => some .non
 | .bool b => some (.bl b)
 | .int i _ => some (.int i)
 | .str x _ => some (.str x)
 | .bytes b _ => some (.byt b)
 | .float b _ => some (.flt b)
 | .ref a => some (.ref a)
 | .type n => some (.ty n)
 | _ => none
theorem RelV.abs {x : V} {u : Value} (r : RelV x u) : b3K u = some x := by
 cases x with
 | non => cases r; rfl
 | bl _ => cases r; rfl
 | int _ => obtain ⟨t, rfl⟩ := r; rfl
 | str _ => obtain ⟨t, rfl⟩ := r; rfl
 | byt _ => obtain ⟨t, rfl⟩ := r; rfl
 | flt _ => obtain ⟨t, rfl⟩ := r; rfl
 | ref _ => cases r; rfl
 | ty _ => cases r; rfl
theorem RelV.inj {x y : V} {u : Value} (r : RelV x u) (q : RelV y u) : x = y := Option.some.inj (r.abs.symm.trans q.abs)
theorem Vals.inj : ∀ {xs ys : List V} {us : List Value}, Vals xs us → Vals ys us → xs = ys := by
 intro xs ys us h
 induction h generalizing ys with
 | nil =>
  intro h2
  cases h2
  rfl
 | cons r t ih =>
  intro h2
  cases h2 with
  | cons r' t' => rw [r.inj r', ih t']
section
variable {X : Cx} {pins : List (Addr × Obj)} {σ : St} {H : Hp} {s : Shared} {a : Addr} {xs ys : List V}
theorem SqL.of {K : PySem.W.Frag} (h : H a = some (.lst xs)) : SqL K H a xs := .inl (.inl h)
theorem SqT.of {K : PySem.W.Frag} (h : H a = some (.tup xs)) : SqT K H a xs := .inl (.inl h)
theorem Inv.list (I : Inv X pins σ H s) (h : SqL X.K H a xs) : ∃ its : List Value, Vals xs its ∧ PlainL s.heap a its.toArray ∧ xs.length ≤ sizeLine := by
 rcases h with h | ⟨o, its, n, hk, hc, hd, hs, hz, r⟩
 ·obtain ⟨z, its, n, r, e⟩ := h.ok I.hok
  exact ⟨its, r, ⟨_, n, e, rfl, rfl, rfl⟩, z⟩
 ·refine ⟨its.toList, r, ⟨o, n, I.kIn a o hk, hc, hd, by simpa using hs⟩, ?_⟩
  have e := r.length
  simp only [Array.length_toList] at e
  omega
theorem Inv.tuple (I : Inv X pins σ H s) (h : SqT X.K H a xs) : ∃ its : List Value, Vals xs its ∧ IsTup s.heap a its.toArray ∧ xs.length ≤ sizeLine := by
 rcases h with h | ⟨o, its, n, hk, hc, hs, hz, r⟩
 ·obtain ⟨z, its, r, p⟩ := h.ok I.hok
  exact ⟨its, r, p, z⟩
 ·refine ⟨its.toList, r, ⟨o, I.kIn a o hk, hc, n, by simpa using hs⟩, ?_⟩
  have e := r.length
  simp only [Array.length_toList] at e
  omega
theorem Inv.list_inj (I : Inv X pins σ H s) (h : SqL X.K H a xs) (h' : SqL X.K H a ys) : xs = ys := by
 obtain ⟨its, r, ⟨o, n, e, _, _, d⟩, _⟩ := I.list h
 obtain ⟨its', r', ⟨o', n', e', _, _, d'⟩, _⟩ := I.list h'
 rw [e] at e'; cases e'
 rw [d] at d'
 injection d' with d1 _
 have : its = its' := by simpa using congrArg Array.toList d1
 subst this
 exact r.inj r'
theorem Inv.tuple_inj (I : Inv X pins σ H s) (h : SqT X.K H a xs) (h' : SqT X.K H a ys) : xs = ys := by
 obtain ⟨its, r, ⟨o, e, _, n, d⟩, _⟩ := I.tuple h
 obtain ⟨its', r', ⟨o', e', _, n', d'⟩, _⟩ := I.tuple h'
 rw [e] at e'; cases e'
 rw [d] at d'
 injection d' with d1 _
 have : its = its' := by simpa using congrArg Array.toList d1
 subst this
 exact r.inj r'
end

noncomputable abbrev Cx.wish (X : Cx) (E : Value → Shared → Prop) : Cx := { X with xe := E }
noncomputable abbrev Cx.nox (X : Cx) : Cx := X.wish fun _ _ => False
theorem Cx.Ok.wish {X : Cx} (ok : X.Ok) (E : Value → Shared → Prop) : (X.wish E).Ok :=
 ⟨ok.mod, ok.kind, ok.glob, ok.blt, ok.above, ok.inj, ok.has, ok.cab, ok.hd, ok.frames, ok.stk, ok.exf, ok.bs, ok.bsz, ok.noex, ok.exfs, ok.funs, ok.frf⟩
theorem Cx.Ok.unwish {X : Cx} {E : Value → Shared → Prop} (ok : (X.wish E).Ok) : X.Ok :=
 ⟨ok.mod, ok.kind, ok.glob, ok.blt, ok.above, ok.inj, ok.has, ok.cab, ok.hd, ok.frames, ok.stk, ok.exf, ok.bs, ok.bsz, ok.noex, ok.exfs, ok.funs, ok.frf⟩
section
variable {X : Cx} {pins : List (Addr × Obj)} {σ : St} {H : Hp} {s : Shared} {E : Value → Shared → Prop}
theorem Inv.wish (I : Inv X pins σ H s) (E : Value → Shared → Prop) : Inv (X.wish E) pins σ H s := ⟨I.ok.wish E, I.os, I.bare, I.base, I.loc, I.cell, I.free, I.freeC, I.pin, I.hok, I.len⟩
theorem Inv.unwish (I : Inv (X.wish E) pins σ H s) : Inv X pins σ H s := ⟨I.ok.unwish, I.os, I.bare, I.base, I.loc, I.cell, I.free, I.freeC, I.pin, I.hok, I.len⟩
theorem SP.unwish {D : Ends} {f : Flow} {s' : Shared} (h : SP (X.wish E) pins D f s') : SP X pins D f s' := by
 cases f with
 | next => obtain ⟨σ', H', I, q⟩ := h; exact ⟨σ', H', I.unwish, q⟩
 | brk => obtain ⟨σ', H', I, q⟩ := h; exact ⟨σ', H', I.unwish, q⟩
 | cont => obtain ⟨σ', H', I, q⟩ := h; exact ⟨σ', H', I.unwish, q⟩
 | ret u => obtain ⟨v, σ', H', I, r, q⟩ := h; exact ⟨v, σ', H', I.unwish, r, q⟩
theorem PSs.nox {st : List Stmt} {t : TS} (h : PSs X.nox st t) : PSs X st t := fun pins s σ H D I hw =>
 wpAny_mono (h pins s σ H D (I.wish _) hw) (fun _ _ q => q.unwish) fun _ _ z => False.elim z
end

section
variable {X : Cx} {st : Stmt} {rest : List Stmt} {t u : TS} {e : Expr} {te : TE} {pos : Pos}
noncomputable def a8F : TS := fun D σ H => D.nx σ H
noncomputable def a7B (t u : TS) : TS := fun D σ H => t { D with nx := u D } σ H
theorem b05 : PSs X [] a8F := fun _ _ σ H _ I h => wpAny_execs_nil ⟨σ, H, I, h⟩
theorem a9q (h1 : PS X st t) (h2 : PSs X rest u) : PSs X (st :: rest) (a7B t u) := by
 intro pins s σ H D I h
 refine wpAny_execs_cons (thn (h1 pins s σ H { D with nx := u D } I h) fun f s1 q => ?_)
 cases f with
 | next =>
  obtain ⟨σ', H', I', q⟩ := q
  exact h2 pins s1 σ' H' D I' q
 | ret v => exact q
 | brk => exact q
 | cont => exact q
theorem b2Z (h1 : PS X st t) : PSs X [st] t := by
 intro pins s σ H D I h
 refine wpAny_execs_cons (thn (h1 pins s σ H D I h) fun f s1 q => ?_)
 cases f with
 | next => exact wpAny_execs_nil q
 | ret v => exact q
 | brk => exact q
 | cont => exact q
theorem Inv.quiet {pins : List (Addr × Obj)} {σ : St} {H : Hp} {s : Shared} (I : Inv X pins σ H s) : interactive X.env = false := by simp [interactive, I.ok.kind]
noncomputable def b0a (te : TE) : TS := fun D σ H => te σ H fun _ H1 => D.nx σ H1
theorem a8R (he : PE X e te) (hs : swapsWith e none pos.line X.env = pure false := by rfl) : PS X (.Expr e pos) (b0a te) := by
 intro pins s σ H D I h
 exact wpAny_Expr_any (thn (he pins s σ H _ I h) fun v s1 ⟨x, H1, I1, r1, q1⟩ => ⟨σ, H1, I1, q1⟩) I.quiet hs
noncomputable def b2f (te : TE) : TS := fun D σ H => te σ H D.rt
theorem b3I (he : PE X e te) : PS X (.Return (some e) pos) (b2f te) := by
 intro pins s σ H D I h
 exact wpAny_Return_some (thn (he pins s σ H _ I h) fun v s1 ⟨x, H1, I1, r1, q1⟩ => ⟨x, σ, H1, I1, r1, q1⟩)
noncomputable def b1R (c : TT) (t u : TS) : TS := fun D σ H => c σ H fun b H1 => if b = true then t D σ H1 else u D σ H1
theorem b1M {c : Expr} {a b : List Stmt} {tc : TT} (hc : PT X c tc) (ha : PSs X a t) (hb : PSs X b u) : PS X (.If c a b pos) (b1R tc t u) := by
 intro pins s σ H D I h
 refine wpAny_If (thn (hc pins s σ H _ I h) fun d s1 ⟨H1, I1, q1⟩ => ?_)
 cases d with
 | true => exact ha pins s1 σ H1 D I1 q1
 | false => exact hb pins s1 σ H1 D I1 q1
end

noncomputable abbrev TG := V → St → Hp → (St → Hp → Prop) → Prop
noncomputable abbrev TGs := List V → St → Hp → (St → Hp → Prop) → Prop
noncomputable def PG (X : Cx) (target : Expr) (t : TG) : Prop :=
 ∀ (pins : List (Addr × Obj)) (s : Shared) (σ : St) (H : Hp) (v : V) (u : Value) (Q : St → Hp → Prop), Inv X pins σ H s → RelV v u → t v σ H Q →
  wpAny (model X.prog X.w) X.A (assign target X.env u) (fun _ s' => ∃ σ' H', Inv X pins σ' H' s' ∧ Q σ' H') X.xe s
noncomputable def PGs (X : Cx) (ts : List Expr) (t : TGs) : Prop :=
 ∀ (pins : List (Addr × Obj)) (s : Shared) (σ : St) (H : Hp) (vs : List V) (us : List Value) (Q : St → Hp → Prop), Inv X pins σ H s → Vals vs us → t vs σ H Q →
  wpAny (model X.prog X.w) X.A (assignInOrder ((assignEach ts X.env).map (·.2)) us) (fun _ s' => ∃ σ' H', Inv X pins σ' H' s' ∧ Q σ' H') X.xe s
section
variable {X : Cx} {pos : Pos}
noncomputable def V1 (i : Nat) : TG := fun v σ H Q => Q (σ.set i (some v)) H
theorem A3 {i : Nat} {x : Str} (hN : X.N.Nodup) (hi : X.N[i]? = some x) (hx : Loc X.env.scope x) (hf : X.fn x = true ∨ X.env.scope.names.lookup x = some .local := by first | exact .inl rfl | exact .inr rfl | assumption) : PG X (.Name x pos) (V1 i) := by
 intro pins s σ H v u Q I r h
 exact wpAny_assign_Name (a1J I hN hi hx r (fun s' I' => ⟨_, H, I', h⟩) hf)
noncomputable def a6N : TGs := fun vs σ H Q => vs = [] ∧ Q σ H
noncomputable def a4h (t : TG) (u : TGs) : TGs := fun vs σ H Q => ∃ v r, vs = v :: r ∧ t v σ H fun σ' H' => u r σ' H' Q
theorem a5x : PGs X [] a6N := by
 intro pins s σ H vs us Q I r h
 obtain ⟨e, h⟩ := h
 subst e
 cases r
 exact assignInOrder_nil ⟨σ, H, I, h⟩
theorem a4a {e : Expr} {es : List Expr} {t : TG} {u : TGs} (h1 : PG X e t) (h2 : PGs X es u)
  (hs : (assignEach (e :: es) X.env).map (·.2) = assign e X.env :: (assignEach es X.env).map (·.2) := by rfl) : PGs X (e :: es) (a4h t u) := by
 intro pins s σ H vs us Q I r h
 obtain ⟨v, vr, e1, h⟩ := h
 subst e1
 cases r with
 | cons r rr =>
  rw [hs]
  refine assignInOrder_cons (thn (h1 pins s σ H _ _ _ I r h) fun _ s1 ⟨σ1, H1, I1, q1⟩ => ?_)
  exact h2 pins s1 σ1 H1 _ _ Q I1 rr q1
noncomputable def a5B (K : PySem.W.Frag) (n : Nat) (t : TGs) : TG := fun v σ H Q => ∃ a xs, v = .ref a ∧ SqT K H a xs ∧ xs.length = n ∧ t xs σ H Q
theorem a5H {es : List Expr} {k : Nat} {t : TGs} {n : Nat} (hc : X.calm = true) (h : PGs X es t)
  (hn : (assignEach es X.env).length = n := by rfl) (hst : (assignEach es X.env).findIdx? (·.1) = none := by rfl) : PG X (.Tuple es k pos) (a5B X.K n t) := by
 intro pins s σ H v u Q I r hw
 obtain ⟨a, xs, e1, hq, hl, hw⟩ := hw
 subst e1
 cases r
 obtain ⟨its, rv, ht, hz⟩ := I.tuple hq
 refine assign_Tuple_tuple (I.ok.hd hc) ht (by simp [hn, ← hl, rv.length]) hst fun h' hx => ?_
 have I1 : Inv X pins σ H { s with heap := h' } := I.kept (t' := s.toks) fun b o e => hx b o (Nat.ne_of_lt (Heap.lt_size e)) e
 exact h pins _ σ H xs _ Q I1 (by simpa using rv) hw
noncomputable def a2y (te : TE) (g : TG) : TS := fun D σ H => te σ H fun x H1 => g x σ H1 D.nx
theorem b1s {tg e : Expr} {te : TE} {g : TG} (he : PE X e te) (hg : PG X tg g) (hs : swapsWithSole [tg] e pos.line X.env = pure false := by rfl) (hw : swappedStores [tg] e X.env = pure none := by rfl)
  (h1 : (assignEach [tg] X.env).map (·.2) = [assign tg X.env] := by rfl) : PS X (.Assign [tg] e pos) (a2y te g) := by
 intro pins s σ H D I h
 refine wpAny_Assign_stores (thn (he pins s σ H _ I h) fun v s1 ⟨x, H1, I1, r1, q1⟩ => ?_) hs hw
 rw [h1]
 exact thn (hg pins s1 σ H1 x v _ I1 r1 q1) fun _ s2 q => q
theorem a5k {i : Nat} {x : Str} {e : Expr} {te : TE} {pos' : Pos} (hN : X.N.Nodup) (hi : X.N[i]? = some x) (hx : Loc X.env.scope x) (he : PE X e te) (hs : swapsWith e (some (.Name x pos')) pos.line X.env = pure false := by rfl) (hf : X.fn x = true ∨ X.env.scope.names.lookup x = some .local := by first | exact .inl rfl | exact .inr rfl | assumption) :
  PS X (.Assign [.Name x pos'] e pos) (a2y te (V1 i)) := by
 intro pins s σ H D I h
 refine wpAny_Assign_Name (thn (he pins s σ H _ I h) fun v s1 ⟨y, H1, I1, r1, q1⟩ => ?_) hs
 exact a1J I1 hN hi hx r1 (fun s2 I2 => ⟨_, H1, I2, q1⟩) hf
noncomputable def a8N (i j : Nat) (ta : TA) : TS := fun D σ H => ta σ H fun vs H1 => ∃ v w, vs = [v, w] ∧ D.nx ((σ.set i (some v)).set j (some w)) H1
theorem b3T {i j : Nat} {x y : Str} {a b : Expr} {ta : TA} {px py pt : Pos} {kt k2 pt2} (hc : X.calm = true) (hN : X.N.Nodup) (hi : X.N[i]? = some x) (hj : X.N[j]? = some y) (hij : i ≠ j)
  (hx : X.env.scope.names.lookup x = some .local) (hy : X.env.scope.names.lookup y = some .local) (ha : PA X [a, b] ta)
  (hw : swappedStores [.Tuple [.Name x px, .Name y py] kt pt] (.Tuple [a, b] k2 pt2) X.env = pure (some [x, y]))
  (hs : swapsWithSole [.Tuple [.Name x px, .Name y py] kt pt] (.Tuple [a, b] k2 pt2) pos.line X.env = pure false := by rfl) :
  PS X (.Assign [.Tuple [.Name x px, .Name y py] kt pt] (.Tuple [a, b] k2 pt2) pos) (a8N i j ta) := by
 intro pins s σ H D I h
 rw [exec_Assign_arm]
 refine wpAny_bind (wpAny_standAt ?_)
 rw [hs]
 refine wpAny_bind (wpAny_pure ?_)
 rw [if_neg (by decide)]
 refine wpAny_bind (Tuple_ (thn (ha _ pins s σ H _ I h) fun us s1 ⟨vs, H1, I1, r1, q1⟩ => ?_))
 obtain ⟨v, w, e1, q1⟩ := q1
 subst e1
 obtain ⟨u1, u2, rfl, rv, rw'⟩ : ∃ u1 u2, us = [u1, u2] ∧ RelV v u1 ∧ RelV w u2 := by
  cases r1 with
  | cons p q =>
   cases q with
   | cons p' q' =>
    cases q'
    exact ⟨_, _, rfl, p, p'⟩
 refine wpAny_newObj_type ?_ (by show 2 ≤ sizeLine; decide)
 have I2 : Inv X pins σ H1 { s1 with heap := s1.heap.push { cls := .type "tuple", data := .seq [u1, u2].toArray } } := I1.kept (t' := s1.toks) fun b o e => Heap.get?_push_of_some _ e
 rw [hw]
 refine wpAny_bind (wpAny_pure ?_)
 show wpAny (model X.prog X.w) X.A (do rule "assign.swapped-stores"; let items ← unpackItems (.ref s1.heap.objs.size) 2 none; assignInOrder [fun v => bindName X.env y v, fun v => bindName X.env x v] items.reverse; pure Flow.next) _ _ _
 refine wpAny_bind (wpAny_rule (wpAny_bind (unpackItems_tuple (items := #[u1, u2]) (I.ok.hd hc) (IsTup.new s1.heap _) fun h' hx' => ?_)))
 have I3 := I2.kept (h' := h') (t' := s1.toks) fun b o e => hx' b o (Nat.ne_of_lt (Heap.lt_size e)) e
 show wpAny _ _ (assignInOrder [fun v => bindName X.env y v, fun v => bindName X.env x v] [u2, u1] >>= fun _ => pure Flow.next) _ _ _
 refine wpAny_bind (assignInOrder_cons (wpAny_bindName (a1J I3 hN hj (.inl hy) rw' (fun s2 I4 => ?_) (.inr hy))))
 refine assignInOrder_cons (wpAny_bindName (a1J I4 hN hi (.inl hx) rv (fun s3 I5 => assignInOrder_nil (wpAny_pure ?_)) (.inr hx)))
 rw [List.set_comm _ _ (Ne.symm hij)] at I5
 exact ⟨_, H1, I5, q1⟩
end

section
variable {X : Cx} {pos : Pos}
noncomputable def b2j (c : TT) (tb : TS) : TS := fun D σ H => ∃ W : Nat → St → Hp → Prop, (∃ m, W m σ H) ∧ ∀ m σ H, W m σ H →
 c σ H fun b H1 => if b = true then ∃ N : St → Hp → Prop, (∀ σ' H', N σ' H' → ∃ m', m' < m ∧ W m' σ' H') ∧ tb { D with nx := N, ct := N, bk := D.nx } σ H1 else D.nx σ H1
theorem b29 {c : Expr} {body : List Stmt} {tc : TT} {tb : TS} (hp : PassesOwn (model X.prog X.w) X.A X.env X.xe) (hc : PT X c tc) (hb : PSs X body tb) : PS X (.While c body [] pos) (b2j tc tb) := by
 intro pins s σ H D I h
 obtain ⟨W, ⟨m0, w0⟩, turn⟩ := h
 refine wpAny_While (codeAny_whileLoop (fun n s' => ∃ σ' H', Inv X pins σ' H' s' ∧ W n σ' H') ?_ m0 ⟨σ, H, I, w0⟩)
 rintro n s1 ⟨σ1, H1, I1, w1⟩
 refine wpAny_passesOwn hp (thn (hc pins s1 σ1 H1 _ I1 (turn n σ1 H1 w1)) fun b s2 ⟨H2, I2, q2⟩ => ?_)
 cases b with
 | true =>
  obtain ⟨N, hN, q2⟩ := q2
  rw [if_pos rfl]
  refine wpAny_passesOwn hp (thn (hb pins s2 σ1 H2 _ I2 q2) fun f s3 q3 => ?_)
  cases f with
  | next =>
   obtain ⟨σ3, H3, I3, n3⟩ := q3
   obtain ⟨m', hm, w3⟩ := hN σ3 H3 n3
   exact ⟨m', hm, σ3, H3, I3, w3⟩
  | cont =>
   obtain ⟨σ3, H3, I3, n3⟩ := q3
   obtain ⟨m', hm, w3⟩ := hN σ3 H3 n3
   exact ⟨m', hm, σ3, H3, I3, w3⟩
  | brk => exact q3
  | ret v => exact q3
 | false =>
  rw [if_neg Bool.false_ne_true]
  exact wpAny_execs_nil ⟨σ1, H2, I2, q2⟩
end

structure It where
 go : Nat → Hp → Prop
 yld : Nat → Hp → V → Hp → Prop
 stop : Nat → Hp → Prop
noncomputable def O9 (X : Cx) (pins : List (Addr × Obj)) (H : Hp) (b : Addr) : Prop :=
 H b = none ∧ b ≠ X.env.locals ∧ b ∉ X.fs ∧ (b ∈ X.ex ∨ X.s₀.heap.objs.size ≤ b) ∧ (∀ x c, X.env.cells.lookup x = some c → c ≠ b) ∧ ∀ p ∈ X.pn ++ pins, p.1 ≠ b
theorem Inv.fpOk {X : Cx} {pins : List (Addr × Obj)} {σ : St} {H H' : Hp} {s : Shared} {b : Addr} (I : Inv X pins σ H s) (hb : s.heap.objs.size ≤ b) (hn : H' b = none) : O9 X pins H' b := by
 refine ⟨hn, Nat.ne_of_gt (Nat.lt_of_lt_of_le I.lt hb), I.nofs hb, .inr (Nat.le_trans I.sz hb), fun x c e z => ?_, fun p hp z => ?_⟩
 ·obtain ⟨v, q⟩ := I.cell x c e
  exact absurd (Nat.lt_of_lt_of_le q.lt (by rw [z]; exact hb)) (Nat.lt_irrefl _)
 ·exact absurd (Nat.lt_of_lt_of_le (Heap.lt_size (I.pin p hp).1) (by rw [z]; exact hb)) (Nat.lt_irrefl _)
structure Turn (P : Program) (w : World) (K : PySem.W.Frag) (tg : Expr) (J : It) (fp : List Addr) (it : Addr) (tn : Nat → Heap → Prop) : Prop where
 mem : it ∈ fp
 obj : ∀ i h, tn i h → ∀ b ∈ fp, ∃ o, h.get? b = some o ∧ ∀ v, o.data ≠ .cell v
 keep : ∀ i h h', tn i h → (∀ b ∈ fp, ∀ o, h.get? b = some o → h'.get? b = some o) → tn i h'
 item : ∀ (X : Cx), X.prog = P → X.w = w → X.K = K → X.calm = true → ∀ (i : Nat) (pins : List (Addr × Obj)) (s : Shared) (σ : St) (H : Hp) (E : Value → Shared → Prop), Inv X pins σ H s → (∀ b ∈ fp, O9 X pins H b) → tn i s.heap → J.go i H →
  wpAny (model P w) X.A (pyNext (.ref it)) (fun r s1 => ∃ u, r = some u ∧
   wpAny (model P w) X.A (letOwnedTupleGo tg (.ref it) u) (fun _ s2 => ∃ x H', Inv X pins σ H' s2 ∧ RelV x u ∧ J.yld i H x H' ∧ tn (i + 1) s2.heap ∧ ∀ b ∈ fp, H' b = none) E s1) E s
 done : ∀ (X : Cx), X.prog = P → X.w = w → X.K = K → X.calm = true → ∀ (i : Nat) (pins : List (Addr × Obj)) (s : Shared) (σ : St) (H : Hp) (E : Value → Shared → Prop), Inv X pins σ H s → (∀ b ∈ fp, O9 X pins H b) → tn i s.heap → J.stop i H →
  wpAny (model P w) X.A (pyNext (.ref it)) (fun r s1 => r = none ∧ Inv X pins σ H s1) E s
 self : ∀ (A : Around) (i : Nat) (s : Shared) (Q : Value → Shared → Prop) (E : Value → Shared → Prop), tn i s.heap → Q (.ref it) s → wpAny (model P w) A (pyIter (.ref it)) Q E s
noncomputable abbrev TI := St → Hp → (It → Hp → Prop) → Prop
noncomputable def PIE (X : Cx) (pins : List (Addr × Obj)) (σ : St) (tg : Expr) (R : It → Hp → Prop) (itv : Value) (s2 : Shared) : Prop :=
 ∃ (it : Addr) (fp : List Addr) (tn : Nat → Heap → Prop) (J : It) (H' : Hp), itv = .ref it ∧ Inv X pins σ H' s2 ∧ Turn X.prog X.w X.K tg J fp it tn ∧ tn 0 s2.heap ∧ (∀ b ∈ fp, O9 X pins H' b) ∧ R J H'
noncomputable def PI (X : Cx) (tg iter : Expr) (wi : TI) : Prop :=
 ∀ (pins : List (Addr × Obj)) (s : Shared) (σ : St) (H : Hp) (R : It → Hp → Prop), Inv X pins σ H s → wi σ H R →
  wpAny (model X.prog X.w) X.A (eval iter X.env) (fun v s1 => wpAny (model X.prog X.w) X.A (pyIter v) (PIE X pins σ tg R) X.xe s1) X.xe s

theorem a38 {M : Model} {A : Around} {E : Value → Shared → Prop} {s : Shared} {tg : Expr} {it : Addr} {u : Value} {o : Obj} {n : String} {vs : Array Value} {Q : Unit → Shared → Prop} (ho : s.heap.get? it = some o) (hc : o.cls = .type n) (hd : o.data = .fields vs)
    (hn : ["enumerate", "zip", "dict_itemiterator", "dict_reverseitemiterator", "odict_iterator", "itertools.zip_longest", "itertools.pairwise"].contains n = false) (hQ : Q () s) : wpAny M A (letOwnedTupleGo tg (.ref it) u) Q E s := by
  unfold letOwnedTupleGo
  cases tg <;> first
    | exact wpAny_pure hQ
    | (cases u <;> first
        | exact wpAny_pure hQ
        | (refine wpAny_bind (wpAny_load ho ?_)
           rw [hc, hd]
           show wpAny M A (if (["enumerate", "zip", "dict_itemiterator", "dict_reverseitemiterator", "odict_iterator", "itertools.zip_longest", "itertools.pairwise"].contains n && vs[0]? == some (rawInt _)) = true then _ else _) Q E s
           rw [if_neg (by intro h; rw [hn, Bool.false_and] at h; cases h)]
           exact wpAny_pure hQ))

noncomputable def Itl (K : PySem.W.Frag) (a : Addr) : It :=
 ⟨fun i H => ∃ xs x, SqL K H a xs ∧ xs[i]? = some x, fun i H x H' => H' = H ∧ ∀ xs, SqL K H a xs → xs[i]? = some x, fun i H => ∃ xs, SqL K H a xs ∧ xs.length ≤ i⟩
noncomputable def Itt (K : PySem.W.Frag) (a : Addr) : It :=
 ⟨fun i H => ∃ xs x, SqT K H a xs ∧ xs[i]? = some x, fun i H x H' => H' = H ∧ ∀ xs, SqT K H a xs → xs[i]? = some x, fun i H => ∃ xs, SqT K H a xs ∧ xs.length ≤ i⟩
noncomputable def Itr (lo : Int) (n : Nat) : It := ⟨fun i _ => i < n, fun i H x H' => H' = H ∧ x = .int (lo + i), fun i _ => n ≤ i⟩
theorem a9s {P : Program} {w : World} {K : PySem.W.Frag} {tg : Expr} (a it : Addr) : Turn P w K tg (Itl K a) [it] it (fun i h => h.IsListIter it a i) where
 mem := by simp
 obj := fun i h st b hb => by
  have e : b = it := by simpa using hb
  subst e
  obtain ⟨o, e, c, d⟩ := st
  exact ⟨o, e, fun v z => by rw [d] at z; cases z⟩
 keep := fun i h h' st k => st.at fun o e => k it (by simp) o e
 item := by
  intro X hP hw hK hc i pins s σ H E I hf st hg
  subst hP hw hK
  obtain ⟨xs, x, hq, hx⟩ := hg
  obtain ⟨its, rv, p, hz⟩ := I.list hq
  obtain ⟨u, hu, ru⟩ := rv.get hx
  obtain ⟨f0, f1, f2, f3, f4, f5⟩ := hf it (by simp)
  refine wpAny_pyNext_list_item st p.isList (x := u) (by simpa using hu) fun h' st' sb => ?_
  have I1 : Inv X pins σ H { s with heap := h' } := I.turned (t' := s.toks) (fun b o hb e => (sb.2 b hb).trans e) f0 f1 f3 f4 f5
  obtain ⟨o, e, c, d⟩ := id st'
  exact ⟨u, rfl, a38 (s := { s with heap := h' }) e c d (by decide) ⟨x, H, I1, ru, ⟨rfl, fun ys hy => by rw [I.list_inj hy hq]; exact hx⟩, st', fun b hb => (hf b hb).1⟩⟩
 done := by
  intro X hP hw hK hc i pins s σ H E I hf st hg
  subst hP hw hK
  obtain ⟨xs, hq, hx⟩ := hg
  obtain ⟨its, rv, p, hz⟩ := I.list hq
  obtain ⟨f0, f1, f2, f3, f4, f5⟩ := hf it (by simp)
  have hl := rv.length
  exact wpAny_pyNext_list_end (I.ok.hd hc) st p.isList (by simp; omega) fun h' eb => ⟨rfl, I.turned (t' := s.toks) (fun b o hb e => eb b o hb e) f0 f1 f3 f4 f5⟩
 self := fun _ _ _ _ _ st h => wpAny_pyIter_listiter st h
theorem a7U {P : Program} {w : World} {K : PySem.W.Frag} {tg : Expr} (a it : Addr) : Turn P w K tg (Itt K a) [it] it (fun i h => h.IsTupleIter it a i) where
 mem := by simp
 obj := fun i h st b hb => by
  have e : b = it := by simpa using hb
  subst e
  obtain ⟨o, e, c, d⟩ := st
  exact ⟨o, e, fun v z => by rw [d] at z; cases z⟩
 keep := fun i h h' st k => st.at fun o e => k it (by simp) o e
 item := by
  intro X hP hw hK hc i pins s σ H E I hf st hg
  subst hP hw hK
  obtain ⟨xs, x, hq, hx⟩ := hg
  obtain ⟨its, rv, p, hz⟩ := I.tuple hq
  obtain ⟨u, hu, ru⟩ := rv.get hx
  obtain ⟨f0, f1, f2, f3, f4, f5⟩ := hf it (by simp)
  refine wpAny_pyNext_tuple_item st (show s.heap.IsTuple a its.toArray from p) (x := u) (by simpa using hu) fun h' st' sb => ?_
  have I1 : Inv X pins σ H { s with heap := h' } := I.turned (t' := s.toks) (fun b o hb e => (sb.2 b hb).trans e) f0 f1 f3 f4 f5
  obtain ⟨o, e, c, d⟩ := id st'
  exact ⟨u, rfl, a38 (s := { s with heap := h' }) e c d (by decide) ⟨x, H, I1, ru, ⟨rfl, fun ys hy => by rw [I.tuple_inj hy hq]; exact hx⟩, st', fun b hb => (hf b hb).1⟩⟩
 done := by
  intro X hP hw hK hc i pins s σ H E I hf st hg
  subst hP hw hK
  obtain ⟨xs, hq, hx⟩ := hg
  obtain ⟨its, rv, p, hz⟩ := I.tuple hq
  obtain ⟨f0, f1, f2, f3, f4, f5⟩ := hf it (by simp)
  have hl := rv.length
  exact wpAny_pyNext_tuple_end (I.ok.hd hc) st (show s.heap.IsTuple a its.toArray from p) (by simp; omega) fun h' eb => ⟨rfl, I.turned (t' := s.toks) (fun b o hb e => eb b o hb e) f0 f1 f3 f4 f5⟩
 self := fun _ _ _ _ _ st h => wpAny_pyIter_tupleiter st h
theorem a8h {P : Program} {w : World} {K : PySem.W.Frag} {tg : Expr} (it : Addr) (lo : Int) (n : Nat) : Turn P w K tg (Itr lo n) [it] it (fun i h => IsRangeIter h it (lo + (i : Nat) * 1) ((n : Int) - (i : Nat)) 1) where
 mem := by simp
 obj := fun i h st b hb => by
  have e : b = it := by simpa using hb
  subst e
  exact ⟨_, st, fun v z => by
   have z' : Data.fields _ = Data.cell v := z
   cases z'⟩
 keep := fun i h h' st k => k it (by simp) _ st
 item := by
  intro X hP hw hK hc i pins s σ H E I hf st hg
  subst hP hw hK
  obtain ⟨f0, f1, f2, f3, f4, f5⟩ := hf it (by simp)
  have W := Walks.range (prog := X.prog) (w := X.w) (I.ok.hd hc) it lo 1 n
  refine W.item i s _ _ hg st fun v h' tk hv st' kk => ?_
  obtain ⟨t, rfl⟩ := hv
  have I1 : Inv X pins σ H { s with heap := h', toks := tk } := I.turned (fun b o hb e => kk b o (by simpa using hb) e) f0 f1 f3 f4 f5
  refine ⟨_, rfl, a38 (s := { s with heap := h', toks := tk }) (n := "range_iterator") st' rfl rfl (by decide) ⟨.int (lo + i), H, I1, ⟨t, ?_⟩, ⟨rfl, rfl⟩, st', fun b hb => (hf b hb).1⟩⟩
  rw [Int.mul_one]
 done := by
  intro X hP hw hK hc i pins s σ H E I hf st hg
  subst hP hw hK
  obtain ⟨f0, f1, f2, f3, f4, f5⟩ := hf it (by simp)
  exact wpAny_pyNext_range_end (I.ok.hd hc) st (by have : n ≤ i := hg; omega) fun h' eb => ⟨rfl, I.turned (t' := s.toks) (fun b o hb e => eb b o hb e) f0 f1 f3 f4 f5⟩
 self := fun _ _ _ _ _ st h => wpAny_pyIter_rangeiter st h
end L2

namespace L2
open PySem PySem.Spec PyProof.Rows
section
variable {X : Cx} {tg : Expr}
theorem b1A {pins : List (Addr × Obj)} {σ : St} {H : Hp} {s : Shared} {R : It → Hp → Prop} {E : Value → Shared → Prop} {lo hi : Int} {t u v : Tok} {tk : Nat} (I : Inv X pins σ H s) (h1 : -(2 ^ 62) ≤ lo) (h2 : lo < 2 ^ 62) (h3 : -(2 ^ 62) ≤ hi) (h4 : hi < 2 ^ 62)
  (q : R (Itr lo (hi - lo).toNat) H) : wpAny (model X.prog X.w) X.A (pyIter (.ref s.heap.objs.size)) (PIE X pins σ tg R) E { s with heap := s.heap.push { cls := .type "range", data := .fields #[.int lo t, .int hi u, .int 1 v] }, toks := tk } := by
 refine wpAny_pyIter_range (IsRange.new ..) (small_one h1 h2 h3 h4) ?_
 have I1 : Inv X pins σ H { s with heap := s.heap.push { cls := .type "range", data := .fields #[.int lo t, .int hi u, .int 1 v] }, toks := tk } := I.kept fun b o e => Heap.get?_push_of_some _ e
 refine ⟨(s.heap.push { cls := .type "range", data := .fields #[.int lo t, .int hi u, .int 1 v] }).objs.size, [(s.heap.push { cls := .type "range", data := .fields #[.int lo t, .int hi u, .int 1 v] }).objs.size], _, _, H, rfl,
  I1.kept (t' := tk) fun b o e => Heap.get?_push_of_some _ e, a8h _ lo (hi - lo).toNat, ?_, fun b hb => ?_, q⟩
 ·have e1 : lo + ((0 : Nat) : Int) * 1 = lo := by simp
  have e2 : (((hi - lo).toNat : Nat) : Int) - ((0 : Nat) : Int) = Builtin.Range.rangeSize lo hi 1 := by rw [rangeSize_one]; split <;> omega
  show IsRangeIter _ _ (lo + ((0 : Nat) : Int) * 1) ((((hi - lo).toNat : Nat) : Int) - ((0 : Nat) : Int)) 1
  rw [e1, e2]
  exact Heap.get?_push_size _ rfl
 ·have e : b = (s.heap.push { cls := .type "range", data := .fields #[.int lo t, .int hi u, .int 1 v] }).objs.size := by simpa using hb
  subst e
  exact I1.fpOk (Nat.le_refl _) (I1.hok.fresh (Nat.le_refl _))
noncomputable def a89 (ta : TA) : TI := fun σ H R => ta σ H fun vs H1 => ∃ j : Int, vs = [.int j] ∧ -(2 ^ 62) ≤ j ∧ j < 2 ^ 62 ∧ R (Itr 0 j.toNat) H1
theorem a5s {a : Expr} {ta : TA} {p pos : Pos} (hg : Gl X "range") (hm : X.mg "range" = none) (ha : PA X [a] ta) (hs : starEach [a] X.env = [(false, eval a X.env)] := by rfl) : PI X tg (.Call (.Name "range" p) [a] [] pos) (a89 ta) := by
 intro pins s σ H R I h
 refine Call_ (W7 I hg hm boot_range (PyProof.Rows.callWith_type1 (thn (ha pos pins s σ H _ I h) fun us s1 ⟨vs, H1, I1, r1, q1⟩ => ?_) hs rfl))
 obtain ⟨j, e, q1, q2, q⟩ := q1
 subst e
 cases r1 with
 | cons r rr =>
  cases rr
  obtain ⟨t, rfl⟩ := r
  exact call_range_1 (b1A I1 (by omega) (by omega) q1 q2 (by simpa using q))
noncomputable def a74 (wi : TI) (g : TG) (tb : TS) : TS := fun D σ H => wi σ H fun J H1 => ∃ W : Nat → Nat → St → Hp → Prop, (∃ m, W 0 m σ H1) ∧ ∀ i m σ H, W i m σ H →
 (J.stop i H ∧ D.nx σ H) ∨ (J.go i H ∧ ∃ N : St → Hp → Prop, (∀ σ' H', N σ' H' → ∃ m', m' < m ∧ W (i + 1) m' σ' H') ∧ ∀ x H', J.yld i H x H' → g x σ H' fun σ2 H2 => tb { D with nx := N, ct := N, bk := D.nx } σ2 H2)
noncomputable def a0r (fp : List Addr) (h : Heap) : List (Addr × Obj) := fp.filterMap fun b => (h.get? b).map fun o => (b, o)
theorem a1m {fp : List Addr} {h : Heap} {b : Addr} {o : Obj} (hb : b ∈ fp) (e : h.get? b = some o) : (b, o) ∈ a0r fp h := List.mem_filterMap.mpr ⟨b, hb, by rw [e]; rfl⟩
theorem b2V {fp : List Addr} {h : Heap} {p : Addr × Obj} (hp : p ∈ a0r fp h) : p.1 ∈ fp ∧ h.get? p.1 = some p.2 := by
 obtain ⟨b, hb, e⟩ := List.mem_filterMap.mp hp
 cases q : h.get? b with
 | none => rw [q] at e; cases e
 | some o =>
  rw [q] at e
  have e' : (b, o) = p := Option.some.inj e
  subst e'
  exact ⟨hb, q⟩
theorem Inv.pinned {pins : List (Addr × Obj)} {σ : St} {H : Hp} {s : Shared} {fp : List Addr} (I : Inv X pins σ H s) (hf : ∀ b ∈ fp, O9 X pins H b) (ho : ∀ b ∈ fp, ∃ o, s.heap.get? b = some o ∧ ∀ v, o.data ≠ .cell v) : Inv X (pins ++ a0r fp s.heap) σ H s :=
 I.pins_of fun p hp => (List.mem_append.mp hp).elim (fun z => I.pin p (List.mem_append_right _ z)) fun z => by
  obtain ⟨hb, e⟩ := b2V z
  obtain ⟨f0, f1, f2, _⟩ := hf p.1 hb
  obtain ⟨o, e', d⟩ := ho p.1 hb
  rw [e] at e'; cases e'
  exact ⟨e, f0, f1, f2, d⟩
theorem Inv.unpinned {pins pl : List (Addr × Obj)} {σ : St} {H : Hp} {s : Shared} (I : Inv X (pins ++ pl) σ H s) : Inv X pins σ H s := I.pins_of fun p hp => I.pin p (List.mem_append_right _ (List.mem_append_left _ hp))
theorem a5U {iter : Expr} {body : List Stmt} {wi : TI} {g : TG} {tb : TS} {pos : Pos} (hp : PassesOwn (model X.prog X.w) X.A X.env X.xe) (hc : X.calm = true) (hi : PI X tg iter wi) (hg : PG X tg g) (hb : PSs X body tb)
  (hs : ∀ x, foldedSetIterable iter X.env x = pure x := by intro _; rfl) : PS X (.For tg iter body [] pos) (a74 wi g tb) := by
 intro pins s σ H D I h
 refine wpAny_For (thn (hi pins s σ H _ I h) fun v s1 h1 => thn h1 fun itv s2 h2 => ?_) hs
 obtain ⟨it, fp, tn, J, H2, e, I2, T, st2, f2, W, ⟨m0, w0⟩, turn⟩ := h2
 subst e
 have stat : ∀ {H' : Hp}, (∀ b ∈ fp, H' b = none) → ∀ b ∈ fp, O9 X pins H' b := fun hn b hb => ⟨hn b hb, (f2 b hb).2⟩
 refine codeAny_forLoop_any (fun n s' => ∃ i σ' H', Inv X pins σ' H' s' ∧ tn i s'.heap ∧ (∀ b ∈ fp, H' b = none) ∧ W i n σ' H') ?_ m0 ⟨0, σ, H2, I2, st2, fun b hb => (f2 b hb).1, w0⟩
 rintro n s3 ⟨i, σ3, H3, I3, st3, fr3, w3⟩
 rcases turn i n σ3 H3 w3 with ⟨stop, qn⟩ | ⟨go, N, hN, step⟩
 ·refine wpAny_passesOwn hp (thn (T.done X rfl rfl rfl hc i pins s3 σ3 H3 X.xe I3 (stat fr3) st3 stop) fun r s4 ⟨hr, I4⟩ => ?_)
  subst hr
  exact wpAny_execs_nil ⟨σ3, H3, I4, qn⟩
 ·refine wpAny_passesOwn hp (thn (T.item X rfl rfl rfl hc i pins s3 σ3 H3 X.xe I3 (stat fr3) st3 go) fun r s4 ⟨u, hr, h4⟩ => ?_)
  subst hr
  refine wpAny_passesOwn hp (thn h4 fun _ s5 ⟨x, H5, I5, r5, y5, st5, fr5⟩ => ?_)
  have I5' := I5.pinned (stat fr5) (T.obj _ _ st5)
  refine wpAny_passesOwn hp (thn (hg _ s5 σ3 H5 x u _ I5' r5 (step x H5 y5)) fun _ s6 ⟨σ6, H6, I6, q6⟩ => ?_)
  refine wpAny_passesOwn hp (thn (hb _ s6 σ6 H6 _ I6 q6) fun f s7 q7 => ?_)
  have again : ∀ {σ7 : St} {H7 : Hp}, Inv X (pins ++ a0r fp s5.heap) σ7 H7 s7 → N σ7 H7 → ∃ m, m < n ∧ ∃ i σ' H', Inv X pins σ' H' s7 ∧ tn i s7.heap ∧ (∀ b ∈ fp, H' b = none) ∧ W i m σ' H' := fun {σ7 H7} I7 n7 => by
   obtain ⟨m', hm, w7⟩ := hN σ7 H7 n7
   refine ⟨m', hm, i + 1, σ7, H7, I7.unpinned, T.keep _ _ _ st5 fun b hb o e => (I7.pin (b, o) (List.mem_append_right _ (List.mem_append_right _ (a1m hb e)))).1, fun b hb => ?_, w7⟩
   obtain ⟨o, e, d⟩ := T.obj _ _ st5 b hb
   exact (I7.pin (b, o) (List.mem_append_right _ (List.mem_append_right _ (a1m hb e)))).2.1
  cases f with
  | next => obtain ⟨σ7, H7, I7, n7⟩ := q7; exact again I7 n7
  | cont => obtain ⟨σ7, H7, I7, n7⟩ := q7; exact again I7 n7
  | brk => obtain ⟨σ7, H7, I7, q7⟩ := q7; exact ⟨σ7, H7, I7.unpinned, q7⟩
  | ret v => obtain ⟨x7, σ7, H7, I7, r7, q7⟩ := q7; exact ⟨x7, σ7, H7, I7.unpinned, r7, q7⟩
end

theorem b3d {K : PySem.W.Frag} {a : Addr} {xs : List V} {g : TG} {tb : TS} {D : Ends} {σ : St} {H : Hp} (Pv : Nat → St → Hp → Prop) (h0 : Pv 0 σ H) (hl : ∀ i σ H, i ≤ xs.length → Pv i σ H → SqL K H a xs)
  (hs : ∀ i x σ H, xs[i]? = some x → Pv i σ H → g x σ H fun σ2 H2 => tb { D with nx := Pv (i + 1), ct := Pv (i + 1), bk := D.nx } σ2 H2) (hd : ∀ σ H, Pv xs.length σ H → D.nx σ H) :
  ∃ W : Nat → Nat → St → Hp → Prop, (∃ m, W 0 m σ H) ∧ ∀ i m σ H, W i m σ H →
   ((Itl K a).stop i H ∧ D.nx σ H) ∨ ((Itl K a).go i H ∧ ∃ N : St → Hp → Prop, (∀ σ' H', N σ' H' → ∃ m', m' < m ∧ W (i + 1) m' σ' H') ∧ ∀ x H', (Itl K a).yld i H x H' → g x σ H' fun σ2 H2 => tb { D with nx := N, ct := N, bk := D.nx } σ2 H2) := by
 refine ⟨fun i m σ H => m = xs.length - i ∧ i ≤ xs.length ∧ Pv i σ H, ⟨xs.length, by simp, Nat.zero_le _, h0⟩, ?_⟩
 rintro i m σ H ⟨rfl, hi, p⟩
 have q := hl i σ H hi p
 by_cases hlt : i < xs.length
 ·refine .inr ⟨⟨xs, xs[i], q, by simp [hlt]⟩, Pv (i + 1), fun σ' H' p' => ⟨xs.length - (i + 1), by omega, rfl, hlt, p'⟩, fun x H' y => ?_⟩
  obtain ⟨e, y⟩ := y
  subst e
  exact hs i x σ _ (y xs q) p
 ·have e : i = xs.length := by omega
  subst e
  exact .inl ⟨⟨xs, q, Nat.le_refl _⟩, hd σ H p⟩
theorem a4g {K : PySem.W.Frag} {a : Addr} {xs : List V} {g : TG} {tb : TS} {D : Ends} {σ : St} {H : Hp} (Pv : Nat → St → Hp → Prop) (h0 : Pv 0 σ H) (hl : ∀ i σ H, i ≤ xs.length → Pv i σ H → SqT K H a xs)
  (hs : ∀ i x σ H, xs[i]? = some x → Pv i σ H → g x σ H fun σ2 H2 => tb { D with nx := Pv (i + 1), ct := Pv (i + 1), bk := D.nx } σ2 H2) (hd : ∀ σ H, Pv xs.length σ H → D.nx σ H) :
  ∃ W : Nat → Nat → St → Hp → Prop, (∃ m, W 0 m σ H) ∧ ∀ i m σ H, W i m σ H →
   ((Itt K a).stop i H ∧ D.nx σ H) ∨ ((Itt K a).go i H ∧ ∃ N : St → Hp → Prop, (∀ σ' H', N σ' H' → ∃ m', m' < m ∧ W (i + 1) m' σ' H') ∧ ∀ x H', (Itt K a).yld i H x H' → g x σ H' fun σ2 H2 => tb { D with nx := N, ct := N, bk := D.nx } σ2 H2) := by
 refine ⟨fun i m σ H => m = xs.length - i ∧ i ≤ xs.length ∧ Pv i σ H, ⟨xs.length, by simp, Nat.zero_le _, h0⟩, ?_⟩
 rintro i m σ H ⟨rfl, hi, p⟩
 have q := hl i σ H hi p
 by_cases hlt : i < xs.length
 ·refine .inr ⟨⟨xs, xs[i], q, by simp [hlt]⟩, Pv (i + 1), fun σ' H' p' => ⟨xs.length - (i + 1), by omega, rfl, hlt, p'⟩, fun x H' y => ?_⟩
  obtain ⟨e, y⟩ := y
  subst e
  exact hs i x σ _ (y xs q) p
 ·have e : i = xs.length := by omega
  subst e
  exact .inl ⟨⟨xs, q, Nat.le_refl _⟩, hd σ H p⟩
theorem b2T {lo : Int} {n : Nat} {g : TG} {tb : TS} {D : Ends} {σ : St} {H : Hp} (Pv : Nat → St → Hp → Prop) (h0 : Pv 0 σ H)
  (hs : ∀ i σ H, i < n → Pv i σ H → g (.int (lo + i)) σ H fun σ2 H2 => tb { D with nx := Pv (i + 1), ct := Pv (i + 1), bk := D.nx } σ2 H2) (hd : ∀ σ H, Pv n σ H → D.nx σ H) :
  ∃ W : Nat → Nat → St → Hp → Prop, (∃ m, W 0 m σ H) ∧ ∀ i m σ H, W i m σ H →
   ((Itr lo n).stop i H ∧ D.nx σ H) ∨ ((Itr lo n).go i H ∧ ∃ N : St → Hp → Prop, (∀ σ' H', N σ' H' → ∃ m', m' < m ∧ W (i + 1) m' σ' H') ∧ ∀ x H', (Itr lo n).yld i H x H' → g x σ H' fun σ2 H2 => tb { D with nx := N, ct := N, bk := D.nx } σ2 H2) := by
 refine ⟨fun i m σ H => m = n - i ∧ i ≤ n ∧ Pv i σ H, ⟨n, by simp, Nat.zero_le _, h0⟩, ?_⟩
 rintro i m σ H ⟨rfl, hi, p⟩
 by_cases hlt : i < n
 ·refine .inr ⟨hlt, Pv (i + 1), fun σ' H' p' => ⟨n - (i + 1), by omega, rfl, hlt, p'⟩, fun x H' y => ?_⟩
  obtain ⟨e, y⟩ := y
  subst e y
  exact hs i σ _ hlt p
 ·have e : i = n := by omega
  subst e
  exact .inl ⟨Nat.le_refl _, hd σ H p⟩
end L2

namespace L2
open PySem PySem.Spec PyProof.Rows

noncomputable abbrev R2 := V → V → Hp → VK → Prop
noncomputable def OpR (X : Cx) (f : Value → Value → Sem Value) (r : R2) : Prop :=
 ∀ (pins : List (Addr × Obj)) (s : Shared) (σ : St) (H : Hp) (x y : V) (v u : Value) (Q : VK), Inv X pins σ H s → RelV x v → RelV y u → r x y H Q →
  wpAny (model X.prog X.w) X.A (f v u) (EP X pins σ Q) X.xe s
noncomputable def UnR (X : Cx) (f : Value → Sem Value) (r : V → Hp → VK → Prop) : Prop :=
 ∀ (pins : List (Addr × Obj)) (s : Shared) (σ : St) (H : Hp) (x : V) (v : Value) (Q : VK), Inv X pins σ H s → RelV x v → r x H Q →
  wpAny (model X.prog X.w) X.A (f v) (EP X pins σ Q) X.xe s
noncomputable def CallR (X : Cx) (f : Value) (r : List V → Hp → VK → Prop) : Prop :=
 ∀ (pins : List (Addr × Obj)) (s : Shared) (σ : St) (H : Hp) (xs : List V) (us : List Value) (Q : VK), Inv X pins σ H s → Vals xs us → r xs H Q →
  wpAny (model X.prog X.w) X.A (call f us) (EP X pins σ Q) X.xe s
noncomputable def b2I (X : Cx) (r : V → Hp → (Bool → Hp → Prop) → Prop) : Prop :=
 ∀ (pins : List (Addr × Obj)) (s : Shared) (σ : St) (H : Hp) (x : V) (v : Value) (Q : Bool → Hp → Prop), Inv X pins σ H s → RelV x v → r x H Q →
  wpAny (model X.prog X.w) X.A (truthy v) (TP X pins σ Q) X.xe s

noncomputable def tOp (r : R2) (ta tb : TE) : TE := fun σ H Q => ta σ H fun x H1 => tb σ H1 fun y H2 => r x y H2 Q
noncomputable def tUn (r : V → Hp → VK → Prop) (ta : TE) : TE := fun σ H Q => ta σ H fun x H1 => r x H1 Q
noncomputable def rI (C : Int → Int → Prop) (g : Int → Int → V) : R2 := fun x y H Q => ∃ i j, x = .int i ∧ y = .int j ∧ C i j ∧ Q (g i j) H
noncomputable def rI0 (g : Int → Int → V) : R2 := fun x y H Q => ∃ i j, x = .int i ∧ y = .int j ∧ Q (g i j) H
noncomputable def rU (g : Int → V) : V → Hp → VK → Prop := fun x H Q => ∃ i, x = .int i ∧ Q (g i) H

section
variable {X : Cx} {a b c : Expr} {ta tb tc : TE} {pos : Pos}

theorem a3U (ha : PE X a ta) (hb : PE X b tb) {pins : List (Addr × Obj)} {s : Shared} {σ : St} {H : Hp} {R : V → V → Hp → Prop} (I : Inv X pins σ H s)
  (h : ta σ H fun x H1 => tb σ H1 fun y H2 => R x y H2) {Q : Value → Shared → Prop} {f : Value → Value → Sem Value}
  (hf : ∀ v u s2 x y H2, Inv X pins σ H2 s2 → RelV x v → RelV y u → R x y H2 → wpAny (model X.prog X.w) X.A (f v u) Q X.xe s2) :
  wpAny (model X.prog X.w) X.A (eval a X.env) (fun v s₁ => wpAny (model X.prog X.w) X.A (eval b X.env) (fun u s₂ => wpAny (model X.prog X.w) X.A (f v u) Q X.xe s₂) X.xe s₁) X.xe s := by
 refine thn (ha pins s σ H _ I h) fun v s1 ⟨x, H1, I1, r1, q1⟩ => ?_
 refine thn (hb pins s1 σ H1 _ I1 q1) fun u s2 ⟨y, H2, I2, r2, q2⟩ => ?_
 exact hf v u s2 x y H2 I2 r1 r2 q2

theorem a6Y {op : Operator} {r : R2} (ho : OpR X (binaryOp op) r) (ha : PE X a ta) (hb : PE X b tb) : PE X (.BinOp a op b pos) (tOp r ta tb) := by
 intro pins s σ H Q I h
 exact wpAny_BinOp (a3U ha hb I h fun v u s2 x y H2 I2 rx ry q => ho pins s2 σ H2 x y v u Q I2 rx ry q)
theorem a9Z {op : UnaryOp} {r : V → Hp → VK → Prop} (ho : UnR X (unaryOp op) r) (ha : PE X a ta) : PE X (.UnaryOp op a pos) (tUn r ta) := by
 intro pins s σ H Q I h
 exact UnaryOp_ (thn (ha pins s σ H _ I h) fun v s1 ⟨x, H1, I1, r1, q1⟩ => ho pins s1 σ H1 x v Q I1 r1 q1)
theorem opI {f : Value → Value → Sem Value} {C : Int → Int → Prop} {g : Int → Int → Int}
  (rule : ∀ (i j : Int) (t u : Tok) (s : Shared) (Q : Value → Shared → Prop) (E : Value → Shared → Prop), C i j → Q (.int (g i j) s.toks) { s with toks := s.toks + 1 } → wpAny (model X.prog X.w) X.A (f (.int i t) (.int j u)) Q E s) :
  OpR X f (rI C fun i j => .int (g i j)) := by
 intro pins s σ H x y v u Q I rx ry h
 obtain ⟨i, j, rfl, rfl, hc, q⟩ := h
 obtain ⟨t, rfl⟩ := rx
 obtain ⟨t', rfl⟩ := ry
 exact rule i j t t' s _ _ hc ⟨.int (g i j), H, I.tok _, ⟨_, rfl⟩, q⟩
theorem a4x {f : Value → Value → Sem Value} {g : Int → Int → Int}
  (rule : ∀ (i j : Int) (t u : Tok) (s : Shared) (Q : Value → Shared → Prop) (E : Value → Shared → Prop), Q (.int (g i j) s.toks) { s with toks := s.toks + 1 } → wpAny (model X.prog X.w) X.A (f (.int i t) (.int j u)) Q E s) :
  OpR X f (rI0 fun i j => .int (g i j)) := by
 intro pins s σ H x y v u Q I rx ry h
 obtain ⟨i, j, rfl, rfl, q⟩ := h
 obtain ⟨t, rfl⟩ := rx
 obtain ⟨t', rfl⟩ := ry
 exact rule i j t t' s _ _ ⟨.int (g i j), H, I.tok _, ⟨_, rfl⟩, q⟩
theorem a04 {f : Value → Value → Sem Value} {g : Int → Int → Bool}
  (rule : ∀ (i j : Int) (t u : Tok) (s : Shared) (Q : Value → Shared → Prop) (E : Value → Shared → Prop), Q (.bool (g i j)) s → wpAny (model X.prog X.w) X.A (f (.int i t) (.int j u)) Q E s) :
  OpR X f (rI0 fun i j => .bl (g i j)) := by
 intro pins s σ H x y v u Q I rx ry h
 obtain ⟨i, j, rfl, rfl, q⟩ := h
 obtain ⟨t, rfl⟩ := rx
 obtain ⟨t', rfl⟩ := ry
 exact rule i j t t' s _ _ ⟨.bl (g i j), H, I, rfl, q⟩

noncomputable def a4v (i j : Int) : Prop := 0 ≤ j ∧ j ≤ 1000000 ∧ i.natAbs < 2 ^ 64
theorem op_add : OpR X (binaryOp .Add) (rI0 fun i j => .int (i + j)) := a4x fun _ _ _ _ _ _ _ q => add_int q
theorem G8 : OpR X (binaryOp .Sub) (rI0 fun i j => .int (i - j)) := a4x fun _ _ _ _ _ _ _ q => sub_int q
theorem K3 : OpR X (binaryOp .Mod) (rI (fun _ j => j ≠ 0) fun i j => .int (i.fmod j)) := opI fun _ _ _ _ _ _ _ hc q => mod_int' hc q
theorem a6W : OpR X (binaryOp .Pow) (rI a4v fun i j => .int (i ^ j.toNat)) := opI fun _ _ _ _ _ _ _ hc q => pow_int_small hc.1 hc.2.1 hc.2.2 q
theorem unI {f : Value → Sem Value} {g : Int → Int}
  (rule : ∀ (i : Int) (t : Tok) (s : Shared) (Q : Value → Shared → Prop) (E : Value → Shared → Prop), Q (.int (g i) s.toks) { s with toks := s.toks + 1 } → wpAny (model X.prog X.w) X.A (f (.int i t)) Q E s) :
  UnR X f (rU fun i => .int (g i)) := by
 intro pins s σ H x v Q I rx h
 obtain ⟨i, rfl, q⟩ := h
 obtain ⟨t, rfl⟩ := rx
 exact rule i t s _ _ ⟨.int (g i), H, I.tok _, ⟨_, rfl⟩, q⟩
theorem M3 : UnR X (unaryOp .USub) (rU fun i => .int (-i)) := unI fun _ _ _ _ _ q => neg_int q
end

noncomputable def a6X : V → V → Bool
 | .non, .non => true | .non, .int _ => true | .int _, .non => true | .non, .bl _ => true | .bl _, .non => true | .non, .str _ => true | .str _, .non => true
 | .int _, .int _ => true | .bl _, .bl _ => true | .str _, .str _ => true | .byt _, .byt _ => true
 | .int _, .str _ => true | .str _, .int _ => true | .bl _, .str _ => true | .str _, .bl _ => true
 | _, _ => false
noncomputable def rEq : R2 := fun x y H Q => a6X x y = true ∧ Q (.bl (decide (x = y))) H
noncomputable def rNe : R2 := fun x y H Q => a6X x y = true ∧ Q (.bl (!decide (x = y))) H

theorem a45 {i j : Int} : decide (V.int i = V.int j) = (i == j) := by
 rw [Bool.eq_iff_iff]
 simp
theorem a6M {i j : Bool} : decide (V.bl i = V.bl j) = (i == j) := by
 rw [Bool.eq_iff_iff]
 simp
theorem a5X {i j : Str} : decide (V.str i = V.str j) = (i == j) := by
 rw [Bool.eq_iff_iff]
 simp
theorem a4O {i j : Array UInt8} : decide (V.byt i = V.byt j) = (i.toList == j.toList) := by
 rw [Bool.eq_iff_iff]
 cases i
 cases j
 simp

section
variable {X : Cx} {a b c : Expr} {ta tb tc : TE} {pos : Pos}
theorem A8 {pins : List (Addr × Obj)} {σ : St} {H : Hp} {s : Shared} {Q : VK} {k k' : Bool} (I : Inv X pins σ H s) (q : Q (.bl k) H) (e : k = k') : EP X pins σ Q (.bool k') s := by
 subst e
 exact ⟨.bl k, H, I, rfl, q⟩
theorem op_eq : OpR X (compareOp .Eq) rEq := by
 intro pins s σ H x y v u Q I rx ry h
 obtain ⟨hs, q⟩ := h
 cases x with
 | non =>
  cases rx
  cases y with
  | non => cases ry; exact PySem.EqNone.eq_none_none (A8 I q (by simp))
  | bl j => cases ry; exact PySem.EqNone.eq_none_bool (A8 I q (by simp))
  | int j => obtain ⟨t', rfl⟩ := ry; exact PySem.EqNone.eq_none_int (A8 I q (by simp))
  | str j => obtain ⟨t', rfl⟩ := ry; exact PySem.EqNone.eq_none_str (A8 I q (by simp))
  | _ => exact absurd (show false = true from hs) Bool.false_ne_true
 | bl i =>
  cases rx
  cases y with
  | non => cases ry; exact PySem.EqNone.eq_bool_none (A8 I q (by simp))
  | bl j => cases ry; exact eq_bool (A8 I q a6M)
  | str j => obtain ⟨t', rfl⟩ := ry; exact PySem.EqMixed.eq_bool_str (A8 I q (by simp))
  | _ => exact absurd (show false = true from hs) Bool.false_ne_true
 | int i =>
  obtain ⟨t, rfl⟩ := rx
  cases y with
  | non => cases ry; exact PySem.EqNone.eq_int_none (A8 I q (by simp))
  | int j => obtain ⟨t', rfl⟩ := ry; exact eq_int (A8 I q a45)
  | str j => obtain ⟨t', rfl⟩ := ry; exact PySem.EqMixed.eq_int_str (A8 I q (by simp))
  | _ => exact absurd (show false = true from hs) Bool.false_ne_true
 | str i =>
  obtain ⟨t, rfl⟩ := rx
  cases y with
  | non => cases ry; exact PySem.EqNone.eq_str_none (A8 I q (by simp))
  | bl j => cases ry; exact PySem.EqMixed.eq_str_bool (A8 I q (by simp))
  | int j => obtain ⟨t', rfl⟩ := ry; exact PySem.EqMixed.eq_str_int (A8 I q (by simp))
  | str j => obtain ⟨t', rfl⟩ := ry; exact eq_str (A8 I q a5X)
  | _ => exact absurd (show false = true from hs) Bool.false_ne_true
 | byt i =>
  obtain ⟨t, rfl⟩ := rx
  cases y with
  | byt j => obtain ⟨t', rfl⟩ := ry; exact PySem.W.eq_bytes (A8 I q a4O)
  | _ => exact absurd (show false = true from hs) Bool.false_ne_true
 | _ => cases y <;> exact absurd (show false = true from hs) Bool.false_ne_true
theorem op_ne : OpR X (compareOp .NotEq) rNe := by
 intro pins s σ H x y v u Q I rx ry h
 obtain ⟨hs, q⟩ := h
 cases x with
 | non =>
  cases rx
  cases y with
  | non => cases ry; exact PySem.EqNone.ne_none_none (A8 I q (by simp))
  | bl j => cases ry; exact PySem.EqNone.ne_none_bool (A8 I q (by simp))
  | int j => obtain ⟨t', rfl⟩ := ry; exact PySem.EqNone.ne_none_int (A8 I q (by simp))
  | str j => obtain ⟨t', rfl⟩ := ry; exact PySem.EqNone.ne_none_str (A8 I q (by simp))
  | _ => exact absurd (show false = true from hs) Bool.false_ne_true
 | bl i =>
  cases rx
  cases y with
  | non => cases ry; exact PySem.EqNone.ne_bool_none (A8 I q (by simp))
  | bl j => cases ry; exact ne_bool (A8 I q (congrArg not a6M))
  | str j => obtain ⟨t', rfl⟩ := ry; exact PySem.EqMixed.ne_bool_str (A8 I q (by simp))
  | _ => exact absurd (show false = true from hs) Bool.false_ne_true
 | int i =>
  obtain ⟨t, rfl⟩ := rx
  cases y with
  | non => cases ry; exact PySem.EqNone.ne_int_none (A8 I q (by simp))
  | int j => obtain ⟨t', rfl⟩ := ry; exact ne_int (A8 I q (congrArg not a45))
  | str j => obtain ⟨t', rfl⟩ := ry; exact PySem.EqMixed.ne_int_str (A8 I q (by simp))
  | _ => exact absurd (show false = true from hs) Bool.false_ne_true
 | str i =>
  obtain ⟨t, rfl⟩ := rx
  cases y with
  | non => cases ry; exact PySem.EqNone.ne_str_none (A8 I q (by simp))
  | bl j => cases ry; exact PySem.EqMixed.ne_str_bool (A8 I q (by simp))
  | int j => obtain ⟨t', rfl⟩ := ry; exact PySem.EqMixed.ne_str_int (A8 I q (by simp))
  | str j => obtain ⟨t', rfl⟩ := ry; exact ne_str (A8 I q (congrArg not a5X))
  | _ => exact absurd (show false = true from hs) Bool.false_ne_true
 | byt i =>
  obtain ⟨t, rfl⟩ := rx
  cases y with
  | byt j => obtain ⟨t', rfl⟩ := ry; exact PySem.W.ne_bytes (A8 I q (congrArg not a4O))
  | _ => exact absurd (show false = true from hs) Bool.false_ne_true
 | _ => cases y <;> exact absurd (show false = true from hs) Bool.false_ne_true

theorem X7 : OpR X (compareOp .Lt) (rI0 fun i j => .bl (decide (i < j))) := a04 fun _ _ _ _ _ _ _ q => lt_int q
theorem a2A : OpR X (compareOp .LtE) (rI0 fun i j => .bl (decide (i ≤ j))) := a04 fun _ _ _ _ _ _ _ q => le_int q
theorem Q9 : OpR X (compareOp .Gt) (rI0 fun i j => .bl (decide (j < i))) := a04 fun _ _ _ _ _ _ _ q => gt_int q
theorem a4j : OpR X (compareOp .GtE) (rI0 fun i j => .bl (decide (j ≤ i))) := a04 fun _ _ _ _ _ _ _ q => ge_int q
theorem OpR.or {f : Value → Value → Sem Value} {r r' : R2} (h : OpR X f r) (h' : OpR X f r') : OpR X f (fun x y H Q => r x y H Q ∨ r' x y H Q) := by
 intro pins s σ H x y v u Q I rx ry q
 rcases q with q | q
 ·exact h pins s σ H x y v u Q I rx ry q
 ·exact h' pins s σ H x y v u Q I rx ry q

theorem v0 (b : Expr) {op : CmpOp} (h : op ≠ .In := by decide) (h2 : op ≠ .NotIn := by decide) : behindInMarks op b = false := by
 have e1 : (op == CmpOp.In) = false := by cases op <;> first | rfl | exact absurd rfl h
 have e2 : (op == CmpOp.NotIn) = false := by cases op <;> first | rfl | exact absurd rfl h2
 cases b <;> simp [behindInMarks, e1, e2]
theorem b09 {op : CmpOp} {r : R2} (ho : OpR X (compareOp op) r) (ha : PE X a ta) (hb : PE X b tb) (hm : behindInMarks op b = false) : PE X (.Compare a [op] [b] pos) (tOp r ta tb) := by
 intro pins s σ H Q I h
 exact wpAny_Compare1 (a3U ha hb I h fun v u s2 x y H2 I2 rx ry q => ho pins s2 σ H2 x y v u Q I2 rx ry q) hm
noncomputable def a5r (t : TE) : TT := fun σ H Q => t σ H fun x H' => ∃ k, x = .bl k ∧ Q k H'
theorem a76 {op : CmpOp} {r : R2} (ho : OpR X (compareOp op) r) (ha : PE X a ta) (hb : PE X b tb) (hm : behindInMarks op b = false) : PT X (.Compare a [op] [b] pos) (a5r (tOp r ta tb)) := by
 intro pins s σ H Q I h
 refine wpAny_isTrue_Compare1 (thn (ha pins s σ H _ I h) fun v s1 ⟨x, H1, I1, r1, q1⟩ => thn (hb pins s1 σ H1 _ I1 q1) fun u s2 ⟨y, H2, I2, r2, q2⟩ =>
  thn (ho pins s2 σ H2 x y v u _ I2 r1 r2 q2) fun c s3 ⟨z, H3, I3, r3, k, e, q3⟩ => ?_) hm
 subst e
 cases r3
 exact wpAny_truthy_bool ⟨H3, I3, q3⟩
noncomputable def a4E (r r' : R2) (ta tb tc : TE) : TE := fun σ H Q => ta σ H fun x H1 => tb σ H1 fun y H2 => r x y H2 fun z H3 => ∃ k, z = .bl k ∧
 (if k = true then tc σ H3 fun w' H4 => r' y w' H4 Q else Q (.bl false) H3)
theorem b0A {op op' : CmpOp} {r r' : R2} (ho : OpR X (compareOp op) r) (ho' : OpR X (compareOp op') r') (ha : PE X a ta) (hb : PE X b tb) (hc : PE X c tc)
  (hm : lastMarks [op, op'] [b, c] = false := by with_unfolding_all rfl) : PT X (.Compare a [op, op'] [b, c] pos) (a5r (a4E r r' ta tb tc)) := by
 intro pins s σ H Q I h
 refine isTrue_chain (thn (ha pins s σ H _ I h) fun v s1 ⟨x, H1, I1, r1, q1⟩ => test_link (thn (hb pins s1 σ H1 _ I1 q1) fun u s2 ⟨y, H2, I2, r2, q2⟩ =>
  thn (ho pins s2 σ H2 x y v u _ I2 r1 r2 q2) fun d s3 ⟨z, H3, I3, r3, k, e, q3⟩ => ?_)) hm
 subst e
 cases r3
 refine wpAny_truthy_bool ?_
 cases k with
 | false =>
  obtain ⟨k', e', q'⟩ := q3
  cases e'
  exact ite_ff ⟨H3, I3, q'⟩
 | true =>
  refine ite_tt (test_last (thn (hc pins s3 σ H3 _ I3 q3) fun w' s4 ⟨z', H4, I4, r4, q4⟩ => thn (ho' pins s4 σ H4 y z' u w' _ I4 r2 r4 q4) fun d' s5 ⟨z2, H5, I5, r5, k2, e2, q5⟩ => ?_))
  subst e2
  cases r5
  exact wpAny_truthy_bool ⟨H5, I5, q5⟩

noncomputable def a5c (K : PySem.W.Frag) (x : V) (H : Hp) (k : Bool) : Prop :=
 match x with
 | .non => k = false
 | .bl b => k = b
 | .int i => k = (i != 0)
 | .str y => y.length ≤ sizeLine ∧ k = ((y.length : Int) != 0)
 | .byt y => y.size ≤ sizeLine ∧ k = ((y.size : Int) != 0)
 | .ref p => (∃ xs, SqL K H p xs ∧ k = !xs.isEmpty) ∨ (∃ xs, SqT K H p xs ∧ k = !xs.isEmpty) ∨ ∃ kvs, H p = some (.dK kvs) ∧ k = !kvs.isEmpty
 | _ => False
theorem b0v {κ : Type} {kvs : List (κ × V)} {vs : List (κ × Value)} (r : KV kvs vs) : (!vs.isEmpty) = !kvs.isEmpty := by
 cases r <;> rfl
theorem a4Q {xs : List V} {its : List Value} (r : Vals xs its) : (!its.toArray.isEmpty) = !xs.isEmpty := by
 cases r <;> simp
theorem Z3 : (sizeLine : Nat) < 2 ^ 63 := by rw [sizeLine_eq]; decide
theorem b12 : b2I X (fun x H Q => ∃ k, a5c X.K x H k ∧ Q k H) := by
 intro pins s σ H x v Q I rx h
 obtain ⟨k, e, q⟩ := h
 have hl := Z3
 have hs : sizeLine = 16777216 := sizeLine_eq
 cases x with
 | non =>
  cases rx
  have e' : k = false := e
  subst e'
  exact truthy_none ⟨H, I, q⟩
 | bl b =>
  cases rx
  have e' : k = b := e
  subst e'
  exact wpAny_truthy_bool ⟨H, I, q⟩
 | int i =>
  obtain ⟨t, rfl⟩ := rx
  have e' : k = (i != 0) := e
  subst e'
  exact PySem.P.truthy_int ⟨H, I, q⟩
 | str y =>
  obtain ⟨t, rfl⟩ := rx
  obtain ⟨hy, e'⟩ : y.length ≤ sizeLine ∧ k = ((y.length : Int) != 0) := e
  subst e'
  exact PySem.P.truthy_str (by omega) ⟨H, I.tok _, q⟩
 | byt y =>
  obtain ⟨t, rfl⟩ := rx
  obtain ⟨hy, e'⟩ : y.size ≤ sizeLine ∧ k = ((y.size : Int) != 0) := e
  subst e'
  exact PySem.W.truthy_bytes (by omega) ⟨H, I.tok _, q⟩
 | ref p =>
  cases rx
  have e' : (∃ xs, SqL X.K H p xs ∧ k = !xs.isEmpty) ∨ (∃ xs, SqT X.K H p xs ∧ k = !xs.isEmpty) ∨ ∃ kvs, H p = some (.dK kvs) ∧ k = !kvs.isEmpty := e
  rcases e' with ⟨xs, hx, e'⟩ | ⟨xs, hx, e'⟩ | ⟨kvs, hx, e'⟩
  ·subst e'
   obtain ⟨its, r, pl, hz⟩ := I.list hx
   have hlen := r.length
   exact wpAny_truthy_list pl.isList (by simp only [List.size_toArray]; omega) ⟨H, I.tok _, by rw [a4Q r]; exact q⟩
  ·subst e'
   obtain ⟨its, r, pl, hz⟩ := I.tuple hx
   have hlen := r.length
   exact truthy_tuple pl (by simp only [List.size_toArray]; omega) ⟨H, I.tok _, by rw [a4Q r]; exact q⟩
  ·subst e'
   obtain ⟨hz, hS, vs, r, m⟩ : kvs.length ≤ sizeLine ∧ (p == sysModules) = false ∧ ∃ vs, KV kvs vs ∧ s.heap.DictOf (F7 X.prog X.w) p vs := I.hok p _ hx
   have hlen : kvs.length = vs.length := Paired.length r
   exact wpAny_truthy_dict hS m (by omega) ⟨H, I.tok _, by rw [b0v r]; exact q⟩
 | _ => exact (show False from e).elim
theorem b3C (ha : PE X a ta) (he : ∀ whole, isTrue a X.env whole = (do let v ← whole; standAt a.pos; holding [v] (truthy v))) :
  PT X a (fun σ H Q => ta σ H fun x H' => ∃ k, a5c X.K x H' k ∧ Q k H') := by
 intro pins s σ H Q I h
 exact isTrue_plain (thn (ha pins s σ H _ I h) fun v s1 ⟨x, H1, I1, r1, q1⟩ => b12 pins s1 σ H1 x v Q I1 r1 q1) (he _)

theorem b3j : OpR X (binaryOp .Add) (fun x y H Q => ∃ i j, x = .str i ∧ y = .str j ∧ i.length + j.length ≤ sizeLine ∧ Q (.str (i ++ j)) H) := by
 intro pins s σ H x y v u Q I rx ry h
 obtain ⟨i, j, rfl, rfl, hz, q⟩ := h
 obtain ⟨t, rfl⟩ := rx
 obtain ⟨t', rfl⟩ := ry
 exact add_str (fun t' tk => ⟨.str (i ++ j), H, I.tok _, ⟨_, rfl⟩, q⟩) hz
theorem O5 {x : V} {us : List Value} (r : Vals [x] us) : ∃ u, us = [u] ∧ RelV x u := by
 cases r with
 | cons r1 r2 => cases r2; exact ⟨_, rfl, r1⟩
theorem a9r {x y : V} {us : List Value} (r : Vals [x, y] us) : ∃ u w', us = [u, w'] ∧ RelV x u ∧ RelV y w' := by
 cases r with
 | cons r1 r2 =>
  cases r2 with
  | cons r3 r4 => cases r4; exact ⟨_, _, rfl, r1, r3⟩
theorem a1n : CallR X (.builtin "abs") (fun xs H Q => ∃ i, xs = [.int i] ∧ Q (.int (if i < 0 then -i else i)) H) := by
 intro pins s σ H xs us Q I r h
 obtain ⟨i, rfl, q⟩ := h
 obtain ⟨u, rfl, t, rfl⟩ := O5 r
 exact call_abs_int fun u tk => ⟨.int (if i < 0 then -i else i), H, I.tok _, ⟨_, rfl⟩, q⟩
theorem a5R : CallR X (.type "int") (fun xs H Q => (∃ i, xs = [.int i] ∧ Q (.int i) H) ∨ ∃ k, xs = [.bl k] ∧ Q (.int (if k then 1 else 0)) H) := by
 intro pins s σ H xs us Q I r h
 rcases h with ⟨i, rfl, q⟩ | ⟨k, rfl, q⟩
 ·obtain ⟨u, rfl, t, rfl⟩ := O5 r
  exact call_int_int ⟨.int i, H, I, ⟨_, rfl⟩, q⟩
 ·obtain ⟨u, rfl, r1⟩ := O5 r
  cases r1
  exact call_int_bool ⟨.int (if k then 1 else 0), H, I.tok _, ⟨_, rfl⟩, q⟩
theorem a9m : CallR X (.type "str") (fun xs H Q => ∃ i, xs = [.int i] ∧ i.natAbs.log2 < 1920 ∧ Q (.str (toString i)) H) := by
 intro pins s σ H xs us Q I r h
 obtain ⟨i, rfl, hz, q⟩ := h
 obtain ⟨u, rfl, t, rfl⟩ := O5 r
 exact PySem.P.str_of_int hz ⟨.str _, H, I.tok _, ⟨_, rfl⟩, q⟩
end
end L2

namespace L2
open PySem PySem.Spec PyProof.Rows

section
variable {prog : Program} {w : World} {A : Around} {E : Value → Shared → Prop} {s : Shared} {K : PySem.W.Frag} {x dx C f : Addr} {mA : Str → Option Value} {name : Str} {v : Value}

end

theorem RelO.some_of {v : V} {o : Option Value} (r : RelO (some v) o) : ∃ u, o = some u ∧ RelV v u := by
 cases o with
 | none => exact (show False from r).elim
 | some u => exact ⟨u, rfl, r⟩
section
variable {P : Program} {w : World} {H H' : Hp} {h h' : Heap} {a C dx : Addr} {fs fs' : List (Str × V)}
end

section
variable {X : Cx} {pins : List (Addr × Obj)} {σ : St} {H : Hp} {s : Shared} {a C dx : Addr} {fs : List (Str × V)} {f : Str} {v : V} {A : Around} {E : Value → Shared → Prop}

end

section
variable {X : Cx} {o e value : Expr} {f : Str} {pos pos' tpos : Pos} {ta tv : TE}
end

section
variable {X : Cx} {pins : List (Addr × Obj)} {σ : St} {H : Hp} {s : Shared} {A : Around} {E : Value → Shared → Prop} {Q : Value → Shared → Prop} {c : Value} {b : Bool}
end
end L2

namespace L2
open PySem PySem.Spec PyProof.Rows

structure Room (k : Nat) (A : Around) : Prop where
 hd : A.handled = none
 dp : A.depth + 3 * k + 5 < recursionLimit
 un : A.units + 16 * k + 200 < cLine
 gd : A.guards = some []
theorem Room.mono {j k : Nat} {A : Around} (r : Room k A) (h : j ≤ k) : Room j A := ⟨r.hd, by have := r.dp; omega, by have := r.un; omega, r.gd⟩
theorem Room.deeper {k : Nat} {A : Around} (r : Room (k + 1) A) (env : Env) : Room k (A.deeper env) :=
 ⟨r.hd, by have := r.dp; show A.depth + 1 + 3 * k + 5 < _; omega, by have := r.un; show A.units + 3 + 16 * k + 200 < _; omega, r.gd⟩
theorem Room.depth {k : Nat} {A : Around} (r : Room k A) : A.depth < recursionLimit := by have := r.dp; omega
theorem Room.units {k : Nat} {A : Around} (r : Room k A) : A.units + 64 < cLine := by have := r.un; omega
noncomputable def b2U : TA := fun _ H Q => Q [] H
noncomputable def a8s (ta : TE) (tr : TA) : TA := fun σ H Q => ta σ H fun x H1 => tr σ H1 fun xs H2 => Q (x :: xs) H2
section
variable {X : Cx} {e : Expr} {es : List Expr} {te : TE} {t : TA} {pos : Pos}
theorem a1r : PA X [] b2U := fun _ _ _ _ H Q I h => Calls.spliced_nil ⟨[], H, I, .nil, h⟩
theorem Z4 (ha : PE X e te) (hr : PA X es t) (hs : starEach (e :: es) X.env = (false, eval e X.env) :: starEach es X.env := by rfl) : PA X (e :: es) (a8s te t) := by
 intro pos pins s σ H Q I h
 rw [hs]
 show wpAny _ _ (spliced ((false, eval e X.env) :: backTo pos (starEach es X.env))) _ _ s
 refine Calls.spliced_cons (thn (ha pins s σ H _ I h) fun u s1 ⟨x, H1, I1, r1, q1⟩ => ?_)
 exact thn (hr pos pins s1 σ H1 _ I1 q1) fun us s2 ⟨xs, H2, I2, r2, q2⟩ => ⟨x :: xs, H2, I2, .cons r1 r2, q2⟩

noncomputable def b3z (t : TA) : TE := fun σ H Q => t σ H fun xs H1 => xs.length ≤ sizeLine ∧ ∀ p, H1 p = none → Q (.ref p) (upd H1 p (.tup xs))
noncomputable def b2y (t : TA) : TE := fun σ H Q => t σ H fun xs H1 => xs.length ≤ sizeLine ∧ ∀ p, H1 p = none → Q (.ref p) (upd H1 p (.lst xs))
theorem b2Y {x1} (h : PA X es t) : PE X (.Tuple es x1 pos) (b3z t) := by
 intro pins s σ H Q I hq
 refine wpAny_Tuple_spliced (thn (h pos pins s σ H _ I hq) fun us s1 ⟨xs, H1, I1, r, z, q⟩ => ⟨by rw [← r.length]; exact z, ?_⟩)
 have hf : H1 s1.heap.objs.size = none := I1.hok.fresh (Nat.le_refl _)
 refine ⟨.ref s1.heap.objs.size, upd H1 s1.heap.objs.size (.tup xs), I1.laid (t' := s1.toks) (fun b u e => Heap.get?_push_of_some _ e) (Nat.le_refl _) ?_, rfl, q _ hf⟩
 exact ⟨z, us, r, ⟨_, Heap.get?_push_size _ rfl, rfl, _, rfl⟩⟩
theorem b0H (h : PA X es t) : PE X (.List es pos) (b2y t) := by
 intro pins s σ H Q I hq
 refine wpAny_List_spliced (thn (h pos pins s σ H _ I hq) fun us s1 ⟨xs, H1, I1, r, z, q⟩ => ⟨by rw [← r.length]; exact z, ?_⟩)
 have hf : H1 s1.heap.objs.size = none := I1.hok.fresh (Nat.le_refl _)
 refine ⟨.ref s1.heap.objs.size, upd H1 s1.heap.objs.size (.lst xs), I1.laid (t' := s1.toks) (fun b u e => Heap.get?_push_of_some _ e) (Nat.le_refl _) ?_, rfl, q _ hf⟩
 exact ⟨z, us, 0, r, Heap.get?_push_size _ rfl⟩
end

noncomputable abbrev Sp := List V → Hp → VK → XK → Prop
noncomputable abbrev CXT := List Env → Hp → Shared → XK → Value → Shared → Prop

structure Env0 (P : Program) (w : World) (K : PySem.W.Frag) (mg : Str → Option Value) (base : Heap) (A : Around) (outer : List Env) (s : Shared) (H : Hp) : Prop where
 frames : A.frames = some outer
 mod : Mod K mg base
 bs : ∀ b o, base.get? b = some o → s.heap.get? b = some o ∧ H b = none
 bsz : base.objs.size ≤ s.heap.objs.size
 funs : s.heap.FunFrames base outer
 frf : ∀ b ∈ frs outer, H b = none
 hok : HOk P w H s.heap
 bare : AllBare s.gens
noncomputable def CE (outer : List Env) (P : Program) (w : World) (H : Hp) (s : Shared) (Q : VK) (u : Value) (s' : Shared) : Prop :=
 ∃ v H', s'.os = s.os ∧ AllBare s'.gens ∧ Un (frs outer) [] H H' s.heap s'.heap ∧ HOk P w H' s'.heap ∧ RelV v u ∧ Q v H'
noncomputable def CR (CX : CXT) (outer : List Env) (P : Program) (w : World) (H : Hp) (s : Shared) (Q : VK) (E : XK) (r : Result) (s' : Shared) : Prop :=
 match r with
 | .ok (.ret u) => CE outer P w H s Q u s'
 | .ok _ => False
 | .error e => CX outer H s E e s'
structure FnOk (P : Program) (w : World) (K : PySem.W.Frag) (mg : Str → Option Value) (base : Heap) (CX : CXT) (k : Nat) (f : Addr) (fd : FuncData) (ps : List Str) (sp : Sp) : Prop where
 len : ∀ vs H Q E, sp vs H Q E → vs.length = ps.length
 run : ∀ (A : Around) (outer : List Env) (s : Shared) (H : Hp) (args : Args) (us : List Value) (vs : List V) (Q : VK) (E : XK), Room k A → Env0 P w K mg base A outer s H → BindsTo s fd args (ps.zip us) → Vals vs us → sp vs H Q E →
  codeAny (model P w) A (.call (.ref f) args) (CR CX outer P w H s Q E) s
section
variable {X : Cx} {pins : List (Addr × Obj)} {σ : St} {H : Hp} {s s' : Shared}
theorem Inv.env0 (I : Inv X pins σ H s) : Env0 X.prog X.w X.K X.mg X.base X.A X.stack s H :=
 ⟨I.ok.frames, I.ok.mod, I.bs, Nat.le_trans I.ok.bsz I.sz, I.stack, I.stkFree, I.hok, I.bare⟩
theorem Inv.after {Q : VK} {u : Value} (I : Inv X pins σ H s) (h : CE X.stack X.prog X.w H s Q u s') : EP X pins σ Q u s' := by
 obtain ⟨v, H', os, bare, un, hok, r, q⟩ := h
 obtain ⟨hh, g, d, t, os'⟩ := s'
 obtain rfl : os' = s.os := os
 exact ⟨v, H', I.call (h' := hh) (g' := g) (d' := d) (t' := t) (ch := []) un hok bare (fun b z => absurd z (by simp)), r, q⟩
end

noncomputable def a4G (sp : Sp) (dvs : List V) (E : XK) (t : TA) : TE := fun σ H Q => t σ H fun vs H1 => sp (vs ++ dvs) H1 Q E
noncomputable def Binds (K : PySem.W.Frag) (fd : FuncData) (ps : List Str) (ds : List Value) : Prop :=
 ∀ (s : Shared) (us : List Value), K.In s.heap → (us ++ ds).length = ps.length → BindsTo s fd ⟨us, []⟩ (ps.zip (us ++ ds))
theorem Binds.all {K : PySem.W.Frag} {fd : FuncData} {ps : List Str} (h : ∀ us : List Value, us.length = ps.length → bindArgs fd ⟨us, []⟩ = pure (ps.zip us)) : Binds K fd ps [] := fun s us _ hl => by
 rw [List.append_nil] at hl ⊢
 exact .of_eq (h us hl)

noncomputable def a3o (CX : CXT) (X : Cx) (E : XK) : Prop := ∀ (pins : List (Addr × Obj)) (σ : St) (H : Hp) (s : Shared) (e : Value) (s' : Shared), Inv X pins σ H s → CX X.stack H s E e s' → X.xe e s'

section
variable {X : Cx} {CX : CXT} {k : Nat} {f C : Addr} {fd : FuncData} {ps : List Str} {sp : Sp} {dvs : List V} {ds : List Value} {E : XK} {x m : Str} {p pos apos : Pos} {e o : Expr} {es : List Expr} {ta : TE} {t : TA}

theorem b3A {pins : List (Addr × Obj)} {σ : St} {H : Hp} {s : Shared} {Q : VK} {us : List Value} {vs : List V} (F : FnOk X.prog X.w X.K X.mg X.base CX k f fd ps sp) (hr : Room k X.A) (hb : Binds X.K fd ps ds) (hd : Vals dvs ds) (hx : a3o CX X E)
  (I : Inv X pins σ H s) (r : Vals vs us) (h : sp (vs ++ dvs) H Q E) : wpAny (model X.prog X.w) X.A (call (.ref f) us) (EP X pins σ Q) X.xe s := by
 have r2 : Vals (vs ++ dvs) (us ++ ds) := r.append hd
 have hl : (us ++ ds).length = ps.length := by rw [← r2.length]; exact F.len _ _ _ _ h
 refine wpAny_call (codeAny_mono (F.run X.A X.stack s H ⟨us, []⟩ (us ++ ds) (vs ++ dvs) Q E hr I.env0 (hb s us I.kIn hl) r2 h) fun r s' hq => ?_)
 cases r with
 | error e => exact hx pins σ H s e s' I hq
 | ok fl =>
  cases fl with
  | ret u => exact I.after hq
  | next => exact False.elim hq
  | brk => exact False.elim hq
  | cont => exact False.elim hq

theorem a7F (F : FnOk X.prog X.w X.K X.mg X.base CX k f fd ps sp) (hr : Room k X.A) (hg : Gl X x) (hm : X.mg x = some (.ref f)) (hk : PySem.W.keepIn X.K (.ref f) = true) (hb : Binds X.K fd ps ds) (hd : Vals dvs ds) (hx : a3o CX X E)
  (ha : PA X (e :: es) t) (hdb : (x == ("__debug__" : Str)) = false := by decide) (he : starEach (e :: es) X.env = (false, eval e X.env) :: starEach es X.env := by rfl) (hpl : (backTo pos (starEach es X.env)).any (·.1) = false := by rfl) :
  PE X (.Call (.Name x p) (e :: es) [] pos) (a4G sp dvs E t) := by
 intro pins s σ H Q I h
 refine wpAny_Call_Name_kw (b3q I hg hm ?_ hdb)
 refine PySem.W.callWith_K (h₀ := X.base) I.ok.mod.kin hk (thn (ha pos pins s σ H _ I h) fun us s1 ⟨vs, H1, I1, r, q⟩ => ⟨I1.kIn, ?_⟩) he hpl
 exact b3A F hr hb hd hx I1 r q
end

section
variable {X : Cx} {CX : CXT} {k : Nat} {f C : Addr} {fd : FuncData} {ps ks : List Str} {sp : Sp} {E : XK} {x m : Str} {p pos apos kpos : Pos} {e o : Expr} {es : List Expr} {kws : List Keyword} {te ta : TE} {t tk : TA} {nm : Option Str}
variable {g : List Value → List Value → List Value} {gV : List V → List V → List V}
end

structure FnScope (N P : List Str) (sc : Scope) : Prop where
 kind : sc.kind = .function
 co : sc.isCoroutine = false
 gen : sc.isGenerator = false
 nd : N.Nodup
 pre : N.take P.length = P
 par : ∀ x ∈ P, sc.names.lookup x = some .local ∨ sc.names.lookup x = some .cell
 nofree : ∀ y ∈ sc.names, y.2 ≠ .free

theorem a5t {kindOf : Str → Option NameKind} {x : Str} : ∀ {binds : List (Str × Value)} {m : Str → Option Value}, (∀ v, (x, v) ∉ binds) → bindL kindOf binds m x = m x
 | [], _, _ => rfl
 | (n, v) :: r, m, h => by
  unfold bindL
  rw [a5t fun w hw => h w (List.mem_cons_of_mem _ hw)]
  split
  ·have : x ≠ n := by rintro rfl; exact h v List.mem_cons_self
   simp [this]
  ·rfl
theorem a7c {kindOf : Str → Option NameKind} {x : Str} : ∀ {binds : List (Str × Value)} {m : Str → Option Value}, (∀ v, (x, v) ∉ binds) → bindC kindOf binds m x = m x
 | [], _, _ => rfl
 | (n, v) :: r, m, h => by
  unfold bindC
  rw [a7c fun w hw => h w (List.mem_cons_of_mem _ hw)]
  split
  ·rfl
  ·have : x ≠ n := by rintro rfl; exact h v List.mem_cons_self
   simp [this]
theorem a6T {kindOf : Str → Option NameKind} {x : Str} {v : Value} : ∀ {P : List Str} {vs : List Value} {i : Nat} {m : Str → Option Value}, P.Nodup → P[i]? = some x → vs[i]? = some v → kindOf x = some .local →
  bindL kindOf (P.zip vs) m x = some v
 | [], _, _, _, _, h, _, _ => by simp at h
 | _ :: _, [], _, _, _, _, h, _ => by simp at h
 | p :: P, w :: vs, 0, m, nd, h1, h2, hk => by
  simp at h1 h2; subst h1; subst h2
  show bindL kindOf ((p, w) :: P.zip vs) m p = _
  unfold bindL
  rw [a5t fun v hv => (List.nodup_cons.mp nd).1 (List.of_mem_zip hv).1, if_pos hk]
  simp
 | p :: P, w :: vs, i + 1, m, nd, h1, h2, hk => by
  show bindL kindOf ((p, w) :: P.zip vs) m x = _
  unfold bindL
  exact a6T (i := i) (List.nodup_cons.mp nd).2 (by simpa using h1) (by simpa using h2) hk
theorem a5Y {kindOf : Str → Option NameKind} {x : Str} {v : Value} : ∀ {P : List Str} {vs : List Value} {i : Nat} {m : Str → Option Value}, P.Nodup → P[i]? = some x → vs[i]? = some v → kindOf x ≠ some .local →
  bindC kindOf (P.zip vs) m x = some v
 | [], _, _, _, _, h, _, _ => by simp at h
 | _ :: _, [], _, _, _, _, h, _ => by simp at h
 | p :: P, w :: vs, 0, m, nd, h1, h2, hk => by
  simp at h1 h2; subst h1; subst h2
  show bindC kindOf ((p, w) :: P.zip vs) m p = _
  unfold bindC
  rw [a7c fun v hv => (List.nodup_cons.mp nd).1 (List.of_mem_zip hv).1, if_neg hk]
  simp
 | p :: P, w :: vs, i + 1, m, nd, h1, h2, hk => by
  show bindC kindOf ((p, w) :: P.zip vs) m x = _
  unfold bindC
  exact a5Y (i := i) (List.nodup_cons.mp nd).2 (by simpa using h1) (by simpa using h2) hk

noncomputable def start (N : List Str) (vs : List V) : St := vs.map some ++ List.replicate (N.length - vs.length) none

noncomputable def P5 (CX : CXT) (P : Program) (w : World) (K : PySem.W.Frag) (mg : Str → Option Value) (base : Heap) (N : List Str) (qual : Str) (scope : Scope) (f : Addr) (cd : Value) (A : Around) (outer : List Env) (s : Shared) (H : Hp) (E : XK) : Cx where
 prog := P
 w := w
 K := K
 mg := mg
 base := base
 A := A.deeper (envOfC qual scope s.heap.objs.size f cd)
 N := N
 s₀ := s
 H₀ := H
 env := envOfC qual scope s.heap.objs.size f cd
 outer := outer
 stack := envOfC qual scope s.heap.objs.size f cd :: outer
 ex := []
 calm := true
 fn := fun _ => true
 pn := []
 xe := fun e s' => wpAny (model P w) (A.deeper (envOfC qual scope s.heap.objs.size f cd)) (leaving (envOfC qual scope s.heap.objs.size f cd) e) (fun _ s'' => CX outer H s E e s'') (fun e' s'' => CX outer H s E e' s'') s'

theorem a6C {sc : Scope} {n : Nat} {x : Str} (h : sc.names.lookup x = some .cell) : ∃ c, (cellsFrom n sc.names []).lookup x = some c := by
 have q := PySem.W.cellsFrom_some sc.names n [] (.inl h)
 exact Option.isSome_iff_exists.mp q

theorem b0f {CX : CXT} {P : Program} {w : World} {K : PySem.W.Frag} {mg : Str → Option Value} {base : Heap} {N ps : List Str} {qual : Str} {scope : Scope} {f : Addr} {cd : Value} {A : Around} {outer : List Env} {s s1 : Shared} {H : Hp} {E : XK} {us : List Value} {vs : List V}
  (S : FnScope N ps scope) (hd : A.handled = none) (e0 : Env0 P w K mg base A outer s H) (hl : vs.length = ps.length) (r : Vals vs us)
  (x : InCallC s s.heap.objs.size (bindL (envOfC qual scope s.heap.objs.size f cd).kindOf (ps.zip us) fun _ => none) (cellsFrom (s.heap.objs.size + 1) scope.names []) (bindC (envOfC qual scope s.heap.objs.size f cd).kindOf (ps.zip us) fun _ => none) s1) :
  Inv (P5 CX P w K mg base N qual scope f cd A outer s H E) [] (start N vs) H s1 := by
 have hpl : ps.length ≤ N.length := by have := congrArg List.length S.pre; rw [List.length_take] at this; omega
 obtain ⟨h1, tk, rfl, hk⟩ := x.done
 have noA : ∀ b : Addr, b ∉ (P5 CX P w K mg base N qual scope f cd A outer s H E).ex := fun b z => absurd (show b ∈ ([] : List Addr) from z) (by simp)
 refine ⟨⟨e0.mod, S.kind, rfl, rfl, Nat.le_refl _, fun y z c h1 h2 => ?_, fun y hy => ?_, fun y c _ h => ?_, fun _ => hd, Around.frames_deeper e0.frames, .inr ⟨rfl, rfl⟩, fun b z => absurd z (noA b), e0.bs, e0.bsz, fun b _ _ => noA b, fun b z => absurd z (noA b), e0.funs, e0.frf⟩,
  rfl, e0.bare, Un.kept hk, ⟨_, x.toInCall.ns, fun i y v h1 h2 h3 => ?_⟩, fun y c h => ⟨_, x.cell y c h⟩, e0.hok.fresh (Nat.le_refl _), fun y c h => ?_, fun p hp => absurd (show p ∈ ([] : List (Addr × Obj)) from hp) (by simp), e0.hok.kept hk, ?_⟩
 ·exact name_of_addr x.apart (PySem.mem_of_lookup h1) (PySem.mem_of_lookup h2)
 ·have hy : scope.names.lookup y = some .cell ∨ scope.names.lookup y = some .free := hy
  rcases hy with hy | hy
  ·exact a6C hy
  ·exact absurd rfl (S.nofree _ (PySem.mem_of_lookup hy))
 ·exact Nat.le_of_lt (x.above y c (PySem.mem_of_lookup h))
 ·have hi : i < vs.length := by
   unfold start at h2
   by_cases hi : i < vs.length
   ·exact hi
   ·rw [List.getElem?_append_right (by simpa using hi)] at h2
    rw [List.getElem?_replicate] at h2
    split at h2 <;> cases h2
  have ha : vs[i]? = some v := by
   unfold start at h2
   rw [List.getElem?_append_left (by simpa using hi), List.getElem?_map] at h2
   cases e : vs[i]? with
   | none => rw [e] at h2; cases h2
   | some a => rw [e] at h2; cases h2; rfl
  obtain ⟨u, hu, rv⟩ := r.get ha
  have hp : ps[i]? = some y := by
   rw [← S.pre, List.getElem?_take_of_lt (by omega)]; exact h1
  have ndP : ps.Nodup := by rw [← S.pre]; exact S.nd.sublist (List.take_sublist _ _)
  refine ⟨u, rv, ?_⟩
  rcases S.par y (List.mem_of_getElem? hp) with k | k
  ·exact .inl ⟨k, a6T ndP hp hu k⟩
  ·obtain ⟨c, e⟩ := a6C (n := s.heap.objs.size + 1) k
   refine .inr ⟨.inl k, c, e, ?_⟩
   have q := x.cell y c e
   rw [a5Y ndP hp hu (by show scope.names.lookup y ≠ _; rw [k]; decide)] at q
   exact q
 ·exact e0.hok.fresh (Nat.le_of_lt (x.above y c (PySem.mem_of_lookup h)))
 ·unfold start
  show _ = N.length
  rw [List.length_append, List.length_map, List.length_replicate]
  omega

theorem b3D {CX : CXT} {P : Program} {w : World} {K : PySem.W.Frag} {mg : Str → Option Value} {base : Heap} {k : Nat} {f : Addr} {name qual : Str} {params : Arguments} {body : List Stmt} {scope : Scope} {dV kV doc pm cdv ct oc : Value} {an od : Option Addr}
  {osl : Array (Option Value)} {N ps : List Str} {sp : Sp} (lk : K.lookup f = some ⟨oc, od, .func (PySem.W.fnOf name qual params body scope dV kV doc pm an cdv ct), osl⟩) (hcd : PySem.W.codeIn K cdv qual = true) (S : FnScope N ps scope)
  (len : ∀ vs H Q E, sp vs H Q E → vs.length = ps.length)
  (hbody : ∀ (A : Around) (outer : List Env) (s : Shared) (H : Hp) (vs : List V) (Q : VK) (E : XK), Room k (A.deeper (envOfC qual scope s.heap.objs.size f cdv)) → sp vs H Q E →
   ∃ t, PSs (P5 CX P w K mg base N qual scope f cdv A outer s H E) body t ∧ t { nx := fun _ H' => Q .non H', rt := Q } (start N vs) H) :
  FnOk P w K mg base CX (k + 1) f (PySem.W.fnOf name qual params body scope dV kV doc pm an cdv ct) ps sp := by
 refine ⟨len, fun A outer s H args us vs Q E hr e0 hb r hsp => ?_⟩
 have hl := len _ _ _ _ hsp
 have KX : K.In s.heap := e0.mod.kin.keeps fun b o e => (e0.bs b o e).1
 have lim : s.heap.NoLimit := e0.mod.nolimit.keeps fun b o e => (e0.bs b o e).1
 have hkind : ∀ y ∈ ps.zip us, scope.names.lookup y.1 = some .local ∨ (scope.names.lookup y.1 = some .cell ∧ ((cellsFrom (s.heap.objs.size + 1) scope.names []).lookup y.1).isSome = true) := fun ⟨n, v⟩ hy => by
  rcases S.par n (List.of_mem_zip hy).1 with q | q
  ·exact .inl q
  ·exact .inr ⟨q, PySem.W.cellsFrom_some _ _ _ (.inl q)⟩
 refine codeAny_call_function hr.depth (KX _ _ lk) rfl S.co S.gen rfl (PySem.W.codeRec_of KX hcd) (hb _ _ _ _ ?_)
 refine wpAny_newFunctionEnv_cells S.kind hkind fun env he s1 x => ?_
 subst he
 refine ⟨lim.keeps x.toInCall.keep, codeAny_func ?_⟩
 obtain ⟨t, ht, hq⟩ := hbody A outer s H vs Q E (hr.deeper _) hsp
 have I : Inv (P5 CX P w K mg base N qual scope f cdv A outer s H E) [] (start N vs) H s1 := b0f S hr.hd e0 hl r x
 refine wpAny_mono (ht [] s1 (start N vs) H _ I hq) (fun fl s' hs => ?_) fun e s' hs => hs
 have fin : ∀ {σ' : St} {H' : Hp} {v : V} {u : Value}, Inv (P5 CX P w K mg base N qual scope f cdv A outer s H E) [] σ' H' s' → RelV v u → Q v H' → CE outer P w H s Q u s' :=
  fun {σ' H' v u} J rv q => ⟨v, H', J.os, J.bare, J.base, J.hok, rv, q⟩
 cases fl with
 | ret u =>
  obtain ⟨v, σ', H', J, rv, q⟩ := hs
  exact fin J rv q
 | next =>
  obtain ⟨σ', H', J, q⟩ := hs
  exact fin (v := V.non) (u := Value.none) J rfl q
 | brk =>
  obtain ⟨_, _, _, q⟩ := hs
  exact False.elim q
 | cont =>
  obtain ⟨_, _, _, q⟩ := hs
  exact False.elim q
end L2

namespace L2
open PySem PySem.Spec PyProof.Rows
section
variable {X : Cx} {x : Str} {p pos : Pos} {e : Expr} {es : List Expr} {t : TA} {id T : String} {r : List V → Hp → VK → Prop}

noncomputable def tCB (r : List V → Hp → VK → Prop) (t : TA) : TE := fun σ H Q => t σ H fun vs H1 => r vs H1 Q
theorem a4P (hc : CallR X (.builtin id) r) (hg : Gl X x) (hm : X.mg x = none) (hv : bootBuiltins x = some (.builtin id)) (ha : PA X (e :: es) t) (hn : x ≠ "__name__" := by decide) (hdb : (x == ("__debug__" : Str)) = false := by decide)
  (he : starEach (e :: es) X.env = (false, eval e X.env) :: starEach es X.env := by rfl) (hpl : (backTo pos (starEach es X.env)).any (·.1) = false := by rfl) : PE X (.Call (.Name x p) (e :: es) [] pos) (tCB r t) := by
 intro pins s σ H Q I h
 refine wpAny_Call_Name_kw (W7 I hg hm hv ?_ hn hdb)
 exact PyProof.Rows.callWith_builtin1 (thn (ha pos pins s σ H _ I h) fun us s1 ⟨vs, H1, I1, r1, q1⟩ => hc pins s1 σ H1 vs us Q I1 r1 q1) he hpl
theorem a6l (hc : CallR X (.type T) r) (hg : Gl X x) (hm : X.mg x = none) (hv : bootBuiltins x = some (.type T)) (ha : PA X (e :: es) t) (hn : x ≠ "__name__" := by decide) (hdb : (x == ("__debug__" : Str)) = false := by decide)
  (he : starEach (e :: es) X.env = (false, eval e X.env) :: starEach es X.env := by rfl) (hpl : (backTo pos (starEach es X.env)).any (·.1) = false := by rfl) : PE X (.Call (.Name x p) (e :: es) [] pos) (tCB r t) := by
 intro pins s σ H Q I h
 refine wpAny_Call_Name_kw (W7 I hg hm hv ?_ hn hdb)
 exact PyProof.Rows.callWith_type1 (thn (ha pos pins s σ H _ I h) fun us s1 ⟨vs, H1, I1, r1, q1⟩ => hc pins s1 σ H1 vs us Q I1 r1 q1) he hpl
end
end L2

namespace HT
open PySem PyProof.Rows

section
open PySem.SeqAt
open PySem.AutoSeq1 (wpAny_loadPart')
open PySem.MeetsSeq PySem.MeetsSeq2 PySem.MeetsSeq3

end

section
variable {prog : Program} {w : World} {A : Around} {E : Value → Shared → Prop} {s : Shared}

theorem cat_tup {t b : Addr} {vs ws : List Value} {Q : Value → Shared → Prop} (ht : IsTup s.heap t vs.toArray) (hb : IsTup s.heap b ws.toArray) (hv : vs ≠ [])
  (h1 : ws = [] → Q (.ref t) s) (h2 : ws ≠ [] → Q (.ref s.heap.objs.size) { s with heap := s.heap.push { cls := .type "tuple", data := .seq (vs ++ ws).toArray } })
  (hsz : vs.length + ws.length ≤ sizeLine) : wpAny (model prog w) A (binaryOp .Add (.ref t) (.ref b)) Q E s := by
 obtain ⟨⟨cls, dd, data, sl⟩, ho, hc, n, hd⟩ := id ht
 obtain ⟨⟨cls2, dd2, data2, sl2⟩, ho2, hc2, n2, hd2⟩ := id hb
 simp only at hc hd hc2 hd2
 subst hc hd hc2 hd2
 have e : vs.toArray ++ ws.toArray = (vs ++ ws).toArray := by simp
 by_cases hw : ws = []
 ·exact concat_meets ⟨_, ho, rfl⟩ ⟨_, ho2, rfl⟩ noFill_tuple_add seq_tuple_add PySem.F.slot_tuple_add PySem.F.entry_tuple_add (PySem.F.args_tuple_add_2 _ _)
   (tuple_addW1 t b vs.toArray ws.toArray n n2 dd dd2 sl sl2 (by simpa using hv) (by simp [hw])) ⟨ho, ho2, h1 hw⟩
 ·refine concat_meets ⟨_, ho, rfl⟩ ⟨_, ho2, rfl⟩ noFill_tuple_add seq_tuple_add PySem.F.slot_tuple_add PySem.F.entry_tuple_add (PySem.F.args_tuple_add_2 _ _)
   (tuple_addW2 t b vs.toArray ws.toArray n n2 dd dd2 sl sl2 (by simpa using hv) (by simpa using hw) (by rw [List.size_toArray, List.size_toArray]; exact hsz)) ⟨ho, ho2, ?_⟩
  rw [e]
  exact h2 hw

noncomputable def sIx (n d : Nat) : Option Int → Nat
 | none => d
 | some v => if v < 0 then (v + (n : Int)).toNat else min v.toNat n
theorem sIx_nat (n d k : Nat) : sIx n d (some (k : Int)) = min k n := by
 show (if (k : Int) < 0 then ((k : Int) + (n : Int)).toNat else min (k : Int).toNat n) = min k n
 rw [if_neg (by omega), Int.toNat_natCast]
theorem b2o (n d : Nat) (hd : d ≤ n) (o : Option Int) : sIx n d o ≤ n := by
 cases o with
 | none => exact hd
 | some v =>
  show (if v < 0 then (v + (n : Int)).toNat else min v.toNat n) ≤ n
  by_cases hv : v < 0
  ·rw [if_pos hv]; omega
  ·rw [if_neg hv]; exact Nat.min_le_right _ _
theorem a5j (v : Int) (n d : Nat) : (if v < 0 then max (v + (n : Int)) 0 else min v (n : Int)) = ((sIx n d (some v) : Nat) : Int) := by
 show (if v < 0 then max (v + (n : Int)) 0 else min v (n : Int)) = (((if v < 0 then (v + (n : Int)).toNat else min v.toNat n) : Nat) : Int)
 by_cases hv : v < 0
 ·simp only [if_pos hv]; omega
 ·simp only [if_neg hv]; omega
theorem a56 (lo hi : Option Int) (n : Nat) : Builtin.Slice.sliceAdjust lo hi 1 (n : Int) = (((sIx n 0 lo : Nat) : Int), ((sIx n n hi : Nat) : Int)) := by
 have h1 : ¬ ((1 : Int) < 0) := by omega
 unfold Builtin.Slice.sliceAdjust
 simp only [h1, if_false]
 refine Prod.ext ?_ ?_
 ·cases lo with
  | none => rfl
  | some v => exact a5j v n 0
 ·cases hi with
  | none => rfl
  | some v => exact a5j v n n
theorem a4K (i j : Nat) : Builtin.Slice.slicePlaces (i : Int) (j : Int) 1 = j - i := by
 unfold Builtin.Slice.slicePlaces
 have h1 : (1 : Int) > 0 := by omega
 simp only [h1, if_true, Int.ediv_one]
 split <;> omega
theorem a42 {v : Value} {o : Option Int} {Q : Option Int → Shared → Prop} (p : IsPart v o) (h : Q o s) : wpAny (model prog w) A (Builtin.Slice.slicePartIndex v) Q E s := by
 cases p with
 | none => exact slicePart_none h
 | int i t => exact slicePart_int h
theorem a6J {sl : Addr} {vl vu : Value} {lo hi : Option Int} {n : Nat} {Q : Int × Int × Nat → Shared → Prop} (hs : s.heap.IsSliceOf sl vl vu .none) (pl : IsPart vl lo) (pu : IsPart vu hi)
  (h : Q (((sIx n 0 lo : Nat) : Int), 1, sIx n n hi - sIx n 0 lo) s) : wpAny (model prog w) A (Builtin.Slice.sliceApplied (.ref sl) (pure (n : Int))) Q E s := by
 obtain ⟨os, hos, hcs, hds⟩ := id hs
 unfold Builtin.Slice.sliceApplied Builtin.Slice.sliceFields
 refine wpAny_bind (wpAny_bind (wpAny_field hos hds (x := vl) rfl (wpAny_bind (wpAny_field hos hds (x := vu) rfl (wpAny_bind (wpAny_field hos hds (x := .none) rfl (wpAny_pure ?_)))))))
 refine wpAny_bind (slicePart_none ?_)
 show wpAny _ _ (if ((1 : Int) == 0) = true then _ else _) _ _ s
 rw [if_neg (by decide)]
 refine wpAny_bind (a42 pl (wpAny_bind (a42 pu (wpAny_bind (wpAny_pure ?_)))))
 show wpAny _ _ (match Builtin.Slice.sliceAdjust lo hi 1 (n : Int) with | (lo, hi) => pure (lo, (1 : Int), Builtin.Slice.slicePlaces lo hi 1)) _ _ s
 rw [a56 lo hi n]
 show wpAny _ _ (pure (((sIx n 0 lo : Nat) : Int), (1 : Int), Builtin.Slice.slicePlaces ((sIx n 0 lo : Nat) : Int) ((sIx n n hi : Nat) : Int) 1)) _ _ s
 rw [a4K]
 exact wpAny_pure h
theorem b0t (xs : Array Value) (i k : Nat) : ((List.range k).filterMap fun (m : Nat) => xs[((i : Int) + (m : Int) * 1).toNat]?).toArray = ((xs.toList.drop i).take k).toArray := by
 have e : (fun (m : Nat) => xs[((i : Int) + (m : Int) * 1).toNat]?) = fun m => xs[i + m]? := by
  funext m
  have : ((i : Int) + (m : Int) * 1).toNat = i + m := by omega
  rw [this]
 rw [e]
 have := pick_run xs i k
 rw [List.filterMap_map] at this
 have e2 : ((fun x => xs[x]?) ∘ fun x => i + x) = fun m => xs[i + m]? := rfl
 rw [e2] at this
 rw [this]

theorem getItem_tuple_cut {t sl : Addr} {items : Array Value} {vl vu : Value} {lo hi : Option Int} {Q : Value → Shared → Prop} (ht : IsTup s.heap t items) (hs : s.heap.IsSliceOf sl vl vu .none) (pl : IsPart vl lo) (pu : IsPart vu hi)
  (hw : ¬ (sIx items.size 0 lo = 0 ∧ sIx items.size items.size hi = items.size))
  (h : Q (.ref s.heap.objs.size) { s with heap := s.heap.push { cls := .type "tuple", data := .seq ((items.toList.drop (sIx items.size 0 lo)).take (sIx items.size items.size hi - sIx items.size 0 lo)).toArray } })
  (hsz : items.size ≤ sizeLine) : wpAny (model prog w) A (getItem (.ref t) (.ref sl)) Q E s := by
 have htake : sizeOk (.seq ((items.toList.drop (sIx items.size 0 lo)).take (sIx items.size items.size hi - sIx items.size 0 lo)).toArray) := by
  show ((items.toList.drop (sIx items.size 0 lo)).take (sIx items.size items.size hi - sIx items.size 0 lo)).toArray.size ≤ sizeLine
  rw [List.size_toArray, List.length_take, List.length_drop, Array.length_toList]
  omega
 have hj : sIx items.size items.size hi ≤ items.size := b2o _ _ (Nat.le_refl _) hi
 obtain ⟨os, hos, hcs, hds⟩ := id hs
 have hTs : s.TypeIs (.ref sl) "slice" := ⟨os, hos, hcs⟩
 unfold getItem
 try with_reducible refine wpAny_holding ?_
 first | refine wpAny_bind (wpAny_pure ?_) | skip
 refine wpAny_bind (wpAny_sequenceKey ht.typeIs (by decide) ?_)
 refine wpAny_bind (wpAny_callSpecial?_slot (name := Str.ofString "__getitem__") ht.typeIs PyProof.Rows.slot_tuple_getitem
  (wpAny_call_entry PyProof.Rows.slot_tuple_getitem ht.typeIs entry_tuple_getitem ?_ (args_tuple_getitem _ _)))
 show wpAny _ _ (Builtin.Tuple.tupleItemsOf (.ref t) >>= _) _ _ s
 refine wpAny_bind (tupleItemsOf_ ht ?_)
 refine wpAny_bind (wpAny_typeOf hTs ?_)
 rw [if_pos (by decide)]
 refine wpAny_bind (a6J hs pl pu ?_)
 have hno : ¬ ((((sIx items.size 0 lo : Nat) : Int) == 0 && (1 : Int) == 1 && (sIx items.size items.size hi - sIx items.size 0 lo) == items.size) = true) := by
  intro q
  rw [Bool.and_eq_true, Bool.and_eq_true] at q
  have q1 : ((sIx items.size 0 lo : Nat) : Int) = 0 := eq_of_beq q.1.1
  have q2 : sIx items.size items.size hi - sIx items.size 0 lo = items.size := eq_of_beq q.2
  exact hw ⟨by omega, by omega⟩
 show wpAny _ _ (if (((sIx items.size 0 lo : Nat) : Int) == 0 && (1 : Int) == 1 && (sIx items.size items.size hi - sIx items.size 0 lo) == items.size) = true then _ else _) _ _ s
 rw [if_neg hno, b0t]
 first
  | exact wpAny_bind (m := Builtin.Tuple.tupleExact _) (wpAny_newObj_type (wpAny_pure ⟨_, rfl, wpAny_pure h⟩) htake)
  | exact wpAny_bind (m := Builtin.Tuple.tupleExact _) (wpAny_newObj_type (wpAny_bind (wpAny_pure (wpAny_pure ⟨_, rfl, wpAny_pure h⟩))) htake)
  | exact wpAny_bind (wpAny_bind (m := Builtin.Tuple.tupleExact _) (wpAny_newObj_type (wpAny_pure (wpAny_pure ⟨_, rfl, wpAny_pure h⟩)) htake))
  | exact wpAny_bind (wpAny_bind (m := Builtin.Tuple.tupleExact _) (wpAny_newObj_type (wpAny_pure ⟨_, rfl, wpAny_pure h⟩) htake))
end
end HT

namespace L2
open PySem PySem.Spec PyProof.Rows

noncomputable abbrev TO := St → Hp → (Option Int → Hp → Prop) → Prop
noncomputable def PO (X : Cx) (e : Option Expr) (t : TO) : Prop :=
 ∀ (pins : List (Addr × Obj)) (s : Shared) (σ : St) (H : Hp) (Q : Option Int → Hp → Prop), Inv X pins σ H s → t σ H Q →
  wpAny (model X.prog X.w) X.A (evalPart e X.env) (fun u s' => ∃ o H', Inv X pins σ H' s' ∧ IsPart u o ∧ Q o H') X.xe s
noncomputable def b0G : TO := fun _ H Q => Q none H
noncomputable def b07 (t : TE) : TO := fun σ H Q => t σ H fun x H1 => ∃ i, x = .int i ∧ Q (some i) H1

section
variable {X : Cx} {e : Expr} {te : TE} {lo hi : Option Expr} {tl th : TO} {pos p2 : Pos}

theorem a60 : PO X none b0G := by
 intro pins s σ H Q I h
 rw [evalPart_none]
 exact wpAny_pure ⟨none, H, I, .none, h⟩
theorem a5f (h : PE X e te) : PO X (some e) (b07 te) := by
 intro pins s σ H Q I hw
 rw [evalPart_some]
 refine thn (h pins s σ H _ I hw) fun u s1 ⟨x, H1, I1, r1, q1⟩ => ?_
 obtain ⟨i, rfl, q⟩ := q1
 obtain ⟨t, rfl⟩ := r1
 exact ⟨some i, H1, I1, .int i t, q⟩

noncomputable def SlR (X : Cx) (r : V → Option Int → Option Int → Hp → VK → Prop) : Prop :=
 ∀ (pins : List (Addr × Obj)) (s : Shared) (σ : St) (H : Hp) (x : V) (v vl vu : Value) (lo hi : Option Int) (sl : Addr) (Q : VK), Inv X pins σ H s → RelV x v → s.heap.IsSliceOf sl vl vu .none → IsPart vl lo → IsPart vu hi → r x lo hi H Q →
  ∃ T id, typeLookup (.type T) "__getitem__" = pure (some (.builtin id)) ∧ s.TypeIs v T ∧ wpAny (model X.prog X.w) X.A (getItem v (.ref sl)) (EP X pins σ Q) X.xe s
theorem SlR.or {r r' : V → Option Int → Option Int → Hp → VK → Prop} (h : SlR X r) (h' : SlR X r') : SlR X (fun x lo hi H Q => r x lo hi H Q ∨ r' x lo hi H Q) := by
 intro pins s σ H x v vl vu lo hi sl Q I rx hs pl pu q
 rcases q with q | q
 ·exact h pins s σ H x v vl vu lo hi sl Q I rx hs pl pu q
 ·exact h' pins s σ H x v vl vu lo hi sl Q I rx hs pl pu q
noncomputable def tSl (r : V → Option Int → Option Int → Hp → VK → Prop) (te : TE) (tl th : TO) : TE := fun σ H Q => te σ H fun x H1 => tl σ H1 fun l H2 => th σ H2 fun u H3 => r x l u H3 Q
theorem a6G {r : V → Option Int → Option Int → Hp → VK → Prop} (hr : SlR X r) (he : PE X e te) (hl : PO X lo tl) (hu : PO X hi th) : PE X (.Subscript e (.Slice lo hi none p2) pos) (tSl r te tl th) := by
 intro pins s σ H Q I h
 refine Subscript_ (thn (he pins s σ H _ I h) fun v s1 ⟨x, H1, I1, r1, q1⟩ => ?_)
 refine wpAny_Slice (thn (hl pins s1 σ H1 _ I1 q1) fun vl s2 ⟨l, H2, I2, pl, q2⟩ => thn (hu pins s2 σ H2 _ I2 q2) fun vu s3 ⟨u, H3, I3, pu, q3⟩ => ?_)
 rw [evalPart_none]
 refine wpAny_pure ?_
 have I4 : Inv X pins σ H3 { s3 with heap := s3.heap.push { cls := .type "slice", data := .fields #[vl, vu, .none] } } := I3.kept (t' := s3.toks) fun b ob q => Heap.get?_push_of_some _ q
 obtain ⟨T, id, hT, ht, hg⟩ := hr pins { s3 with heap := s3.heap.push { cls := .type "slice", data := .fields #[vl, vu, .none] } } σ H3 x v vl vu l u s3.heap.objs.size Q I4 r1 (Heap.IsSliceOf.new ..) pl pu q3
 show wpAny (model X.prog X.w) X.A (subscriptTail e (.Slice lo hi none p2) v (.ref s3.heap.objs.size)) (EP X pins σ Q) X.xe { s3 with heap := s3.heap.push { cls := .type "slice", data := .fields #[vl, vu, .none] } }
 exact tail_any (ops := [.ref s3.heap.objs.size, v]) ht hT hg (by with_unfolding_all rfl)

noncomputable def L7 (xs : List V) (lo hi : Option Int) : List V := (xs.drop (HT.sIx xs.length 0 lo)).take (HT.sIx xs.length xs.length hi - HT.sIx xs.length 0 lo)
theorem a5M (xs : List V) (lo hi : Option Int) : (L7 xs lo hi).length ≤ xs.length := by
 unfold L7
 rw [List.length_take, List.length_drop]
 omega
noncomputable def a9I (K : PySem.W.Frag) : V → Option Int → Option Int → Hp → VK → Prop := fun x lo hi H Q => ∃ a xs, x = .ref a ∧ SqT K H a xs ∧
 ¬ (HT.sIx xs.length 0 lo = 0 ∧ HT.sIx xs.length xs.length hi = xs.length) ∧ ∀ p, H p = none → Q (.ref p) (upd H p (.tup (L7 xs lo hi)))
theorem a9j : SlR X (a9I X.K) := by
 intro pins s σ H x v vl vu lo hi sl Q I rx hs pl pu h
 obtain ⟨a, xs, rfl, hx, hw, q⟩ := h
 cases rx
 obtain ⟨its, r, ht, hz⟩ := I.tuple hx
 have hlen : its.toArray.size = xs.length := by rw [List.size_toArray]; exact r.length.symm
 refine ⟨"tuple", _, PyProof.Rows.slot_tuple_getitem.lookup, ht.typeIs, ?_⟩
 refine HT.getItem_tuple_cut ht hs pl pu (by rw [hlen]; exact hw) ?_ (by rw [hlen]; exact hz)
 rw [hlen]
 refine ⟨.ref s.heap.objs.size, _, I.laid (t' := s.toks) (o := .tup (L7 xs lo hi)) (fun b ob q => Heap.get?_push_of_some _ q) (Nat.le_refl _) ?_, rfl, q _ (I.hok.fresh (Nat.le_refl _))⟩
 exact ⟨Nat.le_trans (a5M xs lo hi) hz, _, (r.drop (HT.sIx xs.length 0 lo)).take (HT.sIx xs.length xs.length hi - HT.sIx xs.length 0 lo), IsTup.new _ _⟩

noncomputable def a5b (K : PySem.W.Frag) : R2 := fun x y H Q => ∃ a b xs ys, x = .ref a ∧ y = .ref b ∧ SqT K H a xs ∧ SqT K H b ys ∧ xs ≠ [] ∧ xs.length + ys.length ≤ sizeLine ∧
 (ys = [] → Q (.ref a) H) ∧ (ys ≠ [] → ∀ p, H p = none → Q (.ref p) (upd H p (.tup (xs ++ ys))))
theorem Vals.nil_iff {xs : List V} {us : List Value} (r : Vals xs us) : us = [] ↔ xs = [] := by
 cases r with
 | nil => simp
 | cons _ _ => simp
theorem b1V : OpR X (binaryOp .Add) (a5b X.K) := by
 intro pins s σ H x y v u Q I rx ry h
 obtain ⟨a, b, xs, ys, rfl, rfl, ha, hb, hx, hz, q1, q2⟩ := h
 cases rx
 cases ry
 obtain ⟨its, r1, p1, _⟩ := I.tuple ha
 obtain ⟨its2, r2, p2, _⟩ := I.tuple hb
 refine HT.cat_tup p1 p2 (fun z => hx (r1.nil_iff.mp z)) (fun z => ⟨.ref a, H, I, rfl, q1 (r2.nil_iff.mp z)⟩) (fun z => ?_) (by rw [← r1.length, ← r2.length]; exact hz)
 refine ⟨.ref s.heap.objs.size, _, I.laid (t' := s.toks) (o := .tup (xs ++ ys)) (fun b ob q => Heap.get?_push_of_some _ q) (Nat.le_refl _) ?_, rfl, q2 (fun w => z (r2.nil_iff.mpr w)) _ (I.hok.fresh (Nat.le_refl _))⟩
 exact ⟨by rw [List.length_append]; exact hz, _, r1.append r2, IsTup.new _ _⟩
end
end L2

namespace L2
open PySem PySem.Spec PyProof.Rows

noncomputable def ixN (n : Nat) (i : Int) : Option Nat := if 0 ≤ i then (if i < n then some i.toNat else none) else if -(n : Int) ≤ i then some (i + n).toNat else none
noncomputable def atI {α : Type} (xs : List α) (i : Int) : Option α := (ixN xs.length i).bind fun j => xs[j]?
theorem a8C {n : Nat} {i : Int} {j : Nat} (h : ixN n i = some j) : seqIndex? i n = some j ∧ j < n ∧ -(n : Int) ≤ i ∧ i < n := by
 unfold ixN at h
 by_cases h0 : 0 ≤ i
 ·rw [if_pos h0] at h
  by_cases h1 : i < n
  ·rw [if_pos h1] at h
   have e : i.toNat = j := Option.some.inj h
   exact ⟨by rw [seqIndex_of h0 h1, e], by omega, by omega, h1⟩
  ·rw [if_neg h1] at h; cases h
 ·rw [if_neg h0] at h
  by_cases h1 : -(n : Int) ≤ i
  ·rw [if_pos h1] at h
   have e : (i + n).toNat = j := Option.some.inj h
   exact ⟨by rw [seqIndex_neg (by omega) h1, e], by omega, h1, by omega⟩
  ·rw [if_neg h1] at h; cases h
theorem a7m {α : Type} {xs : List α} {i : Int} {v : α} (h : atI xs i = some v) : ∃ j, seqIndex? i xs.length = some j ∧ xs[j]? = some v ∧ j < xs.length ∧ -(xs.length : Int) ≤ i ∧ i < xs.length := by
 unfold atI at h
 cases e : ixN xs.length i with
 | none => rw [e] at h; cases h
 | some j =>
  rw [e] at h
  obtain ⟨h1, h2, h3, h4⟩ := a8C e
  exact ⟨j, h1, h, h2, h3, h4⟩
theorem U2 {α : Type} (xs : List α) (v : α) : atI (xs ++ [v]) (-1) = some v := by
 have hl : (xs ++ [v]).length = xs.length + 1 := by simp
 have e : ixN (xs ++ [v]).length (-1) = some xs.length := by
  unfold ixN
  rw [hl, if_neg (by decide), if_pos (by omega)]
  congr 1
  omega
 unfold atI
 rw [e]
 show (xs ++ [v])[xs.length]? = some v
 simp

noncomputable def a5Z (b : Expr) : Prop := ∀ o i, subscripted b false o i = operate [o, i] (getItem o i)
noncomputable def IxR (X : Cx) (r : R2) : Prop :=
 ∀ (value slice : Expr) (pins : List (Addr × Obj)) (s : Shared) (σ : St) (H : Hp) (x y : V) (v u : Value) (Q : VK), Inv X pins σ H s → RelV x v → RelV y u → r x y H Q →
  subscripted slice false v u = operate [v, u] (getItem v u) → wpAny (model X.prog X.w) X.A (subscriptTail value slice v u) (EP X pins σ Q) X.xe s
noncomputable def MtR (X : Cx) (id : String) (r : V → List V → Hp → VK → Prop) : Prop :=
 ∀ (pins : List (Addr × Obj)) (s : Shared) (σ : St) (H : Hp) (x : V) (xs : List V) (v : Value) (us : List Value) (Q : VK), Inv X pins σ H s → RelV x v → Vals xs us → r x xs H Q →
  wpAny (model X.prog X.w) X.A (call (.builtin id) (v :: us)) (EP X pins σ Q) X.xe s
section
variable {X : Cx} {a b : Expr} {ta tb : TE} {pos : Pos}
theorem IxR.or {r r' : R2} (h : IxR X r) (h' : IxR X r') : IxR X (fun x y H Q => r x y H Q ∨ r' x y H Q) := by
 intro value slice pins s σ H x y v u Q I rx ry q hs
 rcases q with q | q
 ·exact h value slice pins s σ H x y v u Q I rx ry q hs
 ·exact h' value slice pins s σ H x y v u Q I rx ry q hs
theorem a8D {r : R2} (hr : IxR X r) (ha : PE X a ta) (hb : PE X b tb) (hs : a5Z b) : PE X (.Subscript a b pos) (tOp r ta tb) := by
 intro pins s σ H Q I h
 exact Subscript_ (a3U ha hb I h fun v u s2 x y H2 I2 rx ry q => hr a b pins s2 σ H2 x y v u Q I2 rx ry q (hs _ _))

noncomputable def a3D (K : PySem.W.Frag) : R2 := fun x y H Q => ∃ p xs i v, x = .ref p ∧ y = .int i ∧ SqL K H p xs ∧ atI xs i = some v ∧ Q v H
noncomputable def a1Y (K : PySem.W.Frag) : R2 := fun x y H Q => ∃ p xs i v, x = .ref p ∧ y = .int i ∧ SqT K H p xs ∧ atI xs i = some v ∧ Q v H
theorem ix_list : IxR X (a3D X.K) := by
 intro value slice pins s σ H x y v u Q I rx ry h hs
 obtain ⟨p, xs, i, z, rfl, rfl, hq, he, q⟩ := h
 cases rx
 obtain ⟨t, rfl⟩ := ry
 obtain ⟨its, r, pl, hz⟩ := I.list hq
 obtain ⟨j, h1, h2, h3, h4, h5⟩ := a7m he
 obtain ⟨w, ew, rw'⟩ := r.get h2
 have hl := r.length
 have hn := Z3
 have fin : EP X pins σ Q w s := ⟨z, H, I, rw', q⟩
 by_cases h0 : 0 ≤ i
 ·have hj : i.toNat = j := by
   rw [seqIndex_of h0 h5] at h1
   exact Option.some.inj h1
  exact item_listR pl.isList h0 (by omega) (by rw [hj]; simpa using ew) fin hs
 ·have hj : (i + (its.toArray.size : Int)).toNat = j := by
   rw [seqIndex_neg (by omega) h4] at h1
   rw [List.size_toArray, ← hl]
   exact Option.some.inj h1
  exact subscriptTail_builtinR (x := w) pl.isList.typeIs slot_list_getitem.lookup
   (wpAny_getItem_list_neg (Q := fun r s' => r = w ∧ EP X pins σ Q r s') pl.isList (by omega) (by rw [List.size_toArray] <;> omega) (by omega) (by rw [hj]; simpa using ew) ⟨rfl, fin⟩) hs
theorem a7Y : IxR X (a1Y X.K) := by
 intro value slice pins s σ H x y v u Q I rx ry h hs
 obtain ⟨p, xs, i, z, rfl, rfl, hq, he, q⟩ := h
 cases rx
 obtain ⟨t, rfl⟩ := ry
 obtain ⟨its, r, pl, hz⟩ := I.tuple hq
 obtain ⟨j, h1, h2, h3, h4, h5⟩ := a7m he
 obtain ⟨w, ew, rw'⟩ := r.get h2
 have hl := r.length
 have hn := Z3
 have fin : EP X pins σ Q w s := ⟨z, H, I, rw', q⟩
 exact subscriptTail_builtinR (x := w) pl.typeIs slot_tuple_getitem.lookup
  (getItem_tuple (j := j) (Q := fun r s' => r = w ∧ EP X pins σ Q r s') pl (by omega) (by omega) (by rw [List.size_toArray, ← hl]; exact h1) (by simpa using ew) ⟨rfl, fin⟩) hs
theorem a95 (lo hi : Option Int) (n : Nat) : (sliceBounds lo hi none n).1 = ((HT.sIx n 0 lo : Nat) : Int) ∧ (sliceBounds lo hi none n).2.1 = ((HT.sIx n n hi : Nat) : Int) ∧ (sliceBounds lo hi none n).2.2 = 1 := by
 have key : ∀ i : Int, (sliceBounds (some i) none none n).1 = ((HT.sIx n 0 (some i) : Nat) : Int) := fun i => by
  simp only [sliceBounds, HT.sIx, Option.getD_none, show (1 : Int) > 0 by decide, if_true]
  by_cases h : i < 0
  ·simp only [h, if_true] <;> omega
  ·simp only [h, if_false] <;> omega
 refine ⟨?_, ?_, rfl⟩
 ·cases lo with
  | none => simp [sliceBounds, HT.sIx]
  | some i => exact key i
 ·cases hi with
  | none => simp [sliceBounds, HT.sIx]
  | some i => exact key i
theorem a84 (its : List Value) (lo hi : Option Int) : slicePick its.toArray lo hi none = ((its.drop (HT.sIx its.length 0 lo)).take (HT.sIx its.length its.length hi - HT.sIx its.length 0 lo)).toArray := by
 obtain ⟨h1, h2, h3⟩ := a95 lo hi its.toArray.size
 unfold slicePick
 rw [h1, h2, h3]
 simp only [sliceRange_one, pick_run, List.size_toArray] <;> rfl
noncomputable def b26 (K : PySem.W.Frag) : V → Option Int → Option Int → Hp → VK → Prop := fun x lo hi H Q => ∃ a xs, x = .ref a ∧ SqL K H a xs ∧ ∀ p, H p = none → Q (.ref p) (upd H p (.lst (L7 xs lo hi)))
theorem a40 : SlR X (b26 X.K) := by
 intro pins s σ H x v vl vu lo hi sl Q I rx hs pl pu h
 obtain ⟨a, xs, rfl, hx, q⟩ := h
 cases rx
 obtain ⟨its, r, ht, hz⟩ := I.list hx
 have hlen := r.length
 refine ⟨"list", _, slot_list_getitem.lookup, ht.isList.typeIs, ?_⟩
 refine wpAny_getItem_list_slice ht.isList hs pl pu .none (by simp) ?_ (by rw [List.size_toArray] <;> omega)
 rw [a84, ← hlen]
 refine ⟨.ref s.heap.objs.size, _, I.laid (t' := s.toks) (o := .lst (L7 xs lo hi)) (fun b ob q => Heap.get?_push_of_some _ q) (Nat.le_refl _) ?_, rfl, q _ (I.hok.fresh (Nat.le_refl _))⟩
 exact ⟨Nat.le_trans (a5M xs lo hi) hz, _, 0, (r.drop (HT.sIx xs.length 0 lo)).take (HT.sIx xs.length xs.length hi - HT.sIx xs.length 0 lo), Heap.get?_push_size _ rfl⟩

theorem call_len_seq : CallR X (.builtin "len") (fun xs H Q => ∃ p ys, xs = [.ref p] ∧ (SqL X.K H p ys ∨ SqT X.K H p ys) ∧ Q (.int ys.length) H) := by
 intro pins s σ H xs us Q I r h
 obtain ⟨p, ys, rfl, hq, q⟩ := h
 obtain ⟨u, rfl, rx⟩ := O5 r
 cases rx
 have hn := Z3
 rcases hq with hq | hq
 ·obtain ⟨its, r', pl, hz⟩ := I.list hq
  have hlen := r'.length
  exact Calls.call_len_list pl.isList (by simp only [List.size_toArray] <;> omega) ⟨.int ys.length, H, I.tok _, ⟨s.toks + 1, by rw [List.size_toArray, hlen]⟩, q⟩
 ·obtain ⟨its, r', pl, hz⟩ := I.tuple hq
  have hlen := r'.length
  exact len_tuple pl (by simp only [List.size_toArray] <;> omega) ⟨.int ys.length, H, I.tok _, ⟨s.toks + 1, by rw [List.size_toArray, hlen]⟩, q⟩
theorem b2M : CallR X (.builtin "len") (fun xs H Q => ∃ z, xs = [.str z] ∧ z.length ≤ sizeLine ∧ Q (.int z.length) H) := by
 intro pins s σ H xs us Q I r h
 obtain ⟨z, rfl, hz, q⟩ := h
 obtain ⟨u, rfl, t, rfl⟩ := O5 r
 have hn := Z3
 exact len_str (by omega) ⟨.int z.length, H, I.tok _, ⟨_, rfl⟩, q⟩
theorem CallR.or {f : Value} {r r' : List V → Hp → VK → Prop} (h : CallR X f r) (h' : CallR X f r') : CallR X f (fun xs H Q => r xs H Q ∨ r' xs H Q) := by
 intro pins s σ H xs us Q I rs q
 rcases q with q | q
 ·exact h pins s σ H xs us Q I rs q
 ·exact h' pins s σ H xs us Q I rs q
theorem a8f : CallR X (.type "list") (fun xs H Q => ∃ p ys, xs = [.ref p] ∧ (SqL X.K H p ys ∨ SqT X.K H p ys) ∧ ∀ l, H l = none → Q (.ref l) (upd H l (.lst ys))) := by
 intro pins s σ H xs us Q I r h
 obtain ⟨p, ys, rfl, hq, q⟩ := h
 obtain ⟨u, rfl, rx⟩ := O5 r
 cases rx
 have fin : ∀ (its : List Value), Vals ys its → ys.length ≤ sizeLine → ∀ (h' : Heap) (c' : Nat), (∀ b o', s.heap.get? b = some o' → h'.get? b = some o') →
   h'.get? s.heap.objs.size = some { cls := .type "list", dict := none, data := .seq its.toArray c', slots := #[] } → EP X pins σ Q (.ref s.heap.objs.size) { s with heap := h' } := fun its r' hz h' c' kp e =>
  ⟨.ref s.heap.objs.size, _, I.laid (t' := s.toks) kp (Nat.le_refl _) (show ObjOk X.prog X.w _ h' _ (.lst ys) from ⟨hz, its, c', r', e⟩), rfl, q _ (I.hok.fresh (Nat.le_refl _))⟩
 rcases hq with hq | hq
 ·obtain ⟨its, r', pl, hz⟩ := I.list hq
  have hlen := r'.length
  obtain ⟨o, ho, hc, n, hd⟩ := pl.isList
  exact call_list_seq p (.inl rfl) ho hc hd (fun h' c' kp e => fin its r' hz h' c' kp e) (by simp only [List.size_toArray] <;> omega)
 ·obtain ⟨its, r', pl, hz⟩ := I.tuple hq
  have hlen := r'.length
  obtain ⟨o, ho, hc, n, hd⟩ := pl
  exact call_list_seq p (.inr rfl) ho hc hd (fun h' c' kp e => fin its r' hz h' c' kp e) (by simp only [List.size_toArray] <;> omega)
theorem a0O : CallR X (.type "tuple") (fun xs H Q => ∃ p ys, xs = [.ref p] ∧ ((SqL X.K H p ys ∧ ∀ l, H l = none → Q (.ref l) (upd H l (.tup ys))) ∨ (SqT X.K H p ys ∧ Q (.ref p) H))) := by
 intro pins s σ H xs us Q I r h
 obtain ⟨p, ys, rfl, h⟩ := h
 obtain ⟨u, rfl, rx⟩ := O5 r
 cases rx
 rcases h with ⟨hq, q⟩ | ⟨hq, q⟩
 ·obtain ⟨its, r', pl, hz⟩ := I.list hq
  have hlen := r'.length
  refine call_tuple_list pl.isList (fun h' kp => ?_) (by simp only [List.size_toArray] <;> omega)
  have I1 : Inv X pins σ H { s with heap := h' } := I.kept (t' := s.toks) kp
  have I2 : Inv X pins σ (upd H h'.objs.size (.tup ys)) { s with heap := h'.push { cls := .type "tuple", data := .seq its.toArray } } :=
   I1.laid (t' := s.toks) (fun b o e => Heap.get?_push_of_some _ e) (Nat.le_refl _) (show ObjOk X.prog X.w _ _ _ (.tup ys) from ⟨hz, its, r', IsTup.new _ _⟩)
  exact ⟨.ref h'.objs.size, _, I2, rfl, q _ (I1.hok.fresh (Nat.le_refl _))⟩
 ·obtain ⟨its, r', pl, hz⟩ := I.tuple hq
  exact call_tuple_same pl ⟨.ref p, H, I, rfl, q⟩

noncomputable def tyV (K : PySem.W.Frag) (T : String) (x : V) (H : Hp) : Prop := match x with
 | .str _ => T = "str"
 | .int _ => T = "int"
 | .ref p => (T = "list" ∧ ∃ xs, SqL K H p xs) ∨ (T = "tuple" ∧ ∃ o, K.lookup p = some o ∧ o.cls = .type "tuple" ∧ o.dict = none) ∨
   (T = "dict" ∧ ((∃ kvs, H p = some (.dK kvs)) ∨ ∃ kvs, H p = some (.dT kvs))) ∨ (T = "set" ∧ ∃ S n, H p = some (.set S n))
 | _ => False
theorem a5i {pins : List (Addr × Obj)} {σ : St} {H : Hp} {s : Shared} {T : String} {x : V} {v : Value} (I : Inv X pins σ H s) (r : RelV x v) (ty : tyV X.K T x H) :
  s.TypeIs v T ∧ ∀ a, v = .ref a → ∃ ob, s.heap.get? a = some ob ∧ ob.dict = none := by
 cases x with
 | str z =>
  obtain ⟨t, rfl⟩ := r
  cases (show T = "str" from ty)
  exact ⟨typeIs_str s z t, fun _ e => nomatch e⟩
 | int i =>
  obtain ⟨t, rfl⟩ := r
  cases (show T = "int" from ty)
  exact ⟨typeIs_int s i t, fun _ e => nomatch e⟩
 | ref p =>
  cases r
  rcases ty with ⟨rfl, xs, hq⟩ | ⟨rfl, o, hk, hc, hd⟩ | ⟨rfl, hk⟩ | ⟨rfl, S, n, hk⟩
  ·obtain ⟨its, _, pl, _⟩ := I.list hq
   refine ⟨pl.isList.typeIs, fun a e => ?_⟩
   cases e
   obtain ⟨o, n, e, c, hd, _⟩ := pl
   exact ⟨o, e, hd⟩
  ·refine ⟨⟨o, I.kIn p o hk, hc⟩, fun a e => ?_⟩
   cases e
   exact ⟨o, I.kIn _ o hk, hd⟩
  ·have z : ∃ o, s.heap.get? p = some o ∧ o.ExactDict := by
    rcases hk with ⟨kvs, hk⟩ | ⟨kvs, hk⟩
    ·obtain ⟨_, _, _, _, o, _, _, e, ex, _⟩ := I.hok p _ hk
     exact ⟨o, e, ex⟩
    ·obtain ⟨_, _, _, _, o, _, _, e, ex, _⟩ := I.hok p _ hk
     exact ⟨o, e, ex⟩
   obtain ⟨o, e, ex⟩ := z
   refine ⟨⟨o, e, ex.1⟩, fun a e2 => ?_⟩
   cases e2
   exact ⟨o, e, ex.2.1⟩
  ·obtain ⟨o, _, _, _, e, ex, _⟩ := I.hok p _ hk
   refine ⟨⟨o, e, ex.1⟩, fun a e2 => ?_⟩
   cases e2
   exact ⟨o, e, ex.2.1⟩
 | _ => exact False.elim ty
noncomputable def a7T (K : PySem.W.Frag) (T : String) (r : V → List V → Hp → VK → Prop) (to : TE) : TE := fun σ H Q => to σ H fun x H1 => tyV K T x H1 ∧ r x [] H1 Q
noncomputable def tBM (K : PySem.W.Frag) (T : String) (r : V → List V → Hp → VK → Prop) (to : TE) (t : TA) : TE := fun σ H Q => to σ H fun x H1 => tyV K T x H1 ∧ t σ H1 fun xs H2 => r x xs H2 Q
variable {o e : Expr} {es : List Expr} {to : TE} {t : TA} {name : Str} {apos cpos : Pos} {T id : String} {r : V → List V → Hp → VK → Prop}
theorem b3P (pa : PlainAttrs T) (slot : Slot T name id) (hty : typeOf (.builtin id) = pure (.type "method_descriptor")) (hm : MtR X id r) (ho : PE X o to)
  (hbase : attributeBase o name X.env (eval o X.env) = eval o X.env := by rfl) (hline : (apos.endLine == cpos.line) = true := by rfl) : PE X (.Call (.Attribute o name apos) [] [] cpos) (a7T X.K T r to) := by
 intro pins s σ H Q I h
 refine wpAny_Call_method0_late hbase hline (thn (ho pins s σ H _ I h) fun v s1 ⟨x, H1, I1, r1, ty, q1⟩ => ?_)
 obtain ⟨h1, h2⟩ := a5i I1 r1 ty
 exact ⟨T, id, pa, slot, hty, h1, h2, Calls.callWith_builtin rfl (PySem.evalArgs_none (hm pins s1 σ H1 x [] v [] Q I1 r1 .nil q1))⟩
theorem b3y (pa : PlainAttrs T) (slot : Slot T name id) (hty : typeOf (.builtin id) = pure (.type "method_descriptor")) (hm : MtR X id r) (ho : PE X o to) (ha : PA X (e :: es) t)
  (hbase : attributeBase o name X.env (eval o X.env) = eval o X.env := by rfl)
  (hfew : ((backTo cpos (starEach (e :: es) X.env)).all (fun x => !x.1) && (backToKw cpos (keywordEach [] X.env)).all (fun x => x.1.isSome)
   && decide ((e :: es).length + ([] : List Keyword).length + (if ([] : List Keyword).isEmpty then 0 else 1) < 30)) = true := by rfl)
  (hline : (apos.endLine == cpos.line) = true := by rfl) (hs : starEach (e :: es) X.env = (false, eval e X.env) :: starEach es X.env := by rfl) (hplain : (backTo cpos (starEach es X.env)).any (·.1) = false := by rfl) :
  PE X (.Call (.Attribute o name apos) (e :: es) [] cpos) (tBM X.K T r to t) := by
 intro pins s σ H Q I h
 refine wpAny_Call_method_late hbase hfew hline rfl (thn (ho pins s σ H _ I h) fun v s1 ⟨x, H1, I1, r1, ty, q1⟩ => ?_)
 obtain ⟨h1, h2⟩ := a5i I1 r1 ty
 refine ⟨T, id, pa, slot, hty, h1, h2, ?_⟩
 have hA := ha cpos pins s1 σ H1 _ I1 q1
 rw [hs] at hA ⊢
 refine Calls.callWith_builtin (by show (false || (backTo cpos (starEach es X.env)).any (·.1)) = false; rw [hplain] <;> rfl) (Calls.evalArgs_plain ?_)
 exact thn hA fun us s2 ⟨vs, H2, I2, r2, q2⟩ => hm pins s2 σ H2 x vs v us Q I2 r1 r2 q2
end
end L2

namespace L2
open PySem PySem.Spec PyProof.Rows

noncomputable def MtM (X : Cx) (id : String) (r : V → List V → Hp → VK → Prop) : Prop :=
 ∀ (pins : List (Addr × Obj)) (s : Shared) (σ : St) (H : Hp) (x : V) (xs : List V) (v : Value) (us : List Value) (Q : VK), Inv X pins σ H s → RelV x v → Vals xs us → r x xs H Q →
  wpAny (model X.prog X.w) X.A (call (.builtin id) (v :: us)) (EP X pins σ Q) X.xe s

theorem Vals.one : ∀ {x : V} {us : List Value}, Vals [x] us → ∃ u, us = [u] ∧ RelV x u := by
 intro x us h
 cases h with
 | cons r t =>
  cases t
  exact ⟨_, rfl, r⟩
theorem Vals.reverse {xs : List V} {us : List Value} (h : Vals xs us) : Vals xs.reverse us.reverse := by
 induction h with
 | nil => exact .nil
 | cons r t ih => rw [List.reverse_cons, List.reverse_cons]; exact Vals.append ih (.cons r .nil)
theorem Vals.rep {xs : List V} {us : List Value} (h : Vals xs us) : ∀ k : Nat, Vals (List.replicate k xs).flatten (List.replicate k us).flatten
 | 0 => .nil
 | k + 1 => by
  rw [List.replicate_succ, List.replicate_succ, List.flatten_cons, List.flatten_cons]
  exact Vals.append h (Vals.rep h k)
theorem a46 (its : List Value) : ∀ (k : Nat) (acc : List Value),
  List.foldl (fun x1 x2 => x1 ++ x2) acc.toArray (List.replicate k its.toArray) = (acc ++ (List.replicate k its).flatten).toArray
 | 0, acc => by simp
 | k + 1, acc => by
  have e : acc.toArray ++ its.toArray = (acc ++ its).toArray := by simp
  have e2 : (acc ++ its) ++ (List.replicate k its).flatten = acc ++ (List.replicate (k + 1) its).flatten := by
   rw [List.replicate_succ, List.flatten_cons, List.append_assoc]
  rw [← e2, ← a46 its k (acc ++ its), ← e, List.replicate_succ, List.foldl_cons]

section
variable {X : Cx} {pins : List (Addr × Obj)} {σ : St} {H : Hp} {s : Shared} {l b : Addr} {xs ys zs : List V}

theorem Inv.lset {its its' : List Value} {n : Nat} {f : Array Value → Array Value} {t' : Nat} (I : Inv X pins σ H s) (hH : H l = some (.lst xs))
  (e : s.heap.get? l = some { cls := .type "list", data := .seq its.toArray n }) (hf : f its.toArray = its'.toArray) (hv : Vals ys its') (hz : ys.length ≤ sizeLine) :
  Inv X pins σ (upd H l (.lst ys)) { s with heap := s.heap.update l (Obj.mapSeq f), toks := t' } := by
 have q := PySem.IsL.update e f
 rw [hf] at q
 refine I.write (x := l) (e := l) (by rw [hH]; exact trivial) (.inl rfl) (fun b' u hb hu => (Heap.get?_update_other s.heap (Obj.mapSeq f) (Ne.symm hb)).trans hu) ⟨_, q⟩ ?_
 exact ⟨hz, its', _, hv, q⟩
theorem Inv.lnew {its : List Value} {t' : Nat} (I : Inv X pins σ H s) (hv : Vals ys its) (hz : ys.length ≤ sizeLine) :
  Inv X pins σ (upd H s.heap.objs.size (.lst ys)) { s with heap := s.heap.push { cls := .type "list", data := .seq its.toArray }, toks := t' } :=
 I.laid (fun _ _ q => Heap.get?_push_of_some _ q) (Nat.le_refl _) ⟨hz, its, 0, hv, Heap.get?_push_size _ rfl⟩
theorem Inv.fresh (I : Inv X pins σ H s) : H s.heap.objs.size = none := I.hok.fresh (Nat.le_refl _)
theorem Inv.lstM (I : Inv X pins σ H s) (hH : H l = some (.lst xs)) : xs.length ≤ sizeLine ∧ ∃ (its : List Value) (n : Nat), Vals xs its ∧ xs.length = its.length ∧ s.heap.get? l = some { cls := .type "list", data := .seq its.toArray n } := by
 obtain ⟨z, its, n, r, e⟩ := I.hok l _ hH
 exact ⟨z, its, n, r, r.length, e⟩

theorem a9x {n : Nat} (h : n ≤ sizeLine) : Builtin.List.listTooLong n = false := by
 unfold Builtin.List.listTooLong
 exact decide_eq_false (by omega)
end

section
variable {X : Cx}

noncomputable def a7O : V → List V → Hp → VK → Prop := fun x vs H Q => ∃ l xs y, x = .ref l ∧ vs = [y] ∧ H l = some (.lst xs) ∧ xs.length < sizeLine ∧ Q .non (upd H l (.lst (xs ++ [y])))
theorem a4N : MtM X "list.append" a7O := by
 intro pins s σ H x vs v us Q I rx rv h
 obtain ⟨l, xs, y, rfl, rfl, hH, hz, q⟩ := h
 cases rx
 obtain ⟨u, rfl, ru⟩ := rv.one
 obtain ⟨z, its, n, r, hl, e⟩ := I.lstM hH
 refine call_meets F.slot_list_append ⟨_, e, rfl⟩ F.entry_list_append (F.args_list_append_2 _ _) (PySem.list_append l its.toArray n u (by rw [List.size_toArray]; omega)) ⟨e, ?_⟩
 refine ⟨.non, _, I.lset (its' := its ++ [u]) hH e (by simp) (r.append (.cons ru .nil)) ?_, rfl, q⟩
 rw [List.length_append, List.length_singleton]
 omega

noncomputable def a32 : R2 := fun x y H Q => ∃ l b xs zs, x = .ref l ∧ y = .ref b ∧ H l = some (.lst xs) ∧ H b = some (.lst zs) ∧ xs.length + zs.length ≤ sizeLine ∧ ∀ p, H p = none → Q (.ref p) (upd H p (.lst (xs ++ zs)))
theorem a3g : OpR X (binaryOp .Add) a32 := by
 intro pins s σ H x y v u Q I rx ry h
 obtain ⟨l, b, xs, zs, rfl, rfl, hH, hB, hz, q⟩ := h
 cases rx
 cases ry
 obtain ⟨z, its, n, r, hl, e⟩ := I.lstM hH
 obtain ⟨z2, its2, n2, r2, hl2, e2⟩ := I.lstM hB
 refine PySem.P.add_list e e2 ?_ (by rw [List.size_toArray, List.size_toArray]; omega)
 have ea : its.toArray ++ its2.toArray = (its ++ its2).toArray := by simp
 rw [ea]
 exact ⟨.ref _, _, I.lnew (t' := s.toks) (r.append r2) (by rw [List.length_append]; omega), rfl, q _ I.fresh⟩
noncomputable def a5O : R2 := fun x y H Q => ∃ l k xs, x = .ref l ∧ y = .int k ∧ H l = some (.lst xs) ∧ -(2 ^ 63) ≤ k ∧ k < 2 ^ 63 ∧ xs.length * k.toNat ≤ sizeLine ∧
 ∀ p, H p = none → Q (.ref p) (upd H p (.lst (List.replicate k.toNat xs).flatten))
theorem b0p {α : Type} (xs : List α) (k : Nat) : (List.replicate k xs).flatten.length = k * xs.length := by
 induction k with
 | zero => simp
 | succ k ih => rw [List.replicate_succ, List.flatten_cons, List.length_append, ih, Nat.succ_mul, Nat.add_comm]
theorem b1c : OpR X (binaryOp .Mult) a5O := by
 intro pins s σ H x y v u Q I rx ry h
 obtain ⟨l, k, xs, rfl, rfl, hH, h1, h2, hz, q⟩ := h
 cases rx
 obtain ⟨t, rfl⟩ := ry
 obtain ⟨z, its, n, r, hl, e⟩ := I.lstM hH
 have hlen : its.toArray.size * k.toNat ≤ sizeLine := by rw [List.size_toArray, ← hl]; exact hz
 have hcap : ¬ its.toArray.size * k.toNat > (2 ^ 63 - 1) / 8 := by
  have : (sizeLine : Nat) ≤ (2 ^ 63 - 1) / 8 := by decide
  omega
 have hfit : ¬ (!Builtin.List.listFitsIndex k) = true := by
  rw [fitsIndex_both h1 h2]
  exact Bool.false_ne_true
 have hlong : ¬ Builtin.List.listTooLong (its.toArray.size * k.toNat) = true := by
  rw [a9x hlen]
  exact Bool.false_ne_true
 have hnew : List.foldl (fun x1 x2 => x1 ++ x2) #[] (List.replicate (if its.toArray.isEmpty = true then 0 else k.toNat) its.toArray) = (List.replicate k.toNat its).flatten.toArray := by
  have f0 : ∀ m : Nat, List.foldl (fun x1 x2 => x1 ++ x2) #[] (List.replicate m its.toArray) = (List.replicate m its).flatten.toArray := fun m => by
   have := a46 its m []
   rw [List.nil_append] at this
   exact this
  rw [f0]
  cases its with
  | nil => simp
  | cons a r' => rw [if_neg (by simp)]
 refine wpAny_binaryOp_repeat_ref (T := "list") (U := "int") (by decide) ⟨_, e, rfl⟩ (fun s' => typeIs_int s' k t) noFill_list_mul F.fills_int_mul F.slot_int_rmul repeat_list F.slot_int_index.lookup
  (call_meets F.slot_int_rmul (typeIs_int s k t) F.entry_int_rmul (F.args_int_rmul_2 _ _) (int___rmul___int_list k t l its.toArray n)
   ⟨e, rfl, ⟨_, e, rfl⟩, call_meets F.slot_list_mul ⟨_, e, rfl⟩ F.entry_list_mul (F.args_list_mul_2 _ _) (AutoListH.list___mul___list_int_3 l its.toArray n k t hfit hcap hlong) ⟨e, ?_⟩⟩)
 rw [hnew]
 exact ⟨.ref _, _, I.lnew (t' := s.toks) (r.rep k.toNat) (by rw [b0p, Nat.mul_comm]; exact hz), rfl, q _ I.fresh⟩

end

section
variable {prog : Program} {w : World} {A : Around} {E : Value → Shared → Prop} {s : Shared}
end

section
variable {X : Cx}
end
end L2

namespace L2
open PySem PySem.Spec PyProof.Rows

section
variable {κ : Type} [DecidableEq κ]
noncomputable def E2 (kvs : List (κ × V)) (k : κ) : Option V := (kvs.find? fun kv => decide (kv.1 = k)).map (·.2)
noncomputable def A9 (kvs : List (κ × V)) (k : κ) (v : V) : List (κ × V) :=
 if (kvs.any fun kv => decide (kv.1 = k)) = true then kvs.map (fun kv => if kv.1 = k then (kv.1, v) else kv) else kvs ++ [(k, v)]
theorem a1b {k : κ} : E2 ([] : List (κ × V)) k = none := rfl
theorem V4 {p : κ × V} {r : List (κ × V)} {k : κ} (e : p.1 = k) : E2 (p :: r) k = some p.2 := by simp [E2, List.find?_cons, e]
theorem J2 {p : κ × V} {r : List (κ × V)} {k : κ} (e : ¬ p.1 = k) : E2 (p :: r) k = E2 r k := by simp [E2, List.find?_cons, e]
theorem a1w (k : κ) : ∀ kvs : List (κ × V), (kvs.any fun kv => decide (kv.1 = k)) = (E2 kvs k).isSome
 | [] => rfl
 | p :: r => by
  rw [List.any_cons]
  by_cases e : p.1 = k
  ·simp only [V4 e, decide_eq_true e, Bool.true_or, Option.isSome_some]
  ·rw [J2 e, decide_eq_false e, Bool.false_or]; exact a1w k r
theorem a3e (kvs : List (κ × V)) (k : κ) (v : V) : (A9 kvs k v).length ≤ kvs.length + 1 := by
 unfold A9
 split
 ·rw [List.length_map]; omega
 ·rw [List.length_append, List.length_cons, List.length_nil]; omega
theorem a1H {kvs : List (κ × V)} {k : κ} (v : V) (h : E2 kvs k = none) : A9 kvs k v = kvs ++ [(k, v)] := by
 unfold A9
 rw [a1w, h]
 exact if_neg (by decide)

theorem RelO.isSome_eq {o : Option V} {u : Option Value} (r : RelO o u) : o.isSome = u.isSome := by
 cases o with
 | none => cases u with
  | none => rfl
  | some _ => exact (show False from r).elim
 | some _ => cases u with
  | none => exact (show False from r).elim
  | some _ => rfl
theorem KV.val {kvs : List (κ × V)} {vs : List (κ × Value)} (r : KV kvs vs) (k : κ) : RelO (E2 kvs k) (valueAt vs k) := by
 unfold KV at r
 induction r with
 | nil => exact True.intro
 | @cons p q ps qs h t ih =>
  obtain ⟨h1, h2⟩ := h
  by_cases e : p.1 = k
  ·have e' : q.1 = k := h1.symm.trans e
   have b : valueAt (q :: qs) k = some q.2 := by simp [valueAt, List.find?_cons, e']
   rw [V4 e, b]; exact h2
  ·have e' : ¬ q.1 = k := fun z => e (h1.trans z)
   have b : valueAt (q :: qs) k = valueAt qs k := by simp [valueAt, List.find?_cons, e']
   rw [J2 e, b]; exact ih
theorem KV.any {kvs : List (κ × V)} {vs : List (κ × Value)} (r : KV kvs vs) (k : κ) : (kvs.any fun kv => decide (kv.1 = k)) = vs.any fun kv => decide (kv.1 = k) := by
 unfold KV at r
 induction r with
 | nil => rfl
 | cons h t ih => rw [List.any_cons, List.any_cons, ih, h.1]
theorem KV.repl {kvs : List (κ × V)} {vs : List (κ × Value)} (r : KV kvs vs) (k : κ) {y : V} {u : Value} (ry : RelV y u) :
  KV (kvs.map fun kv => if kv.1 = k then (kv.1, y) else kv) (vs.map fun kv => if kv.1 = k then (kv.1, u) else kv) := by
 unfold KV at r ⊢
 induction r with
 | nil => exact .nil
 | @cons p q ps qs h t ih =>
  rw [List.map_cons, List.map_cons]
  refine .cons ?_ ih
  obtain ⟨h1, h2⟩ := h
  by_cases e : p.1 = k
  ·rw [if_pos e, if_pos (h1.symm.trans e)]; exact ⟨h1, ry⟩
  ·rw [if_neg e, if_neg (fun z => e (h1.trans z))]; exact ⟨h1, h2⟩
theorem KV.put {kvs : List (κ × V)} {vs : List (κ × Value)} (r : KV kvs vs) (k : κ) {y : V} {u : Value} (ry : RelV y u) : KV (A9 kvs k y) (stored vs k u) := by
 unfold A9 stored
 rw [r.any k]
 by_cases e : (vs.any fun kv => decide (kv.1 = k)) = true
 ·rw [if_pos e, if_pos e]; exact r.repl k ry
 ·rw [if_neg e, if_neg e]; exact Paired.snoc r ⟨rfl, ry⟩
theorem KV.length {kvs : List (κ × V)} {vs : List (κ × Value)} (r : KV kvs vs) : kvs.length = vs.length := Paired.length r
end


theorem a1N {P : Program} {w : World} {k : Key} {u : Value} (r : RelV (kV k) u) : (F7 P w).is k u = true := by
 cases k with
 | inl i => obtain ⟨t, e⟩ := (show ∃ t, u = Value.int i t from r); subst e; exact a7Q P w i t
 | inr x => obtain ⟨t, e⟩ := (show ∃ t, u = Value.str x t from r); subst e; exact b28 P w x t
theorem a5w {P : Program} {w : World} : ∀ {ks : List Key} {us : List Value}, Vals (ks.map kV) us → ItemsAre (F7 P w) ks us
 | [], _, r => by rw [List.map_nil] at r; cases r; exact .nil
 | k :: ks, _, r => by
  rw [List.map_cons] at r
  cases r with
  | cons h t => exact .cons (a1N h) (a5w t)

noncomputable abbrev KT (H : Hp) : List (List Key × V) → List (List Key × Addr × Value) → Prop := Paired fun p q => p.1 = q.1 ∧ H q.2.1 = some (.tup (p.1.map kV)) ∧ RelV p.2 q.2.2
theorem KT.val {H : Hp} {kvs : List (List Key × V)} {xs : List (List Key × Addr × Value)} (r : KT H kvs xs) (k : List Key) : RelO (E2 kvs k) ((atKey xs k).map (·.2)) := by
 induction r with
 | nil => exact True.intro
 | @cons p q ps qs h t ih =>
  obtain ⟨h1, _, h2⟩ := h
  by_cases e : p.1 = k
  ·have e' : q.1 = k := h1.symm.trans e
   have b : atKey (q :: qs) k = some q.2 := by simp [atKey, List.find?_cons, e']
   rw [V4 e, b]; exact h2
  ·have e' : ¬ q.1 = k := fun z => e (h1.trans z)
   have b : atKey (q :: qs) k = atKey qs k := by simp [atKey, List.find?_cons, e']
   rw [J2 e, b]; exact ih
theorem KT.repl {H : Hp} {kvs : List (List Key × V)} {xs : List (List Key × Addr × Value)} (r : KT H kvs xs) (k : List Key) {y : V} {u : Value} (ry : RelV y u) :
  KT H (kvs.map fun kv => if kv.1 = k then (kv.1, y) else kv) (xs.map (putAt k u)) := by
 induction r with
 | nil => exact .nil
 | @cons p q ps qs h t ih =>
  rw [List.map_cons, List.map_cons]
  refine .cons ?_ ih
  obtain ⟨h1, h2, h3⟩ := h
  unfold putAt
  by_cases e : p.1 = k
  ·rw [if_pos e, if_pos (h1.symm.trans e)]; exact ⟨h1, h2, ry⟩
  ·rw [if_neg e, if_neg (fun z => e (h1.trans z))]; exact ⟨h1, h2, h3⟩
theorem KT.put {H : Hp} {kvs : List (List Key × V)} {xs : List (List Key × Addr × Value)} (r : KT H kvs xs) (k : List Key) {b : Addr} {y : V} {u : Value} (hb : H b = some (.tup (k.map kV))) (ry : RelV y u) :
  KT H (A9 kvs k y) (storedH xs k b u) := by
 have e : (kvs.any fun kv => decide (kv.1 = k)) = (atKey xs k).isSome := by
  rw [a1w, (r.val k).isSome_eq, Option.isSome_map]
 unfold A9 storedH
 rw [e]
 by_cases q : (atKey xs k).isSome = true
 ·rw [if_pos q, if_pos q]; exact r.repl k ry
 ·rw [if_neg q, if_neg q]; exact Paired.snoc r ⟨rfl, hb, ry⟩
theorem KT.keeps {H H' : Hp} {kvs : List (List Key × V)} {xs : List (List Key × Addr × Value)} (r : KT H kvs xs) (ht : ∀ b ys, H b = some (.tup ys) → H' b = some (.tup ys)) : KT H' kvs xs :=
 Paired.mapP r fun _ _ z => ⟨z.1, ht _ _ z.2.1, z.2.2⟩

section
variable {P : Program} {w : World} {H : Hp} {h : Heap} {a : Addr}
theorem a6q {u : HO} (ok : HOk P w H h) (e : Rd H a u) : ObjOk P w H h a u := e.ok ok
theorem a27 {kvs : List (Key × V)} (ok : HOk P w H h) (e : Rd H a (.dK kvs)) : kvs.length ≤ sizeLine ∧ (a == sysModules) = false ∧ ∃ vs, KV kvs vs ∧ h.DictOf (F7 P w) a vs :=
 show ObjOk P w H h a (.dK kvs) from a6q ok e
theorem a5z {kvs : List (Key × V)} (ok : HOk P w H h) (e : H a = some (.dK kvs)) : kvs.length ≤ sizeLine ∧ (a == sysModules) = false ∧ ∃ vs, KV kvs vs ∧ h.DictOf (F7 P w) a vs := a27 ok (.inl e)
theorem a2a {ks : List Key} (ok : HOk P w H h) (e : H a = some (.tup (ks.map kV))) : (tupleKind (F7 P w)).is h ks a := by
 obtain ⟨_, its, r, o, h1, h2, n, h3⟩ := (show ObjOk P w H h a (.tup (ks.map kV)) from ok a _ e)
 exact ⟨o, its.toArray, n, h1, h2, h3, by simpa using a5w r⟩
theorem a3F {kvs : List (List Key × V)} (ok : HOk P w H h) (e : Rd H a (.dT kvs)) : kvs.length ≤ sizeLine ∧ (a == sysModules) = false ∧
  ∃ xs, KT H kvs xs ∧ h.DictOfH (tupleKind (F7 P w)) a xs := by
 obtain ⟨z, y, xs, r, o, es, ep, h1, h2, h3, h4, h5⟩ := (show ObjOk P w H h a (.dT kvs) from a6q ok e)
 refine ⟨z, y, xs, r, o, es, ep, h1, h2, h3, h4, fun x hx => ?_, h5⟩
 have all : ∀ {l : List (List Key × V)} {m : List (List Key × Addr × Value)}, KT H l m → ∀ x ∈ m, (tupleKind (F7 P w)).is h x.1 x.2.1 := by
  intro l m q
  induction q with
  | nil => intro x hx; exact nomatch hx
  | @cons p q ps qs hq t ih =>
   intro x hx
   rcases List.mem_cons.mp hx with e | hx
   ·subst e
    exact a2a ok (by rw [← hq.1]; exact hq.2.1)
   ·exact ih x hx
 exact all r x hx
theorem b3v {kvs : List (List Key × V)} (ok : HOk P w H h) (e : H a = some (.dT kvs)) : kvs.length ≤ sizeLine ∧ (a == sysModules) = false ∧
  ∃ xs, KT H kvs xs ∧ h.DictOfH (tupleKind (F7 P w)) a xs := a3F ok (.inl e)
end

noncomputable def DGet (H : Hp) (a : Addr) (y : V) (r : Option V) : Prop :=
 (∃ kvs k, Rd H a (.dK kvs) ∧ y = kV k ∧ r = E2 kvs k) ∨ ∃ kvs k b, Rd H a (.dT kvs) ∧ y = .ref b ∧ H b = some (.tup (k.map kV)) ∧ r = E2 kvs k
noncomputable def DPut (H : Hp) (a : Addr) (y v : V) (H' : Hp) : Prop :=
 (∃ kvs k, H a = some (.dK kvs) ∧ y = kV k ∧ kvs.length < sizeLine ∧ H' = upd H a (.dK (A9 kvs k v))) ∨
 ∃ kvs k b, H a = some (.dT kvs) ∧ y = .ref b ∧ H b = some (.tup (k.map kV)) ∧ kvs.length < sizeLine ∧ H' = upd H a (.dT (A9 kvs k v))
theorem DGet.k {H : Hp} {a : Addr} {kvs : List (Key × V)} {k : Key} (e : H a = some (.dK kvs)) : DGet H a (kV k) (E2 kvs k) := .inl ⟨kvs, k, .inl e, rfl, rfl⟩
theorem DPut.k {H : Hp} {a : Addr} {kvs : List (Key × V)} {k : Key} {v : V} (e : H a = some (.dK kvs)) (hl : kvs.length < sizeLine) : DPut H a (kV k) v (upd H a (.dK (A9 kvs k v))) := .inl ⟨kvs, k, e, rfl, hl, rfl⟩
section
variable {X : Cx} {pins : List (Addr × Obj)} {σ : St} {H : Hp} {s : Shared} {a : Addr} {y v : V} {u r : Value} {o : Option V} {A : Around} {E : Value → Shared → Prop}

theorem Inv.big (I : Inv X pins σ H s) : sysModules < s.heap.objs.size := by
 have h : mainGlobals < s.heap.objs.size := (I.mod.glob.keeps I.bk).lt
 exact Nat.lt_trans (by decide) h

theorem a88 {Q : Value → Shared → Prop} (hu : A.units + 1 < cLine) (I : Inv X pins σ H s) (g : DGet H a y (some v)) (ry : RelV y u) (h : ∀ w' s', Inv X pins σ H s' → RelV v w' → Q w' s') :
  wpAny (model X.prog X.w) A (getItem (.ref a) u) Q E s := by
 rcases g with ⟨kvs, k, e, ey, l⟩ | ⟨kvs, k, b, e, ey, eb, l⟩
 ·subst ey
  obtain ⟨z, hd, vs, rel, dd⟩ := a27 I.hok e
  obtain ⟨w', hw, rw'⟩ := RelO.some_of (v := v) (o := valueAt vs k) (by rw [l]; exact rel.val k)
  exact wpAny_getItem_of (a1N ry) dd.mapOf hw (h w' _ (I.tok _) rw')
 ·subst ey
  cases (show u = Value.ref b from ry)
  obtain ⟨z, hd, xs, rel, dd⟩ := a3F I.hok e
  obtain ⟨w', hw, rw'⟩ := RelO.some_of (v := v) (o := (atKey xs k).map (·.2)) (by rw [l]; exact rel.val k)
  obtain ⟨p, hp, hp2⟩ := Option.map_eq_some_iff.mp hw
  refine wpAny_getItem_heap (tupleKind_room_in1 hu) (a2a I.hok eb) dd hp ?_
  rw [hp2]
  exact h w' _ (I.tok _) rw'
theorem a3b {h' : Heap} {t' : Nat} {ob : HO} (I : Inv X pins σ H s) (mu : Mut (H a)) (hs : Heap.SameBut a s.heap h') (he : ∃ q, h'.get? a = some q) (new : ObjOk X.prog X.w (upd H a ob) h' a ob) :
  Inv X pins σ (upd H a ob) { s with heap := h', toks := t' } :=
 I.write (x := a) (e := a) mu (.inl rfl) (fun b q hb z => (hs.2 b hb).trans z) he new
theorem a5P {P : Program} {w : World} {H' : Hp} {h' : Heap} {kvs : List (Key × V)} {vs : List (Key × Value)} (z : kvs.length ≤ sizeLine) (hd : (a == sysModules) = false) (rel : KV kvs vs) (dd : h'.DictOf (F7 P w) a vs) :
  ObjOk P w H' h' a (.dK kvs) := ⟨z, hd, vs, rel, dd⟩
theorem a7D {H' : Hp} {Q : Unit → Shared → Prop} (hu : A.units + 1 < cLine) (I : Inv X pins σ H s) (g : DPut H a y v H') (ry : RelV y u) (rv : RelV v r) (h : ∀ s', Inv X pins σ H' s' → Q () s') :
  wpAny (model X.prog X.w) A (setItem (.ref a) u r) Q E s := by
 rcases g with ⟨kvs, k, e, ey, l, eH⟩ | ⟨kvs, k, b, e, ey, eb, l, eH⟩
 ·subst ey eH
  obtain ⟨z, hd, vs, rel, dd⟩ := a5z I.hok e
  have hz : vs.length ≤ sizeLine := by rw [← rel.length]; exact z
  have hl : (A9 kvs k v).length ≤ sizeLine := by have := a3e kvs k v; omega
  refine wpAny_setItem_pairs (hsz := hz) (a1N ry) dd fun h' dd' hs => h _ ?_
  have he : ∃ q, h'.get? a = some q := let ⟨q, _, _, hq, _⟩ := dd'; ⟨q, hq⟩
  exact a3b I (by rw [e]; exact True.intro) hs he (a5P hl hd (rel.put k rv) dd')
 ·subst ey eH
  cases (show u = Value.ref b from ry)
  obtain ⟨z, hd, xs, rel, dd⟩ := b3v I.hok e
  have hz : xs.length ≤ sizeLine := by rw [← Paired.length rel]; exact z
  have hl : (A9 kvs k v).length ≤ sizeLine := by have := a3e kvs k v; omega
  refine wpAny_setItem_heap (hsz := hz) (tupleKind_room_in1 hu) (a2a I.hok eb) dd fun h' dd' hs => h _ ?_
  obtain ⟨q, es, ep, hq, h2, h3, h4, _, h5⟩ := dd'
  refine a3b I (by rw [e]; exact True.intro) hs ⟨q, hq⟩ ⟨hl, hd, _, (rel.put k eb rv).keeps fun c ys ec => ?_, q, es, ep, hq, h2, h3, h4, h5⟩
  rw [u5 (b1v ec e (fun z => nomatch z))]
  exact ec
end

section
variable {X : Cx} {pins : List (Addr × Obj)} {σ : St} {H : Hp} {s : Shared} {a : Addr} {kvs : List (Key × V)} {k : Key} {u : Value} {A : Around} {E : Value → Shared → Prop}
end


noncomputable def a6a (i : Expr) : Prop := ∀ ov iv, subscripted i false ov iv = operate [ov, iv] (getItem ov iv)
theorem a82 {prog : Program} {w : World} {A : Around} {E : Value → Shared → Prop} {s : Shared} {env : Env} {value slice : Expr} {pos : Pos} {T id : String} {Q : Value → Shared → Prop}
  (hl : typeLookup (.type T) "__getitem__" = pure (some (.builtin id))) (hs : a6a slice)
  (h : wpAny (model prog w) A (eval value env) (fun o s₁ => wpAny (model prog w) A (eval slice env) (fun i s₂ => s₂.TypeIs o T ∧ wpAny (model prog w) A (getItem o i) Q E s₂) E s₁) E s) :
  wpAny (model prog w) A (eval (.Subscript value slice pos) env) Q E s := by
 refine Subscript_ (wpAny_mono h (fun o s₁ h₁ => wpAny_mono h₁ (fun i s₂ h₂ => ?_) fun _ _ x => x) fun _ _ x => x)
 obtain ⟨hT, h₂⟩ := h₂
 unfold subscriptTail
 refine wpAny_bind ?_
 rw [getitemInPython_of_ne hT.not_modules]
 refine wpAny_bind (wpAny_specialOf hT hl ?_)
 have fin : wpAny (model prog w) A (subscripted slice false o i) (fun r s₃ => wpAny (model prog w) A (letTemporaryGo value o r >>= fun _ => pure r) Q E s₃) E s₂ := by
  rw [hs o i]
  exact wpAny_operating (wpAny_mono h₂ (fun r s₃ h₃ => wpAny_bind (wpAny_letTemporaryGo (wpAny_pure h₃))) fun _ _ x => x)
 first
  | exact wpAny_pure (wpAny_bind fin)
  | exact wpAny_bind (wpAny_pure (wpAny_bind fin))
  | exact wpAny_bind fin

theorem b3f {X : Cx} {pins : List (Addr × Obj)} {σ : St} {H : Hp} {s : Shared} {a : Addr} {y : V} {o : Option V} (I : Inv X pins σ H s) (g : DGet H a y o) : s.TypeIs (.ref a) "dict" := by
 rcases g with ⟨kvs, k, e, _, _⟩ | ⟨kvs, k, b, e, _, _, _⟩
 ·obtain ⟨_, _, vs, _, dd⟩ := a27 I.hok e
  exact dd.typeIs
 ·obtain ⟨_, _, xs, _, dd⟩ := a3F I.hok e
  exact dd.typeIs
noncomputable def b0j (td ty : TE) : TE := fun σ H Q => td σ H fun x H1 => ty σ H1 fun y H2 => ∃ a v, x = .ref a ∧ DGet H2 a y (some v) ∧ Q v H2
noncomputable def a7K (td ty tv : TE) : TS := fun D σ H => tv σ H fun v H1 => td σ H1 fun x H2 => ty σ H2 fun y H3 => ∃ a H4, x = .ref a ∧ DPut H3 a y v H4 ∧ D.nx σ H4
section
variable {X : Cx} {o i e value : Expr} {pos pos' tpos : Pos} {td ty tv : TE}
theorem a77 (hu : X.A.units + 1 < cLine) (ho : PE X o td) (hi : PE X i ty) (hs : a6a i) : PE X (.Subscript o i pos) (b0j td ty) := by
 intro pins s σ H Q I h
 refine a82 PySem.F.slot_dict_getitem.lookup hs (thn (ho pins s σ H _ I h) fun u s1 ⟨x, H1, I1, rx, q1⟩ => thn (hi pins s1 σ H1 _ I1 q1) fun iv s2 ⟨y, H2, I2, ry, a, v, ex, g, q2⟩ => ?_)
 subst ex
 obtain rfl : u = Value.ref a := rx
 exact ⟨b3f I2 g, a88 hu I2 g ry fun w' s3 I3 rw' => ⟨v, H2, I3, rw', q2⟩⟩
theorem b2g (hu : X.A.units + 1 < cLine) (ho : PE X o td) (hi : PE X i ty) (hv : PE X value tv) (hs : swapsWith value (some (.Subscript o i pos')) pos.line X.env = pure false) :
  PS X (.Assign [.Subscript o i pos'] value pos) (a7K td ty tv) := by
 intro pins s σ H D I h
 refine wpAny_Assign_Subscript (thn (hv pins s σ H _ I h) fun r s1 ⟨v, H1, I1, rv, q1⟩ => thn (ho pins s1 σ H1 _ I1 q1) fun u s2 ⟨x, H2, I2, rx, q2⟩ => thn (hi pins s2 σ H2 _ I2 q2) fun iv s3 ⟨y, H3, I3, ry, a, H4, ex, g, q3⟩ => ?_) hs
 subst ex
 obtain rfl : u = Value.ref a := rx
 exact a7D hu I3 g ry rv fun s4 I4 => ⟨σ, H4, I4, q3⟩
end


theorem a7M {P : Program} {w : World} {H : Hp} (h : Heap) (hb : sysModules < h.objs.size) : ObjOk P w H (h.push { cls := .type "dict", data := .dict #[] }) h.objs.size (.dK []) :=
 ⟨Nat.zero_le _, beq_eq_false_iff_ne.mpr (Ne.symm (Nat.ne_of_lt hb)), [], .nil, Heap.DictOf.new h⟩
section
variable {X : Cx} {pos : Pos}
end

noncomputable def a3W : List (TE × TE) → St → Hp → (List (V × V) → Hp → Prop) → Prop
 | [], _, H, Q => Q [] H
 | (tk, tv) :: r, σ, H, Q => tk σ H fun x H1 => tv σ H1 fun y H2 => a3W r σ H2 fun ps H3 => Q ((x, y) :: ps) H3
noncomputable abbrev VV : List (V × V) → List (Value × Value) → Prop := Paired fun p q => RelV p.1 q.1 ∧ RelV p.2 q.2
noncomputable def PPs (X : Cx) (pos : Pos) (keys : List (Option Expr)) (values : List Expr) (trs : List (TE × TE)) : Prop :=
 ∀ (pins : List (Addr × Obj)) (s : Shared) (σ : St) (H : Hp) (Q : List (V × V) → Hp → Prop), Inv X pins σ H s → a3W trs σ H Q →
  wpAny (model X.prog X.w) X.A (evalPairs (pairTrees keys values X.env pos)) (fun vs s' => ∃ ps H', Inv X pins σ H' s' ∧ VV ps vs ∧ Q ps H') X.xe s
theorem b02 {X : Cx} {pos : Pos} : PPs X pos [] [] [] := fun pins s σ H Q I h => pairTrees_nil_walk ⟨[], H, I, .nil, h⟩
theorem a1A {X : Cx} {pos : Pos} {k v : Expr} {ks : List (Option Expr)} {vs : List Expr} {tk tv : TE} {trs : List (TE × TE)} (hk : PE X k tk) (hv : PE X v tv) (hr : PPs X pos ks vs trs) :
  PPs X pos (some k :: ks) (v :: vs) ((tk, tv) :: trs) := fun pins s σ H Q I h =>
 pairTrees_cons_walk (thn (hk pins s σ H _ I h) fun u s1 ⟨x, H1, I1, rx, q1⟩ => thn (hv pins s1 σ H1 _ I1 q1) fun w2 s2 ⟨y, H2, I2, ry, q2⟩ =>
  thn (hr pins s2 σ H2 _ I2 q2) fun ws s3 ⟨ps, H3, I3, rel, q3⟩ => ⟨(x, y) :: ps, H3, I3, .cons ⟨rx, ry⟩ rel, q3⟩)

noncomputable def Y2 (kvs more : List (Key × V)) : List (Key × V) := more.foldl (fun acc kv => A9 acc kv.1 kv.2) kvs
theorem KV.merge : ∀ {more : List (Key × V)} {rs : List (Key × Value)} {kvs : List (Key × V)} {vs : List (Key × Value)}, KV more rs → KV kvs vs → KV (Y2 kvs more) (merged vs rs) := by
 intro more rs kvs vs r
 unfold KV at r
 induction r generalizing kvs vs with
 | nil => intro q; exact q
 | @cons p q ps qs h t ih =>
  intro r0
  have e : KV (A9 kvs p.1 p.2) (stored vs q.1 q.2) := by
   have := r0.put p.1 h.2
   rw [← h.1]; exact this
  exact ih e
theorem a64 : ∀ (more kvs : List (Key × V)), (Y2 kvs more).length ≤ kvs.length + more.length
 | [], kvs => by show kvs.length ≤ kvs.length + 0; omega
 | p :: r, kvs => by
  have h1 := a64 r (A9 kvs p.1 p.2)
  have h2 := a3e kvs p.1 p.2
  show (Y2 (A9 kvs p.1 p.2) r).length ≤ _
  rw [List.length_cons]; omega
theorem a4r {P : Program} {w : World} : ∀ {kvs : List (Key × V)} {ws : List (Value × Value)}, VV (kvs.map fun kv => (kV kv.1, kv.2)) ws → ∃ rs, Carries (F7 P w) ws rs ∧ KV kvs rs
 | [], _, r => by rw [List.map_nil] at r; cases r; exact ⟨[], True.intro, .nil⟩
 | p :: kvs, _, r => by
  rw [List.map_cons] at r
  cases r with
  | @cons a b as bs h t =>
   obtain ⟨rs, c, q⟩ := a4r (P := P) (w := w) t
   obtain ⟨b1, b2⟩ := b
   exact ⟨(p.1, b2) :: rs, ⟨a1N h.1, rfl, c⟩, .cons ⟨rfl, h.2⟩ q⟩
noncomputable def a7E (trs : List (TE × TE)) : TE := fun σ H Q => ∀ p, H p = none → a3W trs σ (upd H p (.dK [])) fun ps H2 => H2 p = some (.dK []) ∧ ∃ kvs : List (Key × V), ps = kvs.map (fun kv => (kV kv.1, kv.2)) ∧ kvs.length ≤ 15 ∧ Q (.ref p) (upd H2 p (.dK (Y2 [] kvs)))
theorem b2O {X : Cx} {pos : Pos} {keys : List (Option Expr)} {values : List Expr} {trs : List (TE × TE)} (h : PPs X pos keys values trs) (hall : keys.all (·.isSome) = true) (hl : keys.length = values.length) (h0 : keys ≠ [])
  (h15 : keys.length ≤ 15) : PE X (.Dict keys values pos) (a7E trs) := by
 intro pins s σ H Q I q
 have hn := I.hok.fresh (Nat.le_refl s.heap.objs.size)
 have I1 := I.laid (a := s.heap.objs.size) (o := .dK []) (h' := s.heap.push { cls := .type "dict", data := .dict #[] }) (t' := s.toks) (fun _ _ q => Heap.get?_push_of_some _ q) (Nat.le_refl _) (a7M s.heap I.big)
 refine wpAny_Dict_walk (knd := F7 X.prog X.w) hall hl h0 h15 (thn (h pins _ σ _ _ I1 (q _ hn)) fun ws s2 ⟨ps, H2, I2, rel, e, kvs, ep, lk, q2⟩ => ?_)
 subst ep
 obtain ⟨rs, c, rk⟩ := a4r (P := X.prog) (w := X.w) rel
 obtain ⟨z, hd, vs0, r0, dd⟩ := a5z I2.hok e
 cases r0
 refine ⟨rs, c, dd, fun h' dd' hs => ⟨.ref s.heap.objs.size, _, ?_, rfl, q2⟩⟩
 have hz : (Y2 [] kvs).length ≤ sizeLine := by
  have h1 := a64 kvs []
  rw [List.length_nil] at h1
  rw [sizeLine_eq]; omega
 have he : ∃ q, h'.get? s.heap.objs.size = some q := let ⟨q, _, _, hq, _⟩ := dd'; ⟨q, hq⟩
 exact a3b I2 (by rw [e]; exact True.intro) hs he (a5P hz hd (rk.merge .nil) dd')


section
variable {X : Cx} {pins : List (Addr × Obj)} {σ : St} {H : Hp} {s : Shared} {a : Addr} {y d : V} {u r : Value} {o : Option V} {A : Around} {E : Value → Shared → Prop}
end

section
variable {X : Cx} {o e f : Expr} {apos cpos : Pos} {td ty tx : TE}
end

section
variable {X : Cx} {pins : List (Addr × Obj)} {σ : St} {H : Hp} {s : Shared} {a : Addr} {kvs : List (Key × V)} {A : Around} {E : Value → Shared → Prop}
end


section
variable {X : Cx} {pins : List (Addr × Obj)} {σ : St} {H : Hp} {s : Shared} {a : Addr} {y : V} {u : Value} {A : Around} {E : Value → Shared → Prop}
end
end L2

namespace Att
open PySem PySem.W PySem.Calls PyProof.Rows

theorem b2e {P : Params} {h : Heap} : ∀ (ns : List Int) (vs : List Value), WellAll P h vs (ns.map WData.int) → IntsAre vs ns := by
 intro ns
 induction ns with
 | nil =>
  intro vs w
  rw [List.map_nil] at w
  cases w
  exact .nil
 | cons n ns ih =>
  intro vs w
  rw [List.map_cons] at w
  cases w with
  | cons a b =>
   cases a
   exact .cons _ _ (ih _ b)

theorem b16 {l : OpenLaw} {n : Nat} (hn : l.most = some n) {P : Params} {h : Heap} {args : List WData} {vals : List Value}
  (hpre : l.row.toRowW.claim.pre args = true) (hwl : WellAll P h vals args) :
  ∃ a vs ns, vals = [Value.ref a] ∧ args = [WData.list (ns.map WData.int)] ∧ h.get? a = some { cls := .type "list", data := .seq vs.toArray } ∧ IntsAre vs ns ∧ ns.length ≤ n := by
 have hsh : WShape.hasAll [] args [.list .int] = true := (pre_splitW hpre).1
 have hc : l.pre.holds [] { args := args } = true := (pre_splitW hpre).2
 obtain ⟨d, r, rfl, h1, h2⟩ := hasAllW_cons hsh
 obtain rfl := hasAllW_nil h2
 obtain ⟨xs, rfl, h3⟩ := hasW_list h1
 obtain ⟨ns, rfl⟩ := items_int h3
 have hlen : ns.length ≤ n := by
  unfold OpenLaw.pre at hc
  have h4 : (WTm.not (.lt (.lit (.int (n : Int))) (.len (.arg 0)))).holds [] { args := [.list (ns.map .int)] } = true := by
   have h4 := (holds_andW hc).1
   rw [hn] at h4
   exact h4
  have h5 := condW_of h4 (w_not (w_lt w_lit (w_len_list (w_arg rfl))))
  rw [List.length_map] at h5
  refine Nat.le_of_not_lt fun q => ?_
  have q' : (n : Int) < ((ns.length : Nat) : Int) := by omega
  first
   | (rw [decide_eq_true q'] at h5; exact absurd h5 (by decide))
   | (simp at h5; omega)
 cases hwl with
 | cons w1 w2 =>
  cases w2
  cases w1 with
  | list ho hall => exact ⟨_, _, ns, rfl, rfl, ho, b2e ns _ hall, hlen⟩

theorem a9o (l : OpenLaw) (args : List WData) : l.row.toRowW.claim.post args (.bool true) args = true :=
 postW_of (r := l.row.toRowW) (X := (true == true))
  (show WShape.has [] (.bool true) .bool = true by first | rfl | decide | simp [WShape.has, WShape.arms, WShape.armsAll])
  (show (WTm.eq .res (.lit (.bool true))).value [] { args := args, res := some (.bool true), after := args } = some (.bool (true == true)) from w_eq_bool (w_res rfl) w_lit) rfl

theorem attach_call {l : OpenLaw} {n : Nat} {q : Program} {loose : List Str} {XP : (Str → Option Value) → Heap → Prop} {YP : World → Heap → Prop} {d : DefRec}
  (hn : l.most = some n) (hdf : d.params.defaults = [])
  (call : ∀ (w : World) (s₀ s₁ : Shared) (mg mb : Str → Option Value) (fa : Addr) (o : Obj) (pm cd doc : Value) (a : Addr) (vs : List Value) (ns : List Int),
   Ground q loose [] XP w s₀ mg mb s₁.heap → YP w s₁.heap →
   s₁.heap.get? fa = some o → o.data = .func (docDef d.name d.params d.body d.scope pm cd doc) → s₁.heap.CodeRec cd d.name → mg d.name = some (.ref fa) →
   s₁.heap.get? a = some { cls := .type "list", data := .seq vs.toArray } → IntsAre vs ns → ns.length ≤ n → s₁.gens = #[] →
   codeAny (model l.prog w) callerA (.call (.ref fa) ⟨[.ref a], []⟩) (fun r s' => r = .ok (.ret (.bool true)) ∧ OldK s₁.heap s'.heap ∧ s'.os = s₁.os ∧ AllBare s'.gens) s₁) :
  WalkO q loose XP YP l.row.toRowW d [] (fun f vs => PySem.call f vs) := by
 intro w s₀ s₁ mg mb G Y fa o pm cd doc dV kV ho hd hcd hD hmg hg args vals as hpre hlay hrd hwl hlo
 obtain rfl : dV = .none := Dflts.none hD hdf
 obtain rfl : kV = .none := Dflts.noKw hD
 obtain ⟨a, vs, ns, rfl, rfl, hobj, hints, hlen⟩ := b16 hn hpre hwl
 refine enter_call (codeAny_mono (call w s₀ s₁ mg mb fa o pm cd doc a vs ns G Y ho (fd_plain hd) hcd hmg hobj hints hlen hg) fun r s' hq => ?_)
 obtain ⟨rfl, h2, h3, h4⟩ := hq
 exact ⟨.inl ⟨.bool true, .bool true, [], rfl, fun _ => rfl, .bool true, a9o l _, fun _ => ⟨List.Pairwise.nil, fun _ hm => (nomatch hm)⟩⟩, h2, h3, h4⟩

section
variable {prog : Program} {w : World} {A : Around} {E : Value → Shared → Prop} {s : Shared} {K : Frag}

end
end Att

namespace L2
open PySem PySem.Spec PyProof.Rows

theorem a41 : ∀ {vs : List Value} {ns : List Int}, IntsAre vs ns → Vals (ns.map V.int) vs
 | _, _, .nil => .nil
 | _, _, .cons n t h => .cons ⟨t, rfl⟩ (a41 h)

noncomputable def a4e (H : Hp) : Prop := ∀ b, H b = none ∨ ∃ o xs, H b = some (.frz o (.lst xs))

theorem b1D {P : Program} {w : World} {K : PySem.W.Frag} {mg mb : Str → Option Value} {CX : CXT} {k : Nat} {fa a : Addr} {fd : FuncData} {x : Str} {sp : Sp} {s₁ : Shared} {vs : List Value} {ns : List Int}
  (KX : K.In s₁.heap) (hns : s₁.heap.Ns mainGlobals mg) (hb : s₁.heap.Ns builtinsNs mb) (hbb : ∀ x : Str, x ≠ "__name__" → mb x = bootBuiltins x) (hlim : s₁.heap.NoLimit) (hg : s₁.gens = #[])
  (ha : s₁.heap.get? a = some { cls := .type "list", data := .seq vs.toArray }) (hi : IntsAre vs ns) (hl : ns.length ≤ sizeLine) (hr : Room k callerA)
  (F : ∀ base : Heap, K.In base → base.Ns mainGlobals mg → FnOk P w K mg base CX k fa fd [x] sp) (hbind : ∀ (s : Shared) (u : Value), BindsTo s fd ⟨[u], []⟩ [(x, u)])
  (hsp : ∀ H : Hp, a4e H → SqL K H a (ns.map V.int) → sp [.ref a] H (fun v _ => v = .bl true) fun _ _ _ => False)
  (hCX : ∀ H e s', CX [] H s₁ (fun _ _ _ => False) e s' → False) :
  codeAny (model P w) callerA (.call (.ref fa) ⟨[.ref a], []⟩) (fun r s' => r = .ok (.ret (.bool true)) ∧ OldK s₁.heap s'.heap ∧ s'.os = s₁.os ∧ AllBare s'.gens) s₁ := by
 have rv := a41 hi
 have lenV := hi.length
 have core : ∀ H : Hp, a4e H → SqL K H a (ns.map V.int) → HOk P w H s₁.heap → (∀ b, H b ≠ none → b = a) → (H a ≠ none → K.lookup a = none) →
   codeAny (model P w) callerA (.call (.ref fa) ⟨[.ref a], []⟩) (fun r s' => r = .ok (.ret (.bool true)) ∧ OldK s₁.heap s'.heap ∧ s'.os = s₁.os ∧ AllBare s'.gens) s₁ := by
  intro H hO hS hok hA hK
  have base_of : ∀ {b : Addr} {o : Obj}, s₁.heap.get? b = some o → H b = none → (Q5 s₁.heap H).get? b = some o := fun e n => a8M e n
  have noA : ∀ {b : Addr} {o : Obj} {es : Array DictEntry} {ep : Nat}, s₁.heap.get? b = some o → o.data = .dict es ep → H b = none := fun {b o es ep} e d => by
   cases q : H b with
   | none => rfl
   | some u =>
    have e' : b = a := hA b (by rw [q]; simp)
    subst e'
    rw [ha] at e; cases e
    have d' : Data.seq vs.toArray _ = Data.dict es ep := d
    cases d'
  have nsK : ∀ {b : Addr} {m : Str → Option Value}, s₁.heap.Ns b m → (Q5 s₁.heap H).Ns b m := fun {b m} ⟨o, es, ep, e, d, r⟩ => ⟨o, es, ep, base_of e (noA e d), d, r⟩
  have hKb : K.In (Q5 s₁.heap H) := fun b o e => base_of (KX b o e) (by
   cases q : H b with
   | none => rfl
   | some u =>
    have e' : b = a := hA b (by rw [q]; simp)
    subst e'
    rw [hK (by rw [q]; simp)] at e; cases e)
  have hM : Mod K mg (Q5 s₁.heap H) := ⟨hKb, nsK hns, ⟨mb, nsK hb, hbb⟩, let ⟨mc, h1, h2⟩ := hlim; ⟨mc, nsK h1, h2⟩⟩
  have e0 : Env0 P w K mg (Q5 s₁.heap H) callerA [] s₁ H := ⟨rfl, hM, fun b o e => b1O e, Nat.le_of_eq (b3L _ _), trivial, fun b hb => absurd (show b ∈ ([] : List Addr) from hb) (by simp), hok, .of_eq hg⟩
  refine codeAny_mono ((F _ hKb (nsK hns)).run callerA [] s₁ H ⟨[.ref a], []⟩ [.ref a] [.ref a] _ _ hr e0 (hbind s₁ (.ref a)) (.cons rfl .nil) (hsp H hO hS)) fun r s' h => ?_
  cases r with
  | error e => exact (hCX H e s' h).elim
  | ok fl =>
   cases fl with
   | next => exact False.elim h
   | brk => exact False.elim h
   | cont => exact False.elim h
   | ret u =>
    obtain ⟨v, H', os, bare, un, hok', r', q⟩ := h
    have q' : v = .bl true := q
    subst q'
    obtain rfl : u = Value.bool true := r'
    refine ⟨rfl, OldK.of_keep fun b o e => ?_, os, bare⟩
    cases q : H b with
    | none => exact un.keep b o e q (by intro z; exact absurd (show b ∈ ([] : List Addr) from z) (by simp)) (by simp)
    | some u =>
     rcases hO b with z | ⟨ob, xs, z⟩
     ·rw [q] at z; cases z
     ·have z2 := un.frzs b ob _ z
      obtain ⟨e1, _⟩ := hok b _ z
      obtain ⟨e2, _⟩ := hok' b _ z2
      rw [e] at e1; cases e1
      exact e2
 cases hk : K.lookup a with
 | some o =>
  have e := KX a o hk
  rw [ha] at e
  cases e
  refine core (fun _ => none) (fun _ => .inl rfl) (.inr ⟨_, vs.toArray, _, hk, rfl, rfl, rfl, by rw [List.size_toArray, lenV]; exact hl, by simpa using rv⟩) (fun b u z => by have z' : (none : Option HO) = some u := z; cases z') (fun b z => absurd rfl z) fun z => absurd rfl z
 | none =>
  refine core (fun b => if b = a then some (.frz { cls := .type "list", data := .seq vs.toArray } (.lst (ns.map V.int))) else none) (fun b => ?_) (.inl (.inr ⟨{ cls := .type "list", data := .seq vs.toArray }, if_pos rfl⟩)) (fun b u z => ?_) (fun b z => ?_) fun _ => hk
  ·by_cases hb : b = a
   ·exact .inr ⟨_, _, if_pos hb⟩
   ·exact .inl (if_neg hb)
  ·by_cases hb : b = a
   ·have z' := (if_pos hb).symm.trans z
    cases z'
    subst hb
    exact ⟨ha, by rw [List.length_map]; exact hl, vs, _, rv, ha⟩
   ·have z' := (if_neg hb).symm.trans z
    cases z'
  ·by_cases hb : b = a
   ·exact hb
   ·exact absurd (if_neg hb) z
end L2

namespace L2
open PySem PySem.Spec PyProof.Rows

theorem walk_of {l : PySem.W.OpenLaw} {n k : Nat} {q : Program} {loose : List Str} {XP : (Str → Option Value) → Heap → Prop} {YP : World → Heap → Prop} {d : DefRec} {K : Params → PySem.W.Frag} {CX : World → CXT} {sp : World → Sp} {x : Str}
  (hn : l.most = some n) (hn2 : n ≤ sizeLine) (hdf : d.params.defaults = []) (hr : Room k callerA)
  (hY : ∀ (w : World) (h : Heap), YP w h → (K w.params).In h)
  (F : ∀ (w : World) (mg : Str → Option Value) (fa : Addr) (h : Heap), (K w.params).In h → h.Ns mainGlobals mg → mg d.name = some (.ref fa) →
   ∃ fd : FuncData, (∀ (s : Shared) (u : Value), BindsTo s fd ⟨[u], []⟩ [(x, u)]) ∧
    ∀ base : Heap, (K w.params).In base → base.Ns mainGlobals mg → FnOk l.prog w (K w.params) mg base (CX w) k fa fd [x] (sp w))
  (hsp : ∀ (w : World) (H : Hp) (a : Addr) (ns : List Int), ns.length ≤ n → a4e H → SqL (K w.params) H a (ns.map V.int) → sp w [.ref a] H (fun v _ => v = .bl true) fun _ _ _ => False)
  (hCX : ∀ (w : World) (H : Hp) (s : Shared) (e : Value) (s' : Shared), CX w [] H s (fun _ _ _ => False) e s' → False) :
  PySem.W.WalkO q loose XP YP l.row.toRowW d [] (fun f vs => PySem.call f vs) := by
 refine Att.attach_call hn hdf fun w s₀ s₁ mg mb fa o pm cd doc a vs ns G Y ho hd hcd hmg hobj hints hlen hg => ?_
 have KX := hY w _ Y
 obtain ⟨fd, hb, hF⟩ := F w mg fa _ KX G.T.g hmg
 exact b1D KX G.T.g G.T.b G.T.builtins G.T.nolimit hg hobj hints (Nat.le_trans hlen hn2) hr hF hb (fun H hO hS => hsp w H a ns hlen hO hS) fun H e s' => hCX w H s₁ e s'
end L2


namespace L2
open PySem PySem.Spec PyProof.Rows

noncomputable def S7 (s : Stmt) : Arguments := match s with
 | .FunctionDef _ a _ _ _ _ _ _ _ _ => a
 | _ => { posonlyargs := [], args := [], vararg := none, kwonlyargs := [], kw_defaults := [], kwarg := none, defaults := [] }
noncomputable def K8 (s : Stmt) : List Stmt := match s with
 | .FunctionDef _ _ b _ _ _ _ _ _ _ => b
 | _ => []
noncomputable def t9 (s : Stmt) : Scope := match s with
 | .FunctionDef _ _ _ _ _ _ sc _ _ _ => sc
 | _ => { kind := .function, names := [], isGenerator := false, isCoroutine := false }

noncomputable abbrev CX0 : CXT := fun _ _ _ _ _ _ => False
noncomputable abbrev E0 : XK := fun _ _ _ => False
theorem a81 {X : Cx} : a3o CX0 X E0 := fun _ _ _ _ _ _ _ h => h.elim

structure Fun (K : PySem.W.Frag) (x qual : Str) (st : Stmt) (f : Addr) (fd : FuncData) : Prop where
 ex : ∃ (oc : Value) (od : Option Addr) (kV doc pm : Value) (an : Option Addr) (cdv ct : Value) (osl : Array (Option Value)),
  fd = PySem.W.fnOf x qual (S7 st) (K8 st) (t9 st) .none kV doc pm an cdv ct ∧ K.lookup f = some ⟨oc, od, .func fd, osl⟩ ∧ PySem.W.codeIn K cdv qual = true
 kp : PySem.W.keepIn K (.ref f) = true
section
variable {P : Program} {w : World} {K : PySem.W.Frag} {mg : Str → Option Value} {base : Heap}
theorem Fun.ok {x qual : Str} {st : Stmt} {f : Addr} {fd : FuncData} {N ps : List Str} {k : Nat} {sp : Sp} (F : Fun K x qual st f fd) (S : FnScope N ps (t9 st)) (len : ∀ vs H Q E, sp vs H Q E → vs.length = ps.length)
  (hbody : ∀ (cdv : Value) (A : Around) (outer : List Env) (s : Shared) (H : Hp) (vs : List V) (Q : VK) (E : XK), Room k (A.deeper (envOfC qual (t9 st) s.heap.objs.size f cdv)) → sp vs H Q E →
   ∃ t, PSs (P5 CX0 P w K mg base N qual (t9 st) f cdv A outer s H E).nox (K8 st) t ∧ t { nx := fun _ H' => Q .non H', rt := Q } (start N vs) H) : FnOk P w K mg base CX0 (k + 1) f fd ps sp := by
 obtain ⟨oc, od, kV, doc, pm, an, cdv, ct, osl, rfl, lk, hcd⟩ := F.ex
 refine b3D lk hcd S len fun A outer s H vs Q E hr hsp => ?_
 obtain ⟨t, h, q⟩ := hbody cdv A outer s H vs Q E hr hsp
 exact ⟨t, h.nox, q⟩
theorem Fun.binds {x qual : Str} {st : Stmt} {f : Addr} {fd : FuncData} {ps : List Str} (F : Fun K x qual st f fd)
  (h : ∀ (kV doc pm : Value) (an : Option Addr) (cdv ct : Value) (us : List Value), us.length = ps.length → bindArgs (PySem.W.fnOf x qual (S7 st) (K8 st) (t9 st) .none kV doc pm an cdv ct) ⟨us, []⟩ = pure (ps.zip us)) : Binds K fd ps [] := by
 obtain ⟨oc, od, kV, doc, pm, an, cdv, ct, osl, rfl, lk, hcd⟩ := F.ex
 exact .all (h kV doc pm an cdv ct)
theorem b0Y {x qual : Str} {st : Stmt} {f : Addr} {oc : Value} {od an : Option Addr} {osl : Array (Option Value)} {kV doc pm cdv ct : Value} (l : K.lookup f = some ⟨oc, od, .func (PySem.W.fnOf x qual (S7 st) (K8 st) (t9 st) .none kV doc pm an cdv ct), osl⟩)
  (c : PySem.W.codeIn K cdv qual = true) (k : PySem.W.keepIn K (.ref f) = true) : Fun K x qual st f (PySem.W.fnOf x qual (S7 st) (K8 st) (t9 st) .none kV doc pm an cdv ct) := ⟨⟨oc, od, kV, doc, pm, an, cdv, ct, osl, rfl, l, c⟩, k⟩
end
theorem L8 {A : Around} {k : Nat} (hr : Room k A) : A.units + 1 < cLine := Nat.lt_of_le_of_lt (Nat.add_le_add_left (by decide : 1 ≤ 64) _) hr.units
section
variable {X : Cx}
theorem pv (i : Nat) {x : Str} {pos : Pos} (hN : X.N[i]? = some x := by rfl) (hv : Vis X.env.scope x := by first | exact Or.inl rfl | exact Or.inr (Or.inl rfl) | exact Or.inr (Or.inr rfl)) (hd : (x == ("__debug__" : Str)) = false := by decide)
  (hcd : (x == ("__classdict__" : Str)) = false := by decide) : PE X (.Name x pos) (T6 i) := b3O hN hv hd hcd
end

theorem a5u {A B : Prop} (h : B) : if false = true then A else B := by
 rw [if_neg Bool.false_ne_true]
 exact h
theorem a43 {A B : Prop} (h : A) : if true = true then A else B := by
 rw [if_pos rfl]
 exact h
section
variable {κ : Type} [DecidableEq κ]
end
end L2

namespace L2
open PySem PySem.Spec PyProof.Rows

noncomputable def blk (X : Cx) (N' : List Str) (scope : Scope) (cl : List (Str × Addr)) (C : Addr) (s0 : Shared) (H0 : Hp) (ex : List Addr) : Cx :=
 { X with N := N', env := compEnvC scope cl C X.env, s₀ := s0, H₀ := H0, outer := X.stack, stack := X.stack, ex := ex, fn := fun _ => false, pn := [], xe := fun _ _ => False }
noncomputable def a1G (X : Cx) (ifs : List Expr) (t : TT) : Prop :=
 ∀ (pins : List (Addr × Obj)) (s : Shared) (σ : St) (H : Hp) (Q : Bool → Hp → Prop), Inv X pins σ H s → t σ H Q →
  wpAny (model X.prog X.w) X.A (forIn ifs true fun c r => if r = true then do let ok ← isTrue c X.env (eval c X.env); pure (ForInStep.yield ok) else pure (ForInStep.yield r)) (TP X pins σ Q) X.xe s
noncomputable def b0r : TT := fun _ H Q => Q true H
theorem b2F {X : Cx} : a1G X [] b0r := fun pins s σ H Q I h => wpAny_tests_nil ⟨H, I, h⟩
noncomputable def D2 (n : Nat) (idx : List Nat) (σ : St) : St := List.replicate n none ++ idx.map fun i => (σ[i]?).join
noncomputable def a0J (n : Nat) (idx : List Nat) (wi : TI) (g : TG) (tc : TT) (te : TE) : TE := fun σ H Q => wi σ H fun J H1 => ∀ D, H1 D = none →
 ∃ W : Nat → Nat → Hp → Prop, (∃ m, W 0 m (upd H1 D (.lst []))) ∧ ∀ i m H, W i m H →
  (J.stop i H ∧ Q (.ref D) H) ∨ (J.go i H ∧ ∀ x H', J.yld i H x H' → g x (D2 n idx σ) H' fun σ2 H2 => (σ2.length = (D2 n idx σ).length ∧ ∀ (j : Nat) (v : V), (D2 n idx σ)[j]? = some (some v) → σ2[j]? = some (some v)) ∧ tc σ2 H2 fun b H3 =>
   if b = true then te σ2 H3 fun v H4 => ∃ ys, H4 D = some (.lst ys) ∧ ys.length < sizeLine ∧ ∃ m', m' < m ∧ W (i + 1) m' (upd H4 D (.lst (ys ++ [v]))) else ∃ m', m' < m ∧ W (i + 1) m' H3)
structure CompOk (X : Cx) (scope : Scope) (cl : List (Str × Addr)) (N' : List Str) (n : Nat) (idx : List Nat) : Prop where
 clos : closureFor scope X.env = pure cl
 sub : ∀ x c, cl.lookup x = some c → X.env.cells.lookup x = some c
 cell : ∀ y ∈ scope.names, y.2 ≠ .cell
 kind : scope.kind = .function
 names : ∀ y ∈ scope.names, y.2 = .local → scope.names.lookup y.1 = some .local
 has : ∀ x, ((relabel scope X.env).names.lookup x = some .cell ∨ (relabel scope X.env).names.lookup x = some .free) → ∃ c, cl.lookup x = some c
 len : N'.length = n + idx.length
 cap : ∀ (j i : Nat) (y : Str), idx[j]? = some i → N'[n + j]? = some y → X.N[i]? = some y ∧ (X.env.scope.names.lookup y = some .cell ∨ X.env.scope.names.lookup y = some .free) ∧ ((relabel scope X.env).names.lookup y = some .cell ∨ (relabel scope X.env).names.lookup y = some .free)
section
variable {X : Cx} {scope : Scope} {cl : List (Str × Addr)} {N' : List Str} {n : Nat} {idx : List Nat} {tg iter elt : Expr} {ifs : List Expr} {pos : Pos} {wi : TI} {g : TG} {tc : TT} {te : TE}
theorem a7G (σ : St) : (D2 n idx σ).length = n + idx.length := by simp [D2]
theorem b1l {σ : St} {j : Nat} {v : V} (h : (D2 n idx σ)[j]? = some (some v)) : ∃ k i, j = n + k ∧ idx[k]? = some i ∧ σ[i]? = some (some v) := by
 unfold D2 at h
 by_cases hj : j < n
 ·rw [List.getElem?_append_left (by simpa using hj)] at h
  simp [hj] at h
 ·rw [List.getElem?_append_right (by simpa using Nat.le_of_not_lt hj)] at h
  simp only [List.length_replicate, List.getElem?_map] at h
  refine ⟨j - n, ?_⟩
  cases e : idx[j - n]? with
  | none => rw [e] at h; simp at h
  | some i =>
   rw [e] at h
   simp only [Option.map_some, Option.some.injEq] at h
   exact ⟨i, by omega, rfl, by simpa using Option.join_eq_some_iff.mp h⟩
theorem a8V (k : CompOk X scope cl N' n idx) {pins : List (Addr × Obj)} {s2 : Shared} {σ : St} {H2 : Hp} {fp : List Addr} {C : Addr} {h4 : Heap} {t4 : Nat} {m : Str → Option Value} (I : Inv X pins σ H2 s2) (f : ∀ b ∈ fp, O9 X pins H2 b) (fo : ∀ b ∈ fp, b < s2.heap.objs.size)
  (hC : s2.heap.objs.size + 1 ≤ C) (ns : h4.Ns C m) (keep : ∀ b o, s2.heap.get? b = some o → h4.get? b = some o) (hD : h4.get? s2.heap.objs.size = some { cls := .type "list", data := .seq ([] : List Value).toArray }) :
  Inv (blk X N' scope cl C s2 H2 fp) [] (D2 n idx σ) (upd H2 s2.heap.objs.size (.lst [])) { s2 with heap := h4, toks := t4 } := by
 have fresh : H2 s2.heap.objs.size = none := I.hok.fresh (Nat.le_refl _)
 have fC : H2 C = none := I.hok.fresh (by omega)
 have cellsub : ∀ x c, (blk X N' scope cl C s2 H2 fp).env.cells.lookup x = some c → X.env.cells.lookup x = some c := fun x c e => k.sub x c e
 have cellLt : ∀ x c, X.env.cells.lookup x = some c → c < s2.heap.objs.size := fun x c e => by
  obtain ⟨v, q⟩ := I.cell x c e
  exact q.lt
 have ok : (blk X N' scope cl C s2 H2 fp).Ok := {
  mod := I.ok.mod
  kind := k.kind
  glob := I.ok.glob
  blt := I.ok.blt
  above := by show s2.heap.objs.size ≤ C; omega
  inj := fun x y c e1 e2 => I.ok.inj x y c (cellsub x c e1) (cellsub y c e2)
  has := fun x h => k.has x h
  cab := fun x c h _ => by cases h
  hd := I.ok.hd
  frames := I.ok.frames
  stk := .inl rfl
  exf := fun b hb => ⟨Nat.ne_of_lt (Nat.lt_of_lt_of_le (fo b hb) (by show s2.heap.objs.size ≤ C; omega)), fun x c e z => (f b hb).2.2.2.2.1 x c (cellsub x c e) z⟩
  bs := fun b o e => I.bs b o e
  bsz := Nat.le_trans I.ok.bsz I.sz
  noex := fun b o e hb => by
   rcases (f b hb).2.2.2.1 with z | z
   ·exact I.ok.noex b o e z
   ·exact absurd (Nat.lt_of_lt_of_le (Heap.lt_size e) (Nat.le_trans I.ok.bsz z)) (Nat.lt_irrefl _)
  exfs := fun b hb z => by
   rcases List.mem_cons.mp (I.stkSub b z) with y | y
   ·exact (f b hb).2.1 y
   ·exact (f b hb).2.2.1 y
  funs := I.stack
  frf := I.stkFree }
 refine ⟨ok, rfl, I.bare, Un.laid keep (Nat.le_refl _) fresh, ⟨m, ns, fun j y v e1 e2 e3 => ?_⟩, fun x c e => ?_, ?_, fun x c e => ?_, fun p hp => (by cases hp), I.hok.laid keep (Nat.le_refl _) ⟨Nat.zero_le _, [], _, .nil, hD⟩, ?_⟩
 ·obtain ⟨kk, i, rfl, hk, hv⟩ := b1l e2
  obtain ⟨hN, ok, hkind⟩ := k.cap kk i y hk e1
  obtain ⟨c, hc⟩ := k.has y hkind
  obtain ⟨m0, _, hl⟩ := I.loc
  have hc' := k.sub y c hc
  obtain ⟨u, r, l⟩ := hl i y v hN hv (by rcases ok with z | z; exact .inr (.inl z); exact .inr (.inr z))
  refine ⟨u, r, .inr ⟨hkind, c, hc, ?_⟩⟩
  rcases l with ⟨z, _⟩ | ⟨_, c', e', q⟩
  ·have z' : X.env.scope.names.lookup y = some .local := z
   rcases ok with w | w <;> · rw [w] at z'; cases z'
  ·rw [hc'] at e'; cases e'
   obtain ⟨o, ho, hd⟩ := q
   exact ⟨o, keep _ o ho, hd⟩
 ·obtain ⟨v, q⟩ := I.cell x c (cellsub x c e)
  obtain ⟨o, ho, hd⟩ := q
  exact ⟨v, o, keep c o ho, hd⟩
 ·show upd H2 s2.heap.objs.size (.lst []) C = none
  rw [u5 (Nat.ne_of_gt hC)]; exact fC
 ·have := cellLt x c (cellsub x c e)
  rw [u5 (Nat.ne_of_lt this)]
  exact I.freeC x c (cellsub x c e)
 ·rw [a7G, ← k.len]; rfl
theorem b3B {prog : Program} {w : World} {A : Around} {R : Result → Shared → Prop} {s : Shared} {elt target iter : Expr} {ifs : List Expr} {scope : Scope} {pos : Pos} {it acc : Value} {env : Env} (I : Nat → Shared → Prop)
  (turn : ∀ n s, I n s → wpAny (model prog w) A (pyNext it) (fun r s1 => match r with
   | none => R (.ok .next) s1
   | some v => wpAny (model prog w) A (letOwnedTupleGo target it v) (fun _ s1' => wpAny (model prog w) A (assign target env v) (fun _ s2 =>
     wpAny (model prog w) A (forIn ifs true fun c r => if r = true then do let ok ← isTrue c env (eval c env); pure (ForInStep.yield ok) else pure (ForInStep.yield r)) (fun ok s3 =>
      if ok = true then wpAny (model prog w) A (eval elt env) (fun x s4 =>
       wpAny (model prog w) A (call (.builtin "list.append") [acc, x]) (fun _ s5 => ∃ m, m < n ∧ I m s5) (notedBy (model prog w) A env fun e s' => R (.error e) s') s4) (notedBy (model prog w) A env fun e s' => R (.error e) s') s3
      else ∃ m, m < n ∧ I m s3) (notedBy (model prog w) A env fun e s' => R (.error e) s') s2) (notedBy (model prog w) A env fun e s' => R (.error e) s') s1') (notedBy (model prog w) A env fun e s' => R (.error e) s') s1) (notedBy (model prog w) A env fun e s' => R (.error e) s') s)
  (n : Nat) (h : I n s) :
  codeAny (model prog w) A (.compLoop (.ListComp elt [⟨target, iter, ifs, 0⟩] scope pos) 0 it acc env) R s := by
 refine codeAny_loop rfl I (fun n s hI => ?_) n h
 show wpAny _ A ((compTurn (.ListComp elt [⟨target, iter, ifs, 0⟩] scope pos) 0 it acc env).onRaise (fun x => do noteFrame x env; theTreesLotGoes x)) _ _ s
 refine wpAny_noted ?_
 rw [compTurn_list]
 refine wpAny_bind (wpAny_standAt (wpAny_bind (wpAny_mono (turn n s hI) (fun r s₁ h₁ => ?_) fun _ _ h' => h')))
 cases r with
 | none => exact wpAny_pure h₁
 | some v =>
  refine wpAny_bind (wpAny_mono h₁ (fun _ s1' h1' => ?_) fun _ _ h' => h')
  refine wpAny_bind (wpAny_mono h1' (fun _ s₂ h₂ => wpAny_bind (wpAny_mono h₂ (fun ok s₃ h₃ => ?_) fun _ _ h' => h')) fun _ _ h' => h')
  cases ok with
  | false => exact wpAny_pure ⟨rfl, h₃⟩
  | true =>
   exact wpAny_bind (wpAny_bind (wpAny_mono h₃ (fun x s₄ h₄ => wpAny_bind (wpAny_mono h₄ (fun _ s₅ h₅ => wpAny_pure (wpAny_pure ⟨rfl, h₅⟩)) fun _ _ h' => h')) fun _ _ h' => h'))
end
end L2

namespace L2
open PySem PySem.Spec PyProof.Rows
section
variable {X : Cx} {scope : Scope} {cl : List (Str × Addr)} {N' : List Str} {n : Nat} {idx : List Nat} {tg iter elt : Expr} {ifs : List Expr} {pos : Pos} {wi : TI} {g : TG} {tc : TT} {te : TE}
theorem a9c {use : Option (Value → Sem Unit)} {Q' : Value → Shared → Prop} {pos2 : Pos} (hc : X.calm = true) (k : CompOk X scope cl N' n idx) (hi : PI X tg iter wi)
  (hg : ∀ C s0 H0 ex, PG (blk X N' scope cl C s0 H0 ex) tg g) (ht : ∀ C s0 H0 ex, a1G (blk X N' scope cl C s0 H0 ex) ifs tc) (he : ∀ C s0 H0 ex, PE (blk X N' scope cl C s0 H0 ex) elt te)
  (hs : ∀ x, foldedSetIterable iter X.env x = pure x) {pins : List (Addr × Obj)} {s : Shared} {σ : St} {H : Hp} {Q : VK} (I0 : Inv X pins σ H s) (h : a0J n idx wi g tc te σ H Q)
  (last : ∀ (C D : Addr) (s' : Shared) (H' : Hp) (m : Str → Option Value), Inv X pins σ H' s' → O9 X pins H' C → s'.heap.Ns C m → Q (.ref D) H' → compPost (model X.prog X.w) X.A X.xe use Q' (.ref D) C (.ok .next) s') :
  wpAny (model X.prog X.w) X.A (comprehension (.ListComp elt [⟨tg, iter, ifs, 0⟩] scope pos) scope X.env pos2 (newList []) false (eval iter X.env) use) Q' X.xe s := by
 refine wpAny_comprehension_free (use := use) rfl hs k.clos k.kind k.names (thn (hi pins s σ H _ I0 h) fun v s1 h1 => thn h1 fun itv s2 h2 => ?_)
 obtain ⟨it, fp, tn, J, H2, e, I2, T, st2, f2, hW⟩ := h2
 subst e
 have fo2 : ∀ b ∈ fp, b < s2.heap.objs.size := fun b hb => by
  obtain ⟨o, e, _⟩ := T.obj _ _ st2 b hb
  exact Heap.lt_size e
 obtain ⟨W, ⟨m0, w0⟩, turn⟩ := hW s2.heap.objs.size (I2.hok.fresh (Nat.le_refl _))
 refine wpAny_newObj_type (wpAny_newFunctionEnv k.cell (by intro y hy; simp at hy) (fun h4 hns4 hsb4 => ?_) k.kind)
 dsimp only at hns4 hsb4 ⊢
 generalize hH3 : s2.heap.push { cls := .type "list", dict := none, data := .seq ([] : List Value).toArray } = h3 at hns4 hsb4 ⊢
 have hCe : h3.objs.size = s2.heap.objs.size + 1 := by rw [← hH3, Heap.size_push]
 have k34 : ∀ b o, b ≠ h3.objs.size → h3.get? b = some o → h4.get? b = some o := fun b o nb e => hsb4.extBut b o nb (Heap.get?_push_of_some _ e)
 have keep : ∀ b o, s2.heap.get? b = some o → h4.get? b = some o := fun b o e => k34 b o (Nat.ne_of_lt (by rw [hCe]; exact Nat.lt_succ_of_lt (Heap.lt_size e))) (by rw [← hH3]; exact Heap.get?_push_of_some _ e)
 have hD : h4.get? s2.heap.objs.size = some { cls := .type "list", data := .seq ([] : List Value).toArray } := k34 _ _ (Nat.ne_of_lt (by rw [hCe]; exact Nat.lt_succ_self _)) (by rw [← hH3]; exact Heap.get?_push_size _ rfl)
 have I4 := a8V k I2 f2 fo2 (Nat.le_of_eq hCe.symm) hns4 keep hD (t4 := s2.toks + ([] : List (Str × Value)).length)
 have stat : ∀ {H' : Hp}, (∀ b ∈ fp, H' b = none) → ∀ b ∈ fp, O9 (blk X N' scope cl h3.objs.size s2 H2 fp) [] H' b := fun hn b hb =>
  ⟨hn b hb, Nat.ne_of_lt (by rw [hCe]; exact Nat.lt_succ_of_lt (fo2 b hb)), fun z => (List.mem_cons.mp (I2.stkSub b z)).elim (f2 b hb).2.1 (f2 b hb).2.2.1, .inl hb, fun x c e => (f2 b hb).2.2.2.2.1 x c (k.sub x c e), fun p hp => (by cases hp)⟩
 have fr4 : ∀ b ∈ fp, upd H2 s2.heap.objs.size (.lst []) b = none := fun b hb => by rw [u5 (Nat.ne_of_lt (fo2 b hb))]; exact (f2 b hb).1
 have fin : ∀ (s' : Shared) (H' : Hp), Inv (blk X N' scope cl h3.objs.size s2 H2 fp) [] (D2 n idx σ) H' s' → Q (.ref s2.heap.objs.size) H' →
   compPost (model X.prog X.w) X.A X.xe use Q' (.ref s2.heap.objs.size) h3.objs.size (.ok .next) s' := fun s' H' I' q => by
  obtain ⟨m', hn', _⟩ := I'.loc
  have B := I'.base
  refine last _ _ s' H' m' ?_ (I2.fpOk (by rw [hCe]; exact Nat.le_succ _) I'.free) hn' q
  refine I2.call' (s' := s') (ch := fp) (show s'.os = s2.os from I'.os) ⟨fun b o e nn hb hx => B.keep b o e nn hb hx, fun b o e nn hb hx => B.slot b o e nn hb hx, B.free, fun b o e hx => B.there b o e hx, B.tups, B.frzs, B.tbls⟩ I'.hok I'.bare fun b hb => ?_
  obtain ⟨p1, p2, p3, p4, p5, p6⟩ := f2 b hb
  exact ⟨p4, p2, p5, p6⟩
 have loop : ∀ s4 : Shared, s4 = { s2 with heap := h4, toks := s2.toks + ([] : List (Str × Value)).length } →
   codeAny (model X.prog X.w) X.A (.compLoop (.ListComp elt [⟨tg, iter, ifs, 0⟩] scope pos) 0 (.ref it) (.ref s2.heap.objs.size) (compEnvC scope cl h3.objs.size X.env)) (compPost (model X.prog X.w) X.A X.xe use Q' (.ref s2.heap.objs.size) h3.objs.size) s4 := by
  rintro s4 rfl
  refine b3B (fun m s' => ∃ i H', Inv (blk X N' scope cl h3.objs.size s2 H2 fp) [] (D2 n idx σ) H' s' ∧ tn i s'.heap ∧ (∀ b ∈ fp, H' b = none) ∧ W i m H') ?_ m0 ⟨0, _, I4, T.keep _ _ _ st2 (fun b _ o e => keep b o e), fr4, w0⟩
  rintro m s3 ⟨i, H3, I3, st3, fr3, w3⟩
  rcases turn i m H3 w3 with ⟨stop, q⟩ | ⟨go, step⟩
  ·refine wpAny_mono (T.done (blk X N' scope cl h3.objs.size s2 H2 fp) rfl rfl rfl hc i [] s3 _ H3 (fun _ _ => False) I3 (stat fr3) st3 stop) (fun r s5 ⟨hr, I5⟩ => ?_) fun _ _ z => z.elim
   subst hr
   exact fin s5 H3 I5 q
  ·refine wpAny_mono (T.item (blk X N' scope cl h3.objs.size s2 H2 fp) rfl rfl rfl hc i [] s3 _ H3 (fun _ _ => False) I3 (stat fr3) st3 go) (fun r s5 ⟨u, hr, h5⟩ => ?_) fun _ _ z => z.elim
   subst hr
   refine wpAny_mono h5 (fun _ s6 ⟨x, H6, I6, r6, y6, st6, fr6⟩ => ?_) fun _ _ z => z.elim
   have I6' := I6.pinned (stat fr6) (T.obj _ _ st6)
   have again : ∀ {σ7 : St} {H7 : Hp} {s7 : Shared}, Inv (blk X N' scope cl h3.objs.size s2 H2 fp) ([] ++ a0r fp s6.heap) σ7 H7 s7 → σ7.length = (D2 n idx σ).length → (∀ (j : Nat) v, (D2 n idx σ)[j]? = some (some v) → σ7[j]? = some (some v)) → (∃ m', m' < m ∧ W (i + 1) m' H7) →
     ∃ m', m' < m ∧ ∃ i H', Inv (blk X N' scope cl h3.objs.size s2 H2 fp) [] (D2 n idx σ) H' s7 ∧ tn i s7.heap ∧ (∀ b ∈ fp, H' b = none) ∧ W i m' H' := fun {σ7 H7 s7} I7 hl hw ⟨m', hm, w7⟩ => by
    refine ⟨m', hm, i + 1, H7, (I7.unpinned).weak hl.symm hw, T.keep _ _ _ st6 fun b hb o e => (I7.pin (b, o) (List.mem_append_right _ (List.mem_append_right _ (a1m hb e)))).1, fun b hb => ?_, w7⟩
    obtain ⟨o, e, d⟩ := T.obj _ _ st6 b hb
    exact (I7.pin (b, o) (List.mem_append_right _ (List.mem_append_right _ (a1m hb e)))).2.1
   refine wpAny_mono (hg _ _ _ _ _ s6 _ H6 x u _ I6' r6 (step x H6 y6)) (fun _ s7 ⟨σ7, H7, I7, ⟨hl, hw⟩, q7⟩ => ?_) fun _ _ z => z.elim
   refine wpAny_mono (ht _ _ _ _ _ s7 σ7 H7 _ I7 q7) (fun ok s8 ⟨H8, I8, q8⟩ => ?_) fun _ _ z => z.elim
   cases ok with
   | false =>
    rw [if_neg Bool.false_ne_true] at q8 ⊢
    exact again I8 hl hw q8
   | true =>
    rw [if_pos rfl] at q8 ⊢
    refine wpAny_mono (he _ _ _ _ _ s8 σ7 H8 _ I8 q8) (fun v9 s9 ⟨x9, H9, I9, r9, ys, e9, l9, q9⟩ => ?_) fun _ _ z => z.elim
    refine wpAny_mono (a4N (X := blk X N' scope cl h3.objs.size s2 H2 fp) _ s9 σ7 H9 (.ref s2.heap.objs.size) [x9] (.ref s2.heap.objs.size) [v9] (fun _ H' => H' = upd H9 s2.heap.objs.size (.lst (ys ++ [x9]))) I9 rfl (.cons r9 .nil) ⟨s2.heap.objs.size, ys, x9, rfl, rfl, e9, l9, rfl⟩) (fun _ s10 ⟨_, H10, I10, _, e10⟩ => ?_) fun _ _ z => z.elim
    subst e10
    exact again I10 hl hw q9
 exact codeAny_compStart_list (loop _ rfl) (T.self _ 0 _ _ _ (T.keep _ _ _ st2 (fun b _ o e => keep b o e)) (loop _ rfl))

theorem a6h (hc : X.calm = true) (k : CompOk X scope cl N' n idx) (hi : PI X tg iter wi)
  (hg : ∀ C s0 H0 ex, PG (blk X N' scope cl C s0 H0 ex) tg g) (ht : ∀ C s0 H0 ex, a1G (blk X N' scope cl C s0 H0 ex) ifs tc) (he : ∀ C s0 H0 ex, PE (blk X N' scope cl C s0 H0 ex) elt te)
  (hs : ∀ x, foldedSetIterable iter X.env x = pure x := by intro _; rfl) : PE X (.ListComp elt [⟨tg, iter, ifs, 0⟩] scope pos) (a0J n idx wi g tc te) := by
 intro pins s σ H Q I0 h
 rw [eval_ListComp]
 refine a9c (use := none) (Q' := EP X pins σ Q) hc k hi hg ht he hs I0 h ?_
 intro C D' s' H' m IX fC hn q
 exact ⟨m, hn, fun h' hsb => ⟨.ref D', H', IX.turned (t' := s'.toks) (it := C) (h' := h') (fun b o nb e => (hsb.2 b nb).trans e) fC.1 fC.2.1 fC.2.2.2.1 fC.2.2.2.2.1 fC.2.2.2.2.2, rfl, q⟩⟩
end
end L2

namespace DL
open PySem PySem.Spec L2
theorem v7 {α β γ : Type} {o : Option (α × β)} {f : α × β → Option γ} {r : γ} {G : Prop} (h : o.bind f = some r) (k : ∀ x y, o = some (x, y) → f (x, y) = some r → G) : G := by
 obtain ⟨⟨x, y⟩, a, b⟩ := Option.bind_eq_some_iff.mp h
 exact k x y a b
theorem R8 {α γ : Type} {o : Option α} {f : α → Option γ} {r : γ} {G : Prop} (h : o.bind f = some r) (k : ∀ x, o = some x → f x = some r → G) : G := by
 obtain ⟨x, a, b⟩ := Option.bind_eq_some_iff.mp h
 exact k x a b
theorem mapP {α β γ : Type} {o : Option (α × β)} {f : α × β → γ} {r : γ} {G : Prop} (h : o.map f = some r) (k : ∀ x y, o = some (x, y) → f (x, y) = r → G) : G := by
 obtain ⟨⟨x, y⟩, a, b⟩ := Option.map_eq_some_iff.mp h
 exact k x y a b
theorem J3 {α γ : Type} {o : Option α} {f : α → γ} {r : γ} {G : Prop} (h : o.map f = some r) (k : ∀ x, o = some x → f x = r → G) : G := by
 obtain ⟨x, a, b⟩ := Option.map_eq_some_iff.mp h
 exact k x a b

inductive D where
 | non | bl (b : Bool) | int (i : Int) | str (x : Str) | tup (ds : List D) | lst (ds : List D)
 | feed | scr (ns : List Int)

mutual
noncomputable def D.py : D → PyData
 | .non => .none
 | .bl b => .bool b
 | .int i => .int i
 | .str x => .str x
 | .tup ds => .tuple (D.pys ds)
 | .lst ds => .list (D.pys ds)
 | .feed => .none
 | .scr _ => .none
noncomputable def D.pys : List D → List PyData
 | [] => []
 | d :: r => D.py d :: D.pys r
end
mutual
noncomputable def D.plain : D → Bool
 | .non => true
 | .bl _ => true
 | .int _ => true
 | .str _ => true
 | .tup ds => D.plains ds
 | .lst ds => D.plains ds
 | .feed => false
 | .scr _ => false
noncomputable def D.plains : List D → Bool
 | [] => true
 | d :: r => D.plain d && D.plains r
end

structure FS where
 cells : List Int
 pos : Int
 left : Int
 turn : Int
 kind : Nat

noncomputable def b1e (c : Addr) (f : FS) : List V := if f.kind = 1 then [V.ref c, V.int f.pos, V.int f.left] else [V.ref c, V.int f.pos, V.int f.left, V.int f.turn]
noncomputable def fho (c : Addr) (f : FS) : HO := if f.kind = 0 then .dK [(Sum.inr ("cells" : Str), V.ref c), (Sum.inr ("at" : Str), V.int f.pos), (Sum.inr ("left" : Str), V.int f.left), (Sum.inr ("turn" : Str), V.int f.turn)] else .lst (b1e c f)
theorem a29 {c : Addr} {f : FS} (h : f.kind = 0) : fho c f = .dK [(Sum.inr ("cells" : Str), V.ref c), (Sum.inr ("at" : Str), V.int f.pos), (Sum.inr ("left" : Str), V.int f.left), (Sum.inr ("turn" : Str), V.int f.turn)] := if_pos h
theorem b0g {c : Addr} {f : FS} {xs : List V} (h : fho c f = .tup xs) : False := by unfold fho at h; split at h <;> cases h
theorem b3t {c : Addr} {f : FS} {o : Obj} {u : HO} (h : fho c f = .frz o u) : False := by unfold fho at h; split at h <;> cases h
noncomputable def FeedR (N : Addr → Prop) (H : Hp) : Option Addr → Option FS → Prop
 | none, none => True
 | some a, some f => f.cells.length ≤ 63 ∧ ∃ c, H a = some (fho c f) ∧ ¬ N c ∧ H c = some (.lst (f.cells.map V.int))
 | _, _ => False

noncomputable def SqF (K : PySem.W.Frag) (H : Hp) (a : Addr) (xs : List V) : Prop :=
 (∃ o, H a = some (.frz o (.lst xs))) ∨
  ∃ (o : Obj) (its : Array Value) (n : Nat), K.lookup a = some o ∧ o.cls = .type "list" ∧ o.dict = none ∧ o.data = .seq its n ∧ its.size ≤ sizeLine ∧ Vals xs its.toList
theorem SqF.sq {K : PySem.W.Frag} {H : Hp} {a : Addr} {xs : List V} (h : SqF K H a xs) : SqL K H a xs := by
 rcases h with ⟨o, h⟩ | h
 ·exact .inl (.inr ⟨o, h⟩)
 ·exact .inr h

mutual
noncomputable def Rep (K : PySem.W.Frag) (N : Addr → Prop) (fa : Option Addr) (H : Hp) : D → V → Prop
 | .non, v => v = .non
 | .bl b, v => v = .bl b
 | .int i, v => v = .int i
 | .str x, v => v = .str x ∧ x.length ≤ sizeLine
 | .tup ds, v => ∃ a xs, v = .ref a ∧ SqT K H a xs ∧ Reps K N fa H ds xs
 | .lst ds, v => ∃ a xs, v = .ref a ∧ ¬ N a ∧ H a = some (.lst xs) ∧ Reps K N fa H ds xs
 | .feed, v => ∃ a, fa = some a ∧ v = .ref a
 | .scr ns, v => ns.length ≤ 63 ∧ ∃ a, v = .ref a ∧ SqF K H a (ns.map V.int)
noncomputable def Reps (K : PySem.W.Frag) (N : Addr → Prop) (fa : Option Addr) (H : Hp) : List D → List V → Prop
 | [], xs => xs = []
 | d :: r, xs => ∃ x ys, xs = x :: ys ∧ Rep K N fa H d x ∧ Reps K N fa H r ys
end
noncomputable def RepB (K : PySem.W.Frag) (N : Addr → Prop) (fa : Option Addr) (H : Hp) : D → V → Prop
 | .lst ds, v => ∃ a xs, v = .ref a ∧ fa ≠ some a ∧ H a = some (.lst xs) ∧ Reps K N fa H ds xs
 | d, v => Rep K N fa H d v
noncomputable def P6 (K : PySem.W.Frag) (N : Addr → Prop) (fa : Option Addr) (H : Hp) : List D → List V → Prop
 | [], xs => xs = []
 | d :: r, xs => ∃ x ys, xs = x :: ys ∧ RepB K N fa H d x ∧ P6 K N fa H r ys

structure Car (K : PySem.W.Frag) (N : Addr → Prop) (fa : Option Addr) (H : Hp) (N' : Addr → Prop) (fa' : Option Addr) (H' : Hp) : Prop where
 ls : ∀ b xs, ¬ N b → H b = some (.lst xs) → H' b = some (.lst xs) ∧ ¬ N' b
 tp : ∀ b xs, SqT K H b xs → SqT K H' b xs
 fz : ∀ b xs, SqF K H b xs → SqF K H' b xs
 fe : ∀ a, fa = some a → fa' = some a
section
variable {K : PySem.W.Frag} {N N' : Addr → Prop} {fa fa' : Option Addr} {H H' : Hp}
mutual
theorem Rep.go (c : Car K N fa H N' fa' H') : ∀ (d : D) (v : V), Rep K N fa H d v → Rep K N' fa' H' d v
 | .non, v, h => by simpa only [Rep] using h
 | .bl b, v, h => by simpa only [Rep] using h
 | .int i, v, h => by simpa only [Rep] using h
 | .str x, v, h => by simpa only [Rep] using h
 | .tup ds, v, h => by
  simp only [Rep] at h ⊢
  obtain ⟨a, xs, e, q, r⟩ := h
  exact ⟨a, xs, e, c.tp a xs q, Reps.go c ds xs r⟩
 | .lst ds, v, h => by
  simp only [Rep] at h ⊢
  obtain ⟨a, xs, e, n, q, r⟩ := h
  obtain ⟨q', n'⟩ := c.ls a xs n q
  exact ⟨a, xs, e, n', q', Reps.go c ds xs r⟩
 | .feed, v, h => by
  simp only [Rep] at h ⊢
  obtain ⟨a, e, q⟩ := h
  exact ⟨a, c.fe a e, q⟩
 | .scr ns, v, h => by
  simp only [Rep] at h ⊢
  obtain ⟨l, a, e, q⟩ := h
  exact ⟨l, a, e, c.fz a _ q⟩
theorem Reps.go (c : Car K N fa H N' fa' H') : ∀ (ds : List D) (xs : List V), Reps K N fa H ds xs → Reps K N' fa' H' ds xs
 | [], xs, h => by simpa only [Reps] using h
 | d :: r, xs, h => by
  simp only [Reps] at h ⊢
  obtain ⟨x, ys, e, h1, h2⟩ := h
  exact ⟨x, ys, e, Rep.go c d x h1, Reps.go c r ys h2⟩
end
theorem Rep.b (hN : ∀ a, fa = some a → N a) {d : D} {v : V} (h : Rep K N fa H d v) : RepB K N fa H d v := by
 cases d with
 | lst ds =>
  simp only [Rep] at h
  obtain ⟨a, xs, e, n, q, r⟩ := h
  exact ⟨a, xs, e, fun z => n (hN a z), q, r⟩
 | _ => simpa only [RepB] using h
noncomputable def N9 (K : PySem.W.Frag) (N : Addr → Prop) (fa : Option Addr) (H : Hp) : D → V → Prop
 | .lst ds, v => ∃ a xs, v = .ref a ∧ H a = some (.lst xs) ∧ Reps K N fa H ds xs
 | d, v => Rep K N fa H d v
theorem Rep.o {d : D} {v : V} (h : Rep K N fa H d v) : N9 K N fa H d v := by
 cases d with
 | lst ds =>
  simp only [Rep] at h
  obtain ⟨a, xs, e, _, q, r⟩ := h
  exact ⟨a, xs, e, q, r⟩
 | _ => simpa only [N9] using h
theorem RepB.o {d : D} {v : V} (h : RepB K N fa H d v) : N9 K N fa H d v := by
 cases d with
 | lst ds =>
  obtain ⟨a, xs, e, _, q, r⟩ := h
  exact ⟨a, xs, e, q, r⟩
 | _ => simpa only [N9, RepB] using h
theorem Reps.length : ∀ {ds : List D} {xs : List V}, Reps K N fa H ds xs → xs.length = ds.length
 | [], xs, h => by simp only [Reps] at h; subst h; rfl
 | d :: r, xs, h => by
  simp only [Reps] at h
  obtain ⟨x, ys, e, h1, h2⟩ := h
  subst e
  simp [Reps.length h2]
theorem Reps.get : ∀ {ds : List D} {xs : List V} {i : Nat} {d : D}, Reps K N fa H ds xs → ds[i]? = some d → ∃ x, xs[i]? = some x ∧ Rep K N fa H d x
 | [], xs, i, d, h, e => by simp at e
 | d :: r, xs, 0, d', h, e => by
  simp only [Reps] at h
  obtain ⟨x, ys, e1, h1, h2⟩ := h
  simp at e
  subst e1; subst e
  exact ⟨x, rfl, h1⟩
 | d :: r, xs, i + 1, d', h, e => by
  simp only [Reps] at h
  obtain ⟨x, ys, e1, h1, h2⟩ := h
  subst e1
  obtain ⟨y, e2, h3⟩ := Reps.get h2 (by simpa using e)
  exact ⟨y, by simpa using e2, h3⟩
theorem Reps.get' : ∀ {ds : List D} {xs : List V} {i : Nat} {x : V}, Reps K N fa H ds xs → xs[i]? = some x → ∃ d, ds[i]? = some d ∧ Rep K N fa H d x := fun {ds xs i x} h e => by
 have hl := h.length
 have hi : i < xs.length := (List.getElem?_eq_some_iff.mp e).1
 obtain ⟨y, e2, h3⟩ := Reps.get h (List.getElem?_eq_getElem (show i < ds.length by omega))
 rw [e] at e2; cases e2
 exact ⟨_, List.getElem?_eq_getElem (show i < ds.length by omega), h3⟩
theorem Reps.append : ∀ {ds es : List D} {xs ys : List V}, Reps K N fa H ds xs → Reps K N fa H es ys → Reps K N fa H (ds ++ es) (xs ++ ys)
 | [], es, xs, ys, h, q => by simp only [Reps] at h; subst h; simpa using q
 | d :: r, es, xs, ys, h, q => by
  simp only [Reps] at h
  obtain ⟨x, zs, e1, h1, h2⟩ := h
  subst e1
  simp only [List.cons_append, Reps]
  exact ⟨x, _, rfl, h1, Reps.append h2 q⟩
theorem Reps.one {d : D} {x : V} (h : Rep K N fa H d x) : Reps K N fa H [d] [x] := by
 simp only [Reps]
 exact ⟨x, [], rfl, h, rfl⟩
theorem Reps.nil : Reps K N fa H [] [] := by simp only [Reps]
theorem Reps.take : ∀ {ds : List D} {xs : List V} (n : Nat), Reps K N fa H ds xs → Reps K N fa H (ds.take n) (xs.take n)
 | _, _, 0, _ => by simp only [List.take_zero, Reps]
 | [], xs, n + 1, h => by simp only [Reps] at h; subst h; simp only [List.take_nil, Reps]
 | d :: r, xs, n + 1, h => by
  simp only [Reps] at h
  obtain ⟨x, zs, e1, h1, h2⟩ := h
  subst e1
  simp only [List.take_succ_cons, Reps]
  exact ⟨x, _, rfl, h1, Reps.take n h2⟩
theorem Reps.drop : ∀ {ds : List D} {xs : List V} (n : Nat), Reps K N fa H ds xs → Reps K N fa H (ds.drop n) (xs.drop n)
 | _, _, 0, h => by simpa using h
 | [], xs, n + 1, h => by simp only [Reps] at h; subst h; simp only [List.drop_nil, Reps]
 | d :: r, xs, n + 1, h => by
  simp only [Reps] at h
  obtain ⟨x, zs, e1, h1, h2⟩ := h
  subst e1
  simpa using Reps.drop n h2
theorem Reps.ints : ∀ {ns : List Int}, Reps K N fa H (ns.map D.int) (ns.map V.int)
 | [] => by simp only [List.map_nil, Reps]
 | n :: r => by
  simp only [List.map_cons, Reps, Rep]
  exact ⟨_, _, rfl, rfl, Reps.ints⟩
theorem Reps.reverse : ∀ {ds : List D} {xs : List V}, Reps K N fa H ds xs → Reps K N fa H ds.reverse xs.reverse
 | [], xs, h => by simp only [Reps] at h; subst h; simp only [List.reverse_nil, Reps]
 | d :: r, xs, h => by
  simp only [Reps] at h
  obtain ⟨x, zs, e1, h1, h2⟩ := h
  subst e1
  simp only [List.reverse_cons]
  exact Reps.append (Reps.reverse h2) (Reps.one h1)
end

inductive Sl where
 | no | val (d : D) | own (ds : List D)
structure DS where
 sl : List Sl
 fs : Option FS

noncomputable def NN (F : Addr → Prop) (fa : Option Addr) (O : List Addr) : Addr → Prop := fun b => F b ∨ b ∈ O ∨ fa = some b

noncomputable def SlR (K : PySem.W.Frag) (N : Addr → Prop) (fa : Option Addr) (H : Hp) : List Sl → List (Option V) → List Addr → Prop
 | [], σ, O => σ = [] ∧ O = []
 | .no :: r, σ, O => ∃ v τ, σ = v :: τ ∧ SlR K N fa H r τ O
 | .val d :: r, σ, O => ∃ u τ, σ = some u :: τ ∧ Rep K N fa H d u ∧ SlR K N fa H r τ O
 | .own ds :: r, σ, O => ∃ a xs τ P, σ = some (.ref a) :: τ ∧ O = a :: P ∧ H a = some (.lst xs) ∧ Reps K N fa H ds xs ∧ SlR K N fa H r τ P

structure Stp (fa : Option Addr) (O : List Addr) (H : Hp) (fa' : Option Addr) (O' : List Addr) (H' : Hp) : Prop where
 sub : ∀ b ∈ O', b ∈ O ∨ H b = none
 fe : fa' = fa ∨ (fa = none ∧ ∀ a, fa' = some a → H a = none)
 same : ∀ b u, H b = some u → b ∉ O → fa ≠ some b → H' b = some u
 mon : ∀ b, H' b = none → H b = none
structure StE (fa : Option Addr) (O : List Addr) (H : Hp) (fa' : Option Addr) (O' : List Addr) (H' : Hp) : Prop where
 sub : ∀ b ∈ O', b ∈ O
 fe : fa' = fa ∨ (fa = none ∧ ∀ a, fa' = some a → H a = none)
 same : ∀ b u, H b = some u → fa ≠ some b → H' b = some u
 mon : ∀ b, H' b = none → H b = none

structure DI (K : PySem.W.Frag) (F : Addr → Prop) (H0 : Hp) (fa0 : Option Addr) (σ : St) (H : Hp) (fa : Option Addr) (O : List Addr) (s : DS) : Prop where
 nd : O.Nodup
 sl : SlR K (NN F fa O) fa H s.sl σ O
 fr : ∀ b ∈ O, H0 b = none
 st : Stp fa0 [] H0 fa [] H
 tr : ∀ b, F b → H0 b ≠ none
 ff : ∀ a, fa0 = some a → F a
 fd : FeedR (NN F fa O) H fa s.fs
 nf : ∀ a, fa = some a → a ∉ O

section
variable {fa fa' fa'' : Option Addr} {O O' O'' : List Addr} {H H' H'' : Hp}
theorem StE.stp (h : StE fa O H fa' O' H') : Stp fa O H fa' O' H' := ⟨fun b hb => .inl (h.sub b hb), h.fe, fun b u e _ n => h.same b u e n, h.mon⟩
theorem StE.refl : StE fa O H fa O H := ⟨fun _ h => h, .inl rfl, fun _ _ e _ => e, fun _ h => h⟩
theorem Stp.refl : Stp fa O H fa O H := StE.refl.stp
theorem StE.trans (a : StE fa O H fa' O' H') (b : StE fa' O' H' fa'' O'' H'') : StE fa O H fa'' O'' H'' := by
 refine ⟨fun c hc => a.sub c (b.sub c hc), ?_, fun c u e n => ?_, fun c h => a.mon c (b.mon c h)⟩
 ·rcases a.fe with e | ⟨e, h⟩
  ·rcases b.fe with e' | ⟨e', h'⟩
   ·exact .inl (e'.trans e)
   ·exact .inr ⟨e ▸ e', fun c z => a.mon c (h' c z)⟩
  ·rcases b.fe with e' | ⟨e', h'⟩
   ·exact .inr ⟨e, fun c z => h c (e' ▸ z)⟩
   ·exact .inr ⟨e, fun c z => a.mon c (h' c z)⟩
 ·refine b.same c u (a.same c u e n) fun z => ?_
  rcases a.fe with q | ⟨q, h⟩
  ·rw [q] at z; exact n z
  ·rw [h c z] at e; cases e
theorem Stp.trans (a : Stp fa O H fa' O' H') (b : Stp fa' O' H' fa'' O'' H'') : Stp fa O H fa'' O'' H'' := by
 refine ⟨fun c hc => ?_, ?_, fun c u e hc n => ?_, fun c h => a.mon c (b.mon c h)⟩
 ·rcases b.sub c hc with q | q
  ·exact a.sub c q
  ·exact .inr (a.mon c q)
 ·rcases a.fe with e | ⟨e, h⟩
  ·rcases b.fe with e' | ⟨e', h'⟩
   ·exact .inl (e'.trans e)
   ·exact .inr ⟨e ▸ e', fun c z => a.mon c (h' c z)⟩
  ·rcases b.fe with e' | ⟨e', h'⟩
   ·exact .inr ⟨e, fun c z => h c (e' ▸ z)⟩
   ·exact .inr ⟨e, fun c z => a.mon c (h' c z)⟩
 ·refine b.same c u (a.same c u e hc n) (fun z => ?_) fun z => ?_
  ·rcases a.sub c z with q | q
   ·exact hc q
   ·rw [q] at e; cases e
  ·rcases a.fe with q | ⟨q, h⟩
   ·rw [q] at z; exact n z
   ·rw [h c z] at e; cases e
theorem Stp.fa_keep (a : Stp fa O H fa' O' H') {x : Addr} (h : fa = some x) : fa' = some x := by
 rcases a.fe with e | ⟨e, _⟩
 ·rw [e, h]
 ·rw [h] at e; cases e
variable {K : PySem.W.Frag} {F : Addr → Prop} {H0 : Hp} {fa0 : Option Addr} {σ : St} {s : DS}
theorem FeedR.no_frz {N : Addr → Prop} {fs : Option FS} {a : Addr} {o : Obj} {u : HO} (h : FeedR N H fa fs) (e : fa = some a) (q : H a = some (.frz o u)) : False := by
 subst e
 cases fs with
 | none => exact h
 | some f =>
  obtain ⟨_, c, h1, _⟩ := h
  rw [h1] at q; exact b3t (Option.some.inj q)
theorem FeedR.no_tup {N : Addr → Prop} {fs : Option FS} {a : Addr} {xs : List V} (h : FeedR N H fa fs) (e : fa = some a) (z : Rd H a (.tup xs)) : False := by
 rcases z with z | ⟨o, z⟩
 ·subst e
  cases fs with
  | none => exact h
  | some f =>
   obtain ⟨_, c, h1, _⟩ := h
   rw [h1] at z; exact b0g (Option.some.inj z)
 ·exact h.no_frz e z
theorem FeedR.tracked {N : Addr → Prop} {fs : Option FS} {a : Addr} (h : FeedR N H fa fs) (e : fa = some a) : H a ≠ none := by
 subst e
 cases fs with
 | none => exact h.elim
 | some f =>
  obtain ⟨_, c, h1, _⟩ := h
  rw [h1]; simp
theorem SqT.stp' (a : Stp fa O H fa' O' H') (hf : ∀ x, fa = some x → ∀ xs, ¬ Rd H x (.tup xs)) (hO : ∀ x ∈ O, ∀ xs, ¬ Rd H x (.tup xs)) {b : Addr} {xs : List V} (h : SqT K H b xs) : SqT K H' b xs := by
 rcases h with h | h
 ·refine .inl ?_
  have n1 : b ∉ O := fun z => hO b z xs h
  have n2 : fa ≠ some b := fun z => hf b z xs h
  rcases h with h | ⟨o, h⟩
  ·exact .inl (a.same _ _ h n1 n2)
  ·exact .inr ⟨o, a.same _ _ h n1 n2⟩
 ·exact .inr h
theorem SlR.owned : ∀ {sl : List Sl} {N : Addr → Prop} {σ : List (Option V)} {O : List Addr}, SlR K N fa H sl σ O → ∀ b ∈ O, ∃ xs, H b = some (.lst xs)
 | [], N, σ, O, h, b, hb => by simp only [SlR] at h; rw [h.2] at hb; cases hb
 | .no :: r, N, σ, O, h, b, hb => by
  simp only [SlR] at h
  obtain ⟨v, τ, _, h⟩ := h
  exact SlR.owned h b hb
 | .val d :: r, N, σ, O, h, b, hb => by
  simp only [SlR] at h
  obtain ⟨v, τ, _, _, h⟩ := h
  exact SlR.owned h b hb
 | .own ds :: r, N, σ, O, h, b, hb => by
  simp only [SlR] at h
  obtain ⟨a, xs, τ, P, _, rfl, e, _, h⟩ := h
  rcases List.mem_cons.mp hb with z | z
  ·subst z; exact ⟨xs, e⟩
  ·exact SlR.owned h b z
theorem DI.owned (I : DI K F H0 fa0 σ H fa O s) {b : Addr} (hb : b ∈ O) : ∃ xs, H b = some (.lst xs) := SlR.owned I.sl b hb
theorem DI.trF (I : DI K F H0 fa0 σ H fa O s) {b : Addr} (hb : F b) : H b ≠ none := fun z => I.tr b hb (I.st.mon b z)
theorem DI.nn_tracked (I : DI K F H0 fa0 σ H fa O s) {b : Addr} (h : NN F fa O b) : H b ≠ none := by
 rcases h with h | h | h
 ·exact I.trF h
 ·obtain ⟨xs, e⟩ := I.owned h
  rw [e]; simp
 ·exact I.fd.tracked h
theorem DI.nf_step (I : DI K F H0 fa0 σ H fa O s) (h : fa' = fa ∨ (fa = none ∧ ∀ a, fa' = some a → H a = none)) : ∀ a, fa' = some a → a ∉ O := fun a e m => by
 rcases h with z | ⟨z, y⟩
 ·rw [z] at e; exact I.nf a e m
 ·obtain ⟨xs, q⟩ := I.owned m
  rw [y a e] at q; cases q
theorem DI.car (I : DI K F H0 fa0 σ H fa O s) (a : Stp fa O H fa' O' H') : Car K (NN F fa O) fa H (NN F fa' O') fa' H' := by
 have nt : ∀ x xs, H x = some (.lst xs) → ∀ ys, ¬ Rd H x (.tup ys) := fun x xs e ys z => by
  rcases z with z | ⟨o, z⟩ <;> · rw [e] at z; cases z
 refine ⟨fun b xs n q => ?_, fun b xs q => ?_, fun b xs q => ?_, fun x e => a.fa_keep e⟩
 ·have n1 : b ∉ O := fun z => n (.inr (.inl z))
  have n2 : fa ≠ some b := fun z => n (.inr (.inr z))
  have tr : H b ≠ none := by rw [q]; simp
  refine ⟨a.same _ _ q n1 n2, fun z => ?_⟩
  ·rcases z with z | z | z
   ·exact n (.inl z)
   ·rcases a.sub b z with y | y
    ·exact n1 y
    ·exact tr y
   ·rcases a.fe with e | ⟨e, h⟩
    ·rw [e] at z; exact n2 z
    ·exact tr (h b z)
 ·refine SqT.stp' a (fun x e ys z => ?_) (fun x hx ys => ?_) q
  ·exact I.fd.no_tup e z
  ·obtain ⟨xs, e⟩ := I.owned hx
   exact nt x xs e ys
 ·rcases q with ⟨o, q⟩ | q
  ·refine .inl ⟨o, a.same _ _ q (fun z => ?_) fun z => ?_⟩
   ·obtain ⟨ys, e⟩ := I.owned z
    rw [e] at q; cases q
   ·exact I.fd.no_frz z q
  ·exact .inr q
end
end DL

namespace DL
open PySem PySem.Spec L2

structure Gh where
 F : Addr → Prop
 H0 : Hp
 fa0 : Option Addr
noncomputable abbrev GI (K : PySem.W.Frag) (g : Gh) := DI K g.F g.H0 g.fa0

section
variable {K : PySem.W.Frag} {N N' : Addr → Prop} {fa fa' : Option Addr} {H H' : Hp} {g : Gh} {σ : L2.St} {O O' : List Addr} {s : DS}
theorem SlR.go (c : Car K N fa H N' fa' H') : ∀ {sl : List Sl} {σ : List (Option V)} {O : List Addr}, (∀ a xs, a ∈ O → H a = some (.lst xs) → H' a = some (.lst xs)) → SlR K N fa H sl σ O → SlR K N' fa' H' sl σ O
 | [], σ, O, _, h => by simpa only [SlR] using h
 | .no :: r, σ, O, ho, h => by
  simp only [SlR] at h ⊢
  obtain ⟨v, τ, e, h⟩ := h
  exact ⟨v, τ, e, SlR.go c ho h⟩
 | .val d :: r, σ, O, ho, h => by
  simp only [SlR] at h ⊢
  obtain ⟨u, τ, e, q, h⟩ := h
  exact ⟨u, τ, e, Rep.go c d u q, SlR.go c ho h⟩
 | .own ds :: r, σ, O, ho, h => by
  simp only [SlR] at h ⊢
  obtain ⟨a, xs, τ, P, e, rfl, ha, q, h⟩ := h
  exact ⟨a, xs, τ, P, e, rfl, ho a xs (List.mem_cons_self ..) ha, Reps.go c ds xs q, SlR.go c (fun b ys hb => ho b ys (List.mem_cons_of_mem _ hb)) h⟩
theorem SlR.val : ∀ {sl : List Sl} {σ : List (Option V)} {O : List Addr} {i : Nat} {d : D}, SlR K N fa H sl σ O → sl[i]? = some (.val d) → ∃ u, σ[i]? = some (some u) ∧ Rep K N fa H d u
 | [], σ, O, i, d, h, e => by simp at e
 | .no :: r, σ, O, i, d, h, e => by
  simp only [SlR] at h
  obtain ⟨v, τ, rfl, h⟩ := h
  cases i with
  | zero => simp at e
  | succ i => simpa using SlR.val h (by simpa using e)
 | .val d' :: r, σ, O, i, d, h, e => by
  simp only [SlR] at h
  obtain ⟨u, τ, rfl, q, h⟩ := h
  cases i with
  | zero => simp at e; subst e; exact ⟨u, rfl, q⟩
  | succ i => simpa using SlR.val h (by simpa using e)
 | .own ds :: r, σ, O, i, d, h, e => by
  simp only [SlR] at h
  obtain ⟨a, xs, τ, P, rfl, rfl, ha, q, h⟩ := h
  cases i with
  | zero => simp at e
  | succ i => simpa using SlR.val h (by simpa using e)
theorem SlR.own : ∀ {sl : List Sl} {σ : List (Option V)} {O : List Addr} {i : Nat} {ds : List D}, SlR K N fa H sl σ O → sl[i]? = some (.own ds) → ∃ a xs, σ[i]? = some (some (.ref a)) ∧ a ∈ O ∧ H a = some (.lst xs) ∧ Reps K N fa H ds xs
 | [], σ, O, i, d, h, e => by simp at e
 | .no :: r, σ, O, i, d, h, e => by
  simp only [SlR] at h
  obtain ⟨v, τ, rfl, h⟩ := h
  cases i with
  | zero => simp at e
  | succ i => simpa using SlR.own h (by simpa using e)
 | .val d' :: r, σ, O, i, d, h, e => by
  simp only [SlR] at h
  obtain ⟨u, τ, rfl, q, h⟩ := h
  cases i with
  | zero => simp at e
  | succ i => simpa using SlR.own h (by simpa using e)
 | .own ds :: r, σ, O, i, d, h, e => by
  simp only [SlR] at h
  obtain ⟨a, xs, τ, P, rfl, rfl, ha, q, h⟩ := h
  cases i with
  | zero => simp at e; subst e; exact ⟨a, xs, rfl, List.mem_cons_self .., ha, q⟩
  | succ i =>
   obtain ⟨b, ys, e1, m, e2, q2⟩ := SlR.own h (by simpa using e)
   exact ⟨b, ys, by simpa using e1, List.mem_cons_of_mem _ m, e2, q2⟩
theorem SlR.put : ∀ {sl : List Sl} {σ : List (Option V)} {O : List Addr} (i : Nat) {d : D} {u : V}, SlR K N fa H sl σ O → Rep K N fa H d u →
  ∃ P, P.Sublist O ∧ SlR K N fa H (sl.set i (.val d)) (σ.set i (some u)) P ∧ (O.Nodup → ∀ a, sl[i]?.isSome = true → (∃ ds, sl[i]? = some (.own ds)) → σ[i]? = some (some (.ref a)) → a ∉ P)
 | [], σ, O, i, d, u, h, q => by
  simp only [SlR] at h
  refine ⟨O, List.Sublist.refl _, ?_, fun _ a z => by simp at z⟩
  rw [h.1, h.2]
  simp [SlR]
 | .no :: r, σ, O, i, d, u, h, q => by
  simp only [SlR] at h
  obtain ⟨v, τ, rfl, h⟩ := h
  cases i with
  | zero => exact ⟨O, List.Sublist.refl _, by simp only [List.set_cons_zero, SlR]; exact ⟨u, τ, rfl, q, h⟩, fun _ a _ z => by obtain ⟨ds, z⟩ := z; simp at z⟩
  | succ i =>
   obtain ⟨P, hs, h1, h2⟩ := SlR.put i h q
   exact ⟨P, hs, by simp only [List.set_cons_succ, SlR]; exact ⟨v, _, rfl, h1⟩, by simpa using h2⟩
 | .val d' :: r, σ, O, i, d, u, h, q => by
  simp only [SlR] at h
  obtain ⟨v, τ, rfl, qv, h⟩ := h
  cases i with
  | zero => exact ⟨O, List.Sublist.refl _, by simp only [List.set_cons_zero, SlR]; exact ⟨u, τ, rfl, q, h⟩, fun _ a _ z => by obtain ⟨ds, z⟩ := z; simp at z⟩
  | succ i =>
   obtain ⟨P, hs, h1, h2⟩ := SlR.put i h q
   exact ⟨P, hs, by simp only [List.set_cons_succ, SlR]; exact ⟨v, _, rfl, qv, h1⟩, by simpa using h2⟩
 | .own ds :: r, σ, O, i, d, u, h, q => by
  simp only [SlR] at h
  obtain ⟨a, xs, τ, P, rfl, rfl, ha, qv, h⟩ := h
  cases i with
  | zero =>
   refine ⟨P, List.sublist_cons_self .., by simp only [List.set_cons_zero, SlR]; exact ⟨u, τ, rfl, q, h⟩, fun nd b _ _ e => ?_⟩
   simp at e; subst e
   exact (List.nodup_cons.mp nd).1
  | succ i =>
   obtain ⟨P', hs, h1, h2⟩ := SlR.put i h q
   refine ⟨a :: P', hs.cons_cons a, by simp only [List.set_cons_succ, SlR]; exact ⟨a, xs, _, P', rfl, rfl, ha, qv, h1⟩, fun nd b e1 e2 e3 => ?_⟩
   have nd' := List.nodup_cons.mp nd
   have n1 := h2 nd'.2 b (by simpa using e1) (by simpa using e2) (by simpa using e3)
   intro z
   rcases List.mem_cons.mp z with z | z
   ·subst z
    obtain ⟨dz, e2⟩ := e2
    obtain ⟨b', _, e4, m, _⟩ := SlR.own h (i := i) (by simpa using e2)
    rw [List.getElem?_cons_succ] at e3
    rw [e3] at e4
    cases e4
    exact nd'.1 m
   ·exact n1 z
theorem SlR.putN : ∀ {sl : List Sl} {σ : List (Option V)} {O : List Addr} (i : Nat) {ds : List D} {p : Addr} {xs : List V}, SlR K N fa H sl σ O → i < sl.length → p ∉ O → O.Nodup → H p = some (.lst xs) → Reps K N fa H ds xs →
  ∃ P, (∀ b ∈ P, b = p ∨ b ∈ O) ∧ P.Nodup ∧ SlR K N fa H (sl.set i (.own ds)) (σ.set i (some (.ref p))) P
 | [], σ, O, i, ds, p, xs, h, hi, hp, nd, e, q => by simp at hi
 | .no :: r, σ, O, i, ds, p, xs, h, hi, hp, nd, e, q => by
  simp only [SlR] at h
  obtain ⟨v, τ, rfl, h⟩ := h
  cases i with
  | zero => exact ⟨p :: O, fun b hb => List.mem_cons.mp hb, List.nodup_cons.mpr ⟨hp, nd⟩, by simp only [List.set_cons_zero, SlR]; exact ⟨p, xs, τ, O, rfl, rfl, e, q, h⟩⟩
  | succ i =>
   obtain ⟨P, h1, h2, h3⟩ := SlR.putN i h (by simpa using hi) hp nd e q
   exact ⟨P, h1, h2, by simp only [List.set_cons_succ, SlR]; exact ⟨v, _, rfl, h3⟩⟩
 | .val d' :: r, σ, O, i, ds, p, xs, h, hi, hp, nd, e, q => by
  simp only [SlR] at h
  obtain ⟨v, τ, rfl, qv, h⟩ := h
  cases i with
  | zero => exact ⟨p :: O, fun b hb => List.mem_cons.mp hb, List.nodup_cons.mpr ⟨hp, nd⟩, by simp only [List.set_cons_zero, SlR]; exact ⟨p, xs, τ, O, rfl, rfl, e, q, h⟩⟩
  | succ i =>
   obtain ⟨P, h1, h2, h3⟩ := SlR.putN i h (by simpa using hi) hp nd e q
   exact ⟨P, h1, h2, by simp only [List.set_cons_succ, SlR]; exact ⟨v, _, rfl, qv, h3⟩⟩
 | .own ds' :: r, σ, O, i, ds, p, xs, h, hi, hp, nd, e, q => by
  simp only [SlR] at h
  obtain ⟨a, ys, τ, P, rfl, rfl, ha, qv, h⟩ := h
  have nd' := List.nodup_cons.mp nd
  cases i with
  | zero =>
   refine ⟨p :: P, fun b hb => (List.mem_cons.mp hb).imp id fun z => List.mem_cons_of_mem _ z, List.nodup_cons.mpr ⟨fun z => hp (List.mem_cons_of_mem _ z), nd'.2⟩, ?_⟩
   simp only [List.set_cons_zero, SlR]
   exact ⟨p, xs, τ, P, rfl, rfl, e, q, h⟩
  | succ i =>
   obtain ⟨P', h1, h2, h3⟩ := SlR.putN i h (by simpa using hi) (fun z => hp (List.mem_cons_of_mem _ z)) nd'.2 e q
   refine ⟨a :: P', fun b hb => ?_, List.nodup_cons.mpr ⟨fun z => ?_, h2⟩, by simp only [List.set_cons_succ, SlR]; exact ⟨a, ys, _, P', rfl, rfl, ha, qv, h3⟩⟩
   ·rcases List.mem_cons.mp hb with z | z
    ·exact .inr (by rw [z]; exact List.mem_cons_self ..)
    ·exact (h1 b z).imp id fun y => List.mem_cons_of_mem _ y
   ·rcases h1 a z with y | y
    ·exact hp (by rw [y]; exact List.mem_cons_self ..)
    ·exact nd'.1 y
theorem SlR.rew : ∀ {sl : List Sl} {σ : List (Option V)} {O : List Addr} {i : Nat} {ds es : List D} {a : Addr} {ys : List V}, SlR K N fa H sl σ O → O.Nodup → (∀ b ∈ O, N b) → sl[i]? = some (.own ds) → σ[i]? = some (some (.ref a)) → H' a = some (.lst ys) →
  Car K N fa H N fa H' → (∀ b u, b ≠ a → H b = some u → H' b = some u) → Reps K N fa H' es ys → SlR K N fa H' (sl.set i (.own es)) σ O
 | [], σ, O, i, ds, es, a, ys, h, nd, hN, e1, e2, e3, c, k, q => by simp at e1
 | .no :: r, σ, O, i, ds, es, a, ys, h, nd, hN, e1, e2, e3, c, k, q => by
  simp only [SlR] at h
  obtain ⟨v, τ, rfl, h⟩ := h
  cases i with
  | zero => simp at e1
  | succ i => simp only [List.set_cons_succ, SlR]; exact ⟨v, τ, rfl, SlR.rew h nd hN (by simpa using e1) (by simpa using e2) e3 c k q⟩
 | .val d' :: r, σ, O, i, ds, es, a, ys, h, nd, hN, e1, e2, e3, c, k, q => by
  simp only [SlR] at h
  obtain ⟨v, τ, rfl, qv, h⟩ := h
  cases i with
  | zero => simp at e1
  | succ i => simp only [List.set_cons_succ, SlR]; exact ⟨v, τ, rfl, Rep.go c _ _ qv, SlR.rew h nd hN (by simpa using e1) (by simpa using e2) e3 c k q⟩
 | .own ds' :: r, σ, O, i, ds, es, a, ys, h, nd, hN, e1, e2, e3, c, k, q => by
  simp only [SlR] at h
  obtain ⟨b, zs, τ, P, rfl, rfl, ha, qv, h⟩ := h
  have nd' := List.nodup_cons.mp nd
  cases i with
  | zero =>
   simp at e2
   subst e2
   simp only [List.set_cons_zero, SlR]
   exact ⟨b, ys, τ, P, rfl, rfl, e3, q, SlR.go c (fun x xs hx z => k x _ (fun y => nd'.1 (y ▸ hx)) z) h⟩
  | succ i =>
   have nb : b ≠ a := fun z => by
    obtain ⟨a', _, e4, m, _⟩ := SlR.own h (i := i) (by simpa using e1)
    rw [List.getElem?_cons_succ] at e2
    rw [e2] at e4
    cases e4
    exact nd'.1 (z ▸ m)
   simp only [List.set_cons_succ, SlR]
   exact ⟨b, zs, τ, P, rfl, rfl, k b _ nb ha, Reps.go c _ _ qv, SlR.rew h nd'.2 (fun x hx => hN x (List.mem_cons_of_mem _ hx)) (by simpa using e1) (by simpa using e2) e3 c k q⟩

theorem RepB.stp {d : D} {v : V} (I : GI K g σ H fa O s) (a : StE fa O H fa' O' H') (h : RepB K (NN g.F fa O) fa H d v) : RepB K (NN g.F fa' O') fa' H' d v := by
 have c := I.car a.stp
 cases d with
 | lst ds =>
  obtain ⟨x, xs, e, nf, q, r⟩ := h
  refine ⟨x, xs, e, fun z => ?_, a.same _ _ q nf, Reps.go c ds xs r⟩
  rcases a.fe with y | ⟨_, y⟩
  ·rw [y] at z; exact nf z
  ·rw [y x z] at q; cases q
 | _ =>
  simp only [RepB] at h ⊢
  exact Rep.go c _ _ h
theorem Rep.stp {d : D} {v : V} (I : GI K g σ H fa O s) (a : Stp fa O H fa' O' H') (h : Rep K (NN g.F fa O) fa H d v) : Rep K (NN g.F fa' O') fa' H' d v := Rep.go (I.car a) d v h
theorem Reps.stp {ds : List D} {xs : List V} (I : GI K g σ H fa O s) (a : Stp fa O H fa' O' H') (h : Reps K (NN g.F fa O) fa H ds xs) : Reps K (NN g.F fa' O') fa' H' ds xs := Reps.go (I.car a) ds xs h

theorem E8 {p : Addr} {o : HO} (h : H p = none) : StE fa O H fa O (upd H p o) :=
 ⟨fun _ h => h, .inl rfl, fun b u e _ => by rw [u5 (L0 e h)]; exact e, fun b z => by
  by_cases hb : b = p
  ·subst hb; exact h
  ·rw [u5 hb] at z; exact z⟩
theorem FeedR.car {fs : Option FS} (c : Car K N fa H N' fa H') (h : ∀ a, fa = some a → H' a = H a) (f : FeedR N H fa fs) : FeedR N' H' fa fs := by
 cases fa with
 | none => cases fs <;> simpa only [FeedR] using f
 | some a =>
  cases fs with
  | none => simpa only [FeedR] using f
  | some x =>
   simp only [FeedR] at f ⊢
   obtain ⟨l, b, h1, h2, h3⟩ := f
   obtain ⟨q, n⟩ := c.ls b _ h2 h3
   exact ⟨l, b, by rw [h a rfl]; exact h1, n, q⟩
theorem FeedR.same_new {fs : Option FS} {p : Addr} {o : HO} (f : FeedR N H fa fs) (h : H p = none) : ∀ a, fa = some a → upd H p o a = H a := fun a e => u5 fun z => f.tracked e (z ▸ h)
theorem DI.new {p : Addr} {o : HO} (I : GI K g σ H fa O s) (h : H p = none) : GI K g σ (upd H p o) fa O s := by
 have a : StE fa O H fa O (upd H p o) := E8 h
 refine ⟨I.nd, SlR.go (I.car a.stp) (fun b xs hb e => ?_) I.sl, I.fr, I.st.trans ((E8 (O := []) h).stp), I.tr, I.ff, I.fd.car (I.car a.stp) (I.fd.same_new h), I.nf⟩
 rw [u5 (L0 e h)]; exact e
end

noncomputable abbrev DE := DS → Option (D × DS)
noncomputable abbrev DT := DS → Option (Bool × DS)
noncomputable abbrev DA := DS → Option (List D × DS)
inductive Fl where
 | next | brk | cont | ret (d : D)
noncomputable abbrev DM := DS → Option (Fl × DS)

structure NewL (K : PySem.W.Frag) (g : Gh) (σ : L2.St) (H : Hp) (fa : Option Addr) (O : List Addr) (s : DS) (p : Addr) (xs : List V) (ds : List D) : Prop where
 gi : GI K g σ H fa O s
 ls : H p = some (.lst xs)
 sl : SlR K (fun b => NN g.F fa O b ∨ b = p) fa H s.sl σ O
 fd : FeedR (fun b => NN g.F fa O b ∨ b = p) H fa s.fs
 rs : Reps K (fun b => NN g.F fa O b ∨ b = p) fa H ds xs
 nf : fa ≠ some p
section
variable (K : PySem.W.Frag) (g : Gh)
noncomputable def liftE (f : DE) : TE := fun σ H Q => ∃ fa O s d s', GI K g σ H fa O s ∧ f s = some (d, s') ∧
 ∀ v H' fa' O', StE fa O H fa' O' H' → GI K g σ H' fa' O' s' → Rep K (NN g.F fa' O') fa' H' d v → Q v H'
noncomputable def liftB (f : DE) : TE := fun σ H Q => ∃ fa O s d s', GI K g σ H fa O s ∧ f s = some (d, s') ∧
 ∀ v H' fa' O', StE fa O H fa' O' H' → GI K g σ H' fa' O' s' → RepB K (NN g.F fa' O') fa' H' d v → Q v H'
noncomputable def liftF (f : DA) : TE := fun σ H Q => ∃ fa O s ds s', GI K g σ H fa O s ∧ f s = some (ds, s') ∧
 ∀ p xs H' fa' O', StE fa O H fa' O' H' → NewL K g σ H' fa' O' s' p xs ds → H p = none → Q (.ref p) H'
noncomputable def liftT (f : DT) : TT := fun σ H Q => ∃ fa O s d s', GI K g σ H fa O s ∧ f s = some (d, s') ∧
 ∀ H' fa' O', StE fa O H fa' O' H' → GI K g σ H' fa' O' s' → Q d H'
noncomputable def liftA (f : DA) : TA := fun σ H Q => ∃ fa O s ds s', GI K g σ H fa O s ∧ f s = some (ds, s') ∧
 ∀ vs H' fa' O', StE fa O H fa' O' H' → GI K g σ H' fa' O' s' → Reps K (NN g.F fa' O') fa' H' ds vs → Q vs H'
noncomputable def liftBA (f : DA) : TA := fun σ H Q => ∃ fa O s ds s', GI K g σ H fa O s ∧ f s = some (ds, s') ∧
 ∀ vs H' fa' O', StE fa O H fa' O' H' → GI K g σ H' fa' O' s' → P6 K (NN g.F fa' O') fa' H' ds vs → Q vs H'
noncomputable def FlK (E : Ends) (fa : Option Addr) (O : List Addr) (H : Hp) (fl : Fl) (s' : DS) : Prop :=
 match fl with
 | .next => ∀ σ' H' fa' O', Stp fa O H fa' O' H' → GI K g σ' H' fa' O' s' → E.nx σ' H'
 | .brk => ∀ σ' H' fa' O', Stp fa O H fa' O' H' → GI K g σ' H' fa' O' s' → E.bk σ' H'
 | .cont => ∀ σ' H' fa' O', Stp fa O H fa' O' H' → GI K g σ' H' fa' O' s' → E.ct σ' H'
 | .ret d => ∀ σ' v H' fa' O', Stp fa O H fa' O' H' → GI K g σ' H' fa' O' s' → Rep K (NN g.F fa' O') fa' H' d v → E.rt v H'
noncomputable def liftS (f : DM) : TS := fun E σ H => ∃ fa O s fl s', GI K g σ H fa O s ∧ f s = some (fl, s') ∧ FlK K g E fa O H fl s'
end
section
variable {K : PySem.W.Frag} {g : Gh} {σ : L2.St} {H : Hp} {G : Prop}
theorem liftE.elim {f : DE} {Q : VK} (h : liftE K g f σ H Q) (k : ∀ fa O s d s', GI K g σ H fa O s → f s = some (d, s') → (∀ v H' fa' O', StE fa O H fa' O' H' → GI K g σ H' fa' O' s' → Rep K (NN g.F fa' O') fa' H' d v → Q v H') → G) : G := by
 obtain ⟨fa, O, s, d, s', a, b, c⟩ := h
 exact k fa O s d s' a b c
theorem liftB.elim {f : DE} {Q : VK} (h : liftB K g f σ H Q) (k : ∀ fa O s d s', GI K g σ H fa O s → f s = some (d, s') → (∀ v H' fa' O', StE fa O H fa' O' H' → GI K g σ H' fa' O' s' → RepB K (NN g.F fa' O') fa' H' d v → Q v H') → G) : G := by
 obtain ⟨fa, O, s, d, s', a, b, c⟩ := h
 exact k fa O s d s' a b c
theorem liftF.elim {f : DA} {Q : VK} (h : liftF K g f σ H Q) (k : ∀ fa O s d s', GI K g σ H fa O s → f s = some (d, s') → (∀ p xs H' fa' O', StE fa O H fa' O' H' → NewL K g σ H' fa' O' s' p xs d → H p = none → Q (.ref p) H') → G) : G := by
 obtain ⟨fa, O, s, d, s', a, b, c⟩ := h
 exact k fa O s d s' a b c
theorem liftT.elim {f : DT} {Q : Bool → Hp → Prop} (h : liftT K g f σ H Q) (k : ∀ fa O s d s', GI K g σ H fa O s → f s = some (d, s') → (∀ H' fa' O', StE fa O H fa' O' H' → GI K g σ H' fa' O' s' → Q d H') → G) : G := by
 obtain ⟨fa, O, s, d, s', a, b, c⟩ := h
 exact k fa O s d s' a b c
theorem liftA.elim {f : DA} {Q : List V → Hp → Prop} (h : liftA K g f σ H Q) (k : ∀ fa O s d s', GI K g σ H fa O s → f s = some (d, s') → (∀ vs H' fa' O', StE fa O H fa' O' H' → GI K g σ H' fa' O' s' → Reps K (NN g.F fa' O') fa' H' d vs → Q vs H') → G) : G := by
 obtain ⟨fa, O, s, d, s', a, b, c⟩ := h
 exact k fa O s d s' a b c
theorem liftBA.elim {f : DA} {Q : List V → Hp → Prop} (h : liftBA K g f σ H Q) (k : ∀ fa O s d s', GI K g σ H fa O s → f s = some (d, s') → (∀ vs H' fa' O', StE fa O H fa' O' H' → GI K g σ H' fa' O' s' → P6 K (NN g.F fa' O') fa' H' d vs → Q vs H') → G) : G := by
 obtain ⟨fa, O, s, d, s', a, b, c⟩ := h
 exact k fa O s d s' a b c
theorem liftS.elim {f : DM} {E : Ends} (h : liftS K g f E σ H) (k : ∀ fa O s d s', GI K g σ H fa O s → f s = some (d, s') → (FlK K g E fa O H d s') → G) : G := by
 obtain ⟨fa, O, s, d, s', a, b, c⟩ := h
 exact k fa O s d s' a b c
end
structure EO (X : Cx) (g : Gh) (e : Expr) (f : DE) : Prop where
 pe : PE X e (liftE X.K g f)
structure BO (X : Cx) (g : Gh) (e : Expr) (f : DE) : Prop where
 pe : PE X e (liftB X.K g f)
structure FO (X : Cx) (g : Gh) (e : Expr) (f : DA) : Prop where
 pe : PE X e (liftF X.K g f)
structure TO (X : Cx) (g : Gh) (e : Expr) (f : DT) : Prop where
 pe : PT X e (liftT X.K g f)
structure WO (X : Cx) (g : Gh) (e : Expr) (f : DT) : Prop where
 pe : PW X e (liftT X.K g f)
structure AO (X : Cx) (g : Gh) (es : List Expr) (f : DA) : Prop where
 pe : PA X es (liftA X.K g f)
structure BAO (X : Cx) (g : Gh) (es : List Expr) (f : DA) : Prop where
 pe : PA X es (liftBA X.K g f)
structure SO (X : Cx) (g : Gh) (st : Stmt) (f : DM) : Prop where
 pe : PS X st (liftS X.K g f)
structure SSO (X : Cx) (g : Gh) (st : List Stmt) (f : DM) : Prop where
 pe : PSs X st (liftS X.K g f)

section
variable {X : Cx} {g : Gh} {e : Expr} {f : DE}
theorem PEw {t t' : TE} (h : PE X e t) (w : ∀ σ H Q, t' σ H Q → t σ H Q) : PE X e t' := fun pins s σ H Q I q => h pins s σ H Q I (w σ H Q q)
theorem PTw {t t' : TT} (h : PT X e t) (w : ∀ σ H Q, t' σ H Q → t σ H Q) : PT X e t' := fun pins s σ H Q I q => h pins s σ H Q I (w σ H Q q)
theorem PWw {t t' : TT} (h : PW X e t) (w : ∀ σ H Q, t' σ H Q → t σ H Q) : PW X e t' := fun wh pins s σ H Q I q => h wh pins s σ H Q I (w σ H Q q)
theorem PAw {es : List Expr} {t t' : TA} (h : PA X es t) (w : ∀ σ H Q, t' σ H Q → t σ H Q) : PA X es t' := fun pos pins s σ H Q I q => h pos pins s σ H Q I (w σ H Q q)
theorem PSw {st : Stmt} {t t' : TS} (h : PS X st t) (w : ∀ E σ H, t' E σ H → t E σ H) : PS X st t' := fun pins s σ H E I q => h pins s σ H E I (w E σ H q)
theorem b3n {st : List Stmt} {t t' : TS} (h : PSs X st t) (w : ∀ E σ H, t' E σ H → t E σ H) : PSs X st t' := fun pins s σ H E I q => h pins s σ H E I (w E σ H q)
theorem EO.w {f : DE} {t : TE} (h : PE X e t) (w : ∀ σ H Q, liftE X.K g f σ H Q → t σ H Q) : EO X g e f := ⟨PEw h w⟩
theorem BO.w {f : DE} {t : TE} (h : PE X e t) (w : ∀ σ H Q, liftB X.K g f σ H Q → t σ H Q) : BO X g e f := ⟨PEw h w⟩
theorem FO.w {f : DA} {t : TE} (h : PE X e t) (w : ∀ σ H Q, liftF X.K g f σ H Q → t σ H Q) : FO X g e f := ⟨PEw h w⟩
theorem TO.w {f : DT} {t : TT} (h : PT X e t) (w : ∀ σ H Q, liftT X.K g f σ H Q → t σ H Q) : TO X g e f := ⟨PTw h w⟩
theorem WO.w {f : DT} {t : TT} (h : PW X e t) (w : ∀ σ H Q, liftT X.K g f σ H Q → t σ H Q) : WO X g e f := ⟨PWw h w⟩
theorem AO.w {es : List Expr} {f : DA} {t : TA} (h : PA X es t) (w : ∀ σ H Q, liftA X.K g f σ H Q → t σ H Q) : AO X g es f := ⟨PAw h w⟩
theorem BAO.w {es : List Expr} {f : DA} {t : TA} (h : PA X es t) (w : ∀ σ H Q, liftBA X.K g f σ H Q → t σ H Q) : BAO X g es f := ⟨PAw h w⟩
theorem SO.w {st : Stmt} {f : DM} {t : TS} (h : PS X st t) (w : ∀ E σ H, liftS X.K g f E σ H → t E σ H) : SO X g st f := ⟨PSw h w⟩
theorem SSO.w {st : List Stmt} {f : DM} {t : TS} (h : PSs X st t) (w : ∀ E σ H, liftS X.K g f E σ H → t E σ H) : SSO X g st f := ⟨b3n h w⟩
theorem EO.b (h : EO X g e f) : BO X g e f := BO.w h.pe fun σ H Q ⟨fa, O, s, d, s', I, e, k⟩ => ⟨fa, O, s, d, s', I, e, fun v H' fa' O' a I' r => k v H' fa' O' a I' (r.b fun _ z => .inr (.inr z))⟩
noncomputable def i7 (f : DA) : DE := fun s => (f s).map fun p => (.lst p.1, p.2)
theorem a09 {K : PySem.W.Frag} {σ : L2.St} {H H' : Hp} {fa fa' : Option Addr} {O O' : List Addr} {s s' : DS} {p : Addr} (I : GI K g σ H fa O s) (a : StE fa O H fa' O' H') (I' : GI K g σ H' fa' O' s') (e : H p = none) (e' : fa' ≠ some p) : ¬ NN g.F fa' O' p := by
 rintro (z | z | z)
 ·exact I.trF z e
 ·obtain ⟨ys, q⟩ := I.owned (a.sub p z)
  rw [e] at q; cases q
 ·exact e' z
theorem FO.v {f : DA} (h : FO X g e f) : EO X g e (i7 f) := EO.w h.pe fun σ H Q hQ => by
 refine hQ.elim fun fa O s d s' I e k => ?_
 simp only [i7] at e
 cases q : f s with
 | none => rw [q] at e; cases e
 | some p =>
  obtain ⟨ds, s1⟩ := p
  rw [q] at e
  simp only [Option.map_some, Option.some.injEq, Prod.mk.injEq] at e
  obtain ⟨e1, e2⟩ := e
  subst e1; subst e2
  refine ⟨fa, O, s, ds, s1, I, q, fun p xs H' fa' O' a L e1 => k _ H' fa' O' a L.gi ?_⟩
  simp only [Rep]
  exact ⟨p, xs, rfl, a09 I a L.gi e1 L.nf, L.ls, Reps.go ⟨fun b ys n q => ⟨q, fun z => n (.inl z)⟩, fun _ _ q => q, fun _ _ q => q, fun _ q => q⟩ ds xs L.rs⟩
end
end DL

namespace DL
open PySem PySem.Spec L2

theorem a00 {g : Gh} {K : PySem.W.Frag} {σ : L2.St} {H : Hp} {fa : Option Addr} {O : List Addr} {s : DS} {p : Addr} {o : HO} (I : GI K g σ H fa O s) (hp : H p = none) : Car K (NN g.F fa O) fa H (fun b => NN g.F fa O b ∨ b = p) fa (upd H p o) := by
 have c := I.car (E8 (fa := fa) (O := O) (o := o) hp).stp
 refine ⟨fun b xs n q => ?_, c.tp, c.fz, c.fe⟩
 obtain ⟨q', n'⟩ := c.ls b xs n q
 refine ⟨q', ?_⟩
 rintro (z | z)
 ·exact n' z
 ·subst z
  rw [hp] at q; cases q
theorem T7 {g : Gh} {K : PySem.W.Frag} {σ : L2.St} {H : Hp} {fa : Option Addr} {O : List Addr} {s : DS} {p : Addr} {ds : List D} {xs : List V} (I : GI K g σ H fa O s) (hp : H p = none) (r : Reps K (NN g.F fa O) fa H ds xs) : NewL K g σ (upd H p (.lst xs)) fa O s p xs ds :=
 ⟨I.new hp, C9, SlR.go (a00 I hp) (fun b ys _ e => by rw [u5 (L0 e hp)]; exact e) I.sl, I.fd.car (a00 I hp) (I.fd.same_new hp), Reps.go (a00 I hp) ds xs r, fun z => I.fd.tracked z hp⟩

noncomputable def dC (d : D) : DE := fun s => some (d, s)
noncomputable def dV (i : Nat) : DE := fun s => match s.sl[i]? with
 | some (.val d) => some (d, s)
 | some (.own ds) => some (.lst ds, { s with sl := s.sl.set i (.val (.lst ds)) })
 | _ => none
noncomputable def dL (i : Nat) : DE := fun s => match s.sl[i]? with
 | some (.val d) => some (d, s)
 | some (.own ds) => some (.lst ds, s)
 | _ => none
section
variable {X : Cx} {g : Gh}
theorem c7 {i : Nat} {x : Str} {pos : Pos} (h : PE X (.Name x pos) (T6 i)) : BO X g (.Name x pos) (dL i) := BO.w h fun σ H Q hQ => by
 refine hQ.elim fun fa O s d s' I e k => ?_
 simp only [dL] at e
 cases q : s.sl[i]? with
 | none => rw [q] at e; cases e
 | some z =>
  rw [q] at e
  cases z with
  | no => cases e
  | val d' =>
   cases e
   obtain ⟨u, e1, r⟩ := SlR.val I.sl q
   exact ⟨u, e1, k u H fa O StE.refl I (r.b fun _ z => .inr (.inr z))⟩
  | own ds =>
   cases e
   obtain ⟨a, xs, e1, m, e2, r⟩ := SlR.own I.sl q
   exact ⟨_, e1, k _ H fa O StE.refl I ⟨a, xs, rfl, fun z => I.nf a z m, e2, r⟩⟩
theorem i9 {i : Nat} {x : Str} {pos : Pos} (h : PE X (.Name x pos) (T6 i)) : EO X g (.Name x pos) (dV i) := EO.w h fun σ H Q hQ => by
 refine hQ.elim fun fa O s d s' I e k => ?_
 simp only [dV] at e
 cases q : s.sl[i]? with
 | none => rw [q] at e; cases e
 | some z =>
  rw [q] at e
  cases z with
  | no => cases e
  | val d' =>
   cases e
   obtain ⟨u, e1, r⟩ := SlR.val I.sl q
   exact ⟨u, e1, k u H fa O StE.refl I r⟩
  | own ds =>
   cases e
   obtain ⟨a, xs, e1, m, e2, r⟩ := SlR.own I.sl q
   have i' : i < s.sl.length := (List.getElem?_eq_some_iff.mp q).1
   let N1 : Addr → Prop := fun b => NN g.F fa O b ∧ b ≠ a
   have c1 : Car X.K (NN g.F fa O) fa H N1 fa H := ⟨fun b ys n z => ⟨z, fun y => n y.1⟩, fun _ _ z => z, fun _ _ z => z, fun _ z => z⟩
   have S1 := SlR.go c1 (fun _ _ _ z => z) I.sl
   have R1 : Rep X.K N1 fa H (.lst ds) (.ref a) := by
    simp only [Rep]
    exact ⟨a, xs, rfl, fun z => z.2 rfl, e2, Reps.go c1 ds xs r⟩
   obtain ⟨P, hs, S2, hn⟩ := SlR.put i S1 R1
   have na : a ∉ P := hn I.nd a (by rw [q]; rfl) ⟨ds, q⟩ e1
   have eσ : σ.set i (some (V.ref a)) = σ := by
    apply List.ext_getElem?
    intro j
    by_cases hj : j = i
    ·subst hj
     rw [e1, List.getElem?_set_self (List.getElem?_eq_some_iff.mp e1).1]
    ·rw [List.getElem?_set_ne (Ne.symm hj)]
   rw [eσ] at S2
   have sub : ∀ b ∈ P, b ∈ O := fun b hb => hs.subset hb
   have a1 : StE fa O H fa P H := ⟨sub, .inl rfl, fun _ _ z _ => z, fun _ z => z⟩
   have c2 : Car X.K N1 fa H (NN g.F fa P) fa H := ⟨fun b ys n z => ⟨z, fun y => n ⟨by
     rcases y with y | y | y
     ·exact .inl y
     ·exact .inr (.inl (sub b y))
     ·exact .inr (.inr y), fun w => by
     subst w
     rcases y with y | y | y
     ·exact I.tr b y (I.fr b m)
     ·exact na y
     ·exact I.nf b y m⟩⟩, fun _ _ z => z, fun _ _ z => z, fun _ z => z⟩
   refine ⟨_, e1, k _ H fa P a1 ⟨hs.nodup I.nd, SlR.go c2 (fun _ _ _ z => z) S2, fun b hb => I.fr b (sub b hb), I.st, I.tr, I.ff, (I.fd.car c1 fun _ _ => rfl).car c2 fun _ _ => rfl, fun b z y => I.nf b z (sub b y)⟩ (Rep.go c2 _ _ R1)⟩
theorem a0W {e : Expr} {v : V} {d : D} (h : PE X e (tC v)) (r : ∀ K N fa H, Rep K N fa H d v) : EO X g e (dC d) := EO.w h fun σ H Q hQ => by
 refine hQ.elim fun fa O s d' s' I q k => ?_
 simp only [dC, Option.some.injEq, Prod.mk.injEq] at q
 obtain ⟨q1, q2⟩ := q
 subst q1; subst q2
 exact k v H fa O StE.refl I (r _ _ _ _)
theorem a8 {i j pos} : EO X g (.Constant (.int i) j pos) (dC (.int i)) := a0W a0q fun _ _ _ _ => by simp only [Rep]
theorem w4 {i j pos} : EO X g (.Constant (.bool i) j pos) (dC (.bl i)) := a0W a9n fun _ _ _ _ => by simp only [Rep]
theorem a69 {j pos} : EO X g (.Constant .none j pos) (dC .non) := a0W a8w fun _ _ _ _ => by simp only [Rep]
theorem K7 {x j pos} (hx : x.length ≤ sizeLine) : EO X g (.Constant (.str x) j pos) (dC (.str x)) := a0W U8 fun _ _ _ _ => by simp only [Rep]; exact ⟨trivial, hx⟩
end

noncomputable def R2D (K : PySem.W.Frag) (r : R2) (p : D → D → Option D) : Prop :=
 ∀ (g : Gh) (σ : L2.St) (H : Hp) (fa : Option Addr) (O : List Addr) (s : DS) (x y : V) (d1 d2 d : D) (Q : VK), GI K g σ H fa O s → RepB K (NN g.F fa O) fa H d1 x → RepB K (NN g.F fa O) fa H d2 y → p d1 d2 = some d →
  (∀ v H', StE fa O H fa O H' → GI K g σ H' fa O s → Rep K (NN g.F fa O) fa H' d v → Q v H') → r x y H Q
noncomputable def R1D (K : PySem.W.Frag) (r : V → Hp → VK → Prop) (p : D → Option D) : Prop :=
 ∀ (g : Gh) (σ : L2.St) (H : Hp) (fa : Option Addr) (O : List Addr) (s : DS) (x : V) (d1 d : D) (Q : VK), GI K g σ H fa O s → RepB K (NN g.F fa O) fa H d1 x → p d1 = some d →
  (∀ v H', StE fa O H fa O H' → GI K g σ H' fa O s → Rep K (NN g.F fa O) fa H' d v → Q v H') → r x H Q
noncomputable def R2F (K : PySem.W.Frag) (r : R2) (p : D → D → Option (List D)) : Prop :=
 ∀ (g : Gh) (σ : L2.St) (H : Hp) (fa : Option Addr) (O : List Addr) (s : DS) (x y : V) (d1 d2 : D) (ds : List D) (Q : VK), GI K g σ H fa O s → RepB K (NN g.F fa O) fa H d1 x → RepB K (NN g.F fa O) fa H d2 y → p d1 d2 = some ds →
  (∀ q xs H', StE fa O H fa O H' → NewL K g σ H' fa O s q xs ds → H q = none → Q (.ref q) H') → r x y H Q
noncomputable def RCD (K : PySem.W.Frag) (r : List V → Hp → VK → Prop) (p : List D → Option D) : Prop :=
 ∀ (g : Gh) (σ : L2.St) (H : Hp) (fa : Option Addr) (O : List Addr) (s : DS) (xs : List V) (ds : List D) (d : D) (Q : VK), GI K g σ H fa O s → P6 K (NN g.F fa O) fa H ds xs → p ds = some d →
  (∀ v H', StE fa O H fa O H' → GI K g σ H' fa O s → Rep K (NN g.F fa O) fa H' d v → Q v H') → r xs H Q
noncomputable def RCF (K : PySem.W.Frag) (r : List V → Hp → VK → Prop) (p : List D → Option (List D)) : Prop :=
 ∀ (g : Gh) (σ : L2.St) (H : Hp) (fa : Option Addr) (O : List Addr) (s : DS) (xs : List V) (ds es : List D) (Q : VK), GI K g σ H fa O s → P6 K (NN g.F fa O) fa H ds xs → p ds = some es →
  (∀ q ys H', StE fa O H fa O H' → NewL K g σ H' fa O s q ys es → H q = none → Q (.ref q) H') → r xs H Q

noncomputable def dOp (p : D → D → Option D) (a b : DE) : DE := fun s => (a s).bind fun x => (b x.2).bind fun y => (p x.1 y.1).map fun d => (d, y.2)
noncomputable def Y5 (p : D → D → Option (List D)) (a b : DE) : DA := fun s => (a s).bind fun x => (b x.2).bind fun y => (p x.1 y.1).map fun d => (d, y.2)
noncomputable def dUn (p : D → Option D) (a : DE) : DE := fun s => (a s).bind fun x => (p x.1).map fun d => (d, x.2)
theorem a4A {α : Type} {p : D → D → Option α} {a b : DE} {s s' : DS} {d : α} (h : ((a s).bind fun x => (b x.2).bind fun y => (p x.1 y.1).map fun d => (d, y.2)) = some (d, s')) : ∃ x s1 y, a s = some (x, s1) ∧ b s1 = some (y, s') ∧ p x y = some d := by
 refine v7 h fun x s1 h1 h => ?_
 refine v7 h fun y s2 h2 h => ?_
 refine J3 h fun d' h3 h => ?_
 simp only [Prod.mk.injEq] at h
 obtain ⟨e1, e2⟩ := h
 subst e1; subst e2
 exact ⟨x, s1, y, h1, h2, h3⟩
section
variable {X : Cx} {g : Gh} {a b : Expr} {fa fb : DE} {pos : Pos} {r : R2} {p : D → D → Option D}
theorem a06 {r : R2} {p : D → D → Option D} (hr : R2D X.K r p) (σ : L2.St) (H : Hp) (Q : VK) (h : liftE X.K g (dOp p fa fb) σ H Q) : tOp r (liftB X.K g fa) (liftB X.K g fb) σ H Q := by
 obtain ⟨f0, O, s, d, s', I, e, k⟩ := h
 obtain ⟨x, s1, y, h1, h2, h3⟩ := a4A e
 refine ⟨f0, O, s, x, s1, I, h1, fun v H1 f1 O1 a1 I1 r1 => ⟨f1, O1, s1, y, s', I1, h2, fun u H2 f2 O2 a2 I2 r2 => ?_⟩⟩
 exact hr g σ H2 f2 O2 s' v u x y d Q I2 (RepB.stp I1 a2 r1) r2 h3 fun z H3 a3 I3 r3 => k z H3 f2 O2 (a1.trans (a2.trans a3)) I3 r3
theorem b1x {r : R2} {p : D → D → Option (List D)} (hr : R2F X.K r p) (σ : L2.St) (H : Hp) (Q : VK) (h : liftF X.K g (Y5 p fa fb) σ H Q) : tOp r (liftB X.K g fa) (liftB X.K g fb) σ H Q := by
 obtain ⟨f0, O, s, d, s', I, e, k⟩ := h
 obtain ⟨x, s1, y, h1, h2, h3⟩ := a4A e
 refine ⟨f0, O, s, x, s1, I, h1, fun v H1 f1 O1 a1 I1 r1 => ⟨f1, O1, s1, y, s', I1, h2, fun u H2 f2 O2 a2 I2 r2 => ?_⟩⟩
 exact hr g σ H2 f2 O2 s' v u x y d Q I2 (RepB.stp I1 a2 r1) r2 h3 fun q xs H3 a3 L e1 => k q xs H3 f2 O2 (a1.trans (a2.trans a3)) L (a1.mon _ (a2.mon _ e1))
theorem n9 {op : Operator} (ho : OpR X (binaryOp op) r) (hr : R2D X.K r p) (ha : BO X g a fa) (hb : BO X g b fb) : EO X g (.BinOp a op b pos) (dOp p fa fb) := EO.w (a6Y ho ha.pe hb.pe) (a06 hr)
theorem a58 {op : Operator} {p : D → D → Option (List D)} (ho : OpR X (binaryOp op) r) (hr : R2F X.K r p) (ha : BO X g a fa) (hb : BO X g b fb) : FO X g (.BinOp a op b pos) (Y5 p fa fb) := FO.w (a6Y ho ha.pe hb.pe) (b1x hr)
theorem F3 {op : CmpOp} (ho : OpR X (compareOp op) r) (hr : R2D X.K r p) (ha : BO X g a fa) (hb : BO X g b fb) (hm : behindInMarks op b = false) : EO X g (.Compare a [op] [b] pos) (dOp p fa fb) := EO.w (b09 ho ha.pe hb.pe hm) (a06 hr)
theorem j4 {r : R2} (ho : IxR X r) (hr : R2D X.K r p) (ha : BO X g a fa) (hb : BO X g b fb) (hs : a5Z b) : EO X g (.Subscript a b pos) (dOp p fa fb) := EO.w (a8D ho ha.pe hb.pe hs) (a06 hr)
theorem M2 {op : UnaryOp} {r : V → Hp → VK → Prop} {p : D → Option D} (ho : UnR X (unaryOp op) r) (hr : R1D X.K r p) (ha : BO X g a fa) : EO X g (.UnaryOp op a pos) (dUn p fa) := EO.w (a9Z ho ha.pe) fun σ H Q hQ => by
 refine hQ.elim fun f0 O s d s' I e k => ?_
 refine v7 e fun x s1 h1 h => ?_
 refine J3 h fun d' h3 h => ?_
 simp only [Prod.mk.injEq] at h
 obtain ⟨e1, e2⟩ := h
 subst e1; subst e2
 exact ⟨f0, O, s, x, s1, I, h1, fun v H1 f1 O1 a1 I1 r1 => hr g σ H1 f1 O1 s1 v x d' Q I1 r1 h3 fun z H3 a3 I3 r3 => k z H3 f1 O1 (a1.trans a3) I3 r3⟩
noncomputable def dB (f : DE) : DT := fun s => (f s).bind fun x => match x.1 with | .bl b => some (b, x.2) | _ => none
theorem a1S {f : DE} {s s' : DS} {b : Bool} (h : dB f s = some (b, s')) : f s = some (.bl b, s') := by
 refine v7 h fun x s1 h1 h => ?_
 cases x with
 | bl c => simp only [Option.some.injEq, Prod.mk.injEq] at h; rw [h1, h.1, h.2]
 | _ => cases h
theorem A7 {op : CmpOp} (ho : OpR X (compareOp op) r) (hr : R2D X.K r p) (ha : BO X g a fa) (hb : BO X g b fb) (hm : behindInMarks op b = false) : TO X g (.Compare a [op] [b] pos) (dB (dOp p fa fb)) :=
 TO.w (a76 ho ha.pe hb.pe hm) fun σ H Q ⟨f0, O, s, d, s', I, e, k⟩ => a06 hr σ H _ ⟨f0, O, s, .bl d, s', I, a1S e, fun v H' f1 O1 a I1 r => by
  simp only [Rep] at r
  exact ⟨d, r, k H' f1 O1 a I1⟩⟩
noncomputable def m8 : D → Option Bool
 | .non => some false
 | .bl b => some b
 | .int i => some (i != 0)
 | .str x => some ((x.length : Int) != 0)
 | .tup ds => some (!ds.isEmpty)
 | .lst ds => some (!ds.isEmpty)
 | _ => none
noncomputable def dTr (f : DE) : DT := fun s => (f s).bind fun x => (m8 x.1).map fun b => (b, x.2)
theorem a52 {α β : Type} {xs : List α} {ys : List β} (h : xs.length = ys.length) : xs.isEmpty = ys.isEmpty := by cases xs <;> cases ys <;> simp_all
theorem B2 {e : Expr} {f : DE} (h : BO X g e f) (he : ∀ whole, isTrue e X.env whole = (do let v ← whole; standAt e.pos; holding [v] (truthy v)) := by intro _; rfl) : TO X g e (dTr f) :=
 TO.w (b3C h.pe he) fun σ H Q hQ => by
  refine hQ.elim fun f0 O s d s' I e k => ?_
  obtain ⟨⟨x, s1⟩, h1, h.pe⟩ := Option.bind_eq_some_iff.mp e
  obtain ⟨d', h3, h.pe⟩ := Option.map_eq_some_iff.mp h.pe
  simp only [Prod.mk.injEq] at h.pe
  obtain ⟨e1, e2⟩ := h.pe
  subst e1; subst e2
  refine ⟨f0, O, s, x, s1, I, h1, fun v H' f1 O1 a I1 r => ⟨d', ?_, k H' f1 O1 a I1⟩⟩
  cases x with
  | non => simp only [RepB, Rep] at r; subst r; cases h3; rfl
  | bl b => simp only [RepB, Rep] at r; subst r; cases h3; rfl
  | int i => simp only [RepB, Rep] at r; subst r; cases h3; rfl
  | str x => simp only [RepB, Rep] at r; obtain ⟨r, l⟩ := r; subst r; cases h3; exact ⟨l, rfl⟩
  | tup ds =>
   simp only [RepB, Rep] at r
   obtain ⟨c, xs, r, q, w⟩ := r
   subst r; cases h3
   exact .inr (.inl ⟨xs, q, by rw [a52 w.length]⟩)
  | lst ds =>
   obtain ⟨c, xs, r, _, q, w⟩ := r
   subst r; cases h3
   exact .inl ⟨xs, SqL.of q, by rw [a52 w.length]⟩
  | feed => cases h3
  | scr _ => cases h3
noncomputable def k9 (a b : DT) : DT := fun s => (a s).bind fun x => if x.1 = true then b x.2 else some (false, x.2)
noncomputable def dOr (a b : DT) : DT := fun s => (a s).bind fun x => if x.1 = true then some (true, x.2) else b x.2
noncomputable def j8 (a : DT) : DT := fun s => (a s).map fun x => (!x.1, x.2)
noncomputable def l6 (a b : DE) : DE := fun s => (dB a s).bind fun x => if x.1 = true then b x.2 else some (.bl false, x.2)
noncomputable def m9 (a b : DE) : DE := fun s => (dB a s).bind fun x => if x.1 = true then some (.bl true, x.2) else b x.2
noncomputable def m7 (a : DE) : DE := fun s => (dB a s).map fun x => (.bl (!x.1), x.2)
variable {ta tb : DT} {rest : List Expr}
theorem a0c (h : TO X g a ta) : WO X g (.BoolOp .And [a] pos) ta := ⟨b1N h.pe⟩
theorem M0 (h : TO X g a ta) : WO X g (.BoolOp .Or [a] pos) ta := ⟨a97 h.pe⟩
theorem X0 (ha : TO X g a ta) (hb : WO X g (.BoolOp .And (b :: rest) pos) tb) : WO X g (.BoolOp .And (a :: b :: rest) pos) (k9 ta tb) := WO.w (a79 ha.pe hb.pe) fun σ H Q hQ => by
 refine hQ.elim fun f0 O s d s' I e k => ?_
 refine v7 e fun x s1 h1 h => ?_
 refine ⟨f0, O, s, x, s1, I, h1, fun H1 f1 O1 a1 I1 => ?_⟩
 cases x with
 | true => rw [if_pos rfl] at h ⊢; exact ⟨f1, O1, s1, d, s', I1, h, fun H2 f2 O2 a2 I2 => k H2 f2 O2 (a1.trans a2) I2⟩
 | false =>
  rw [if_neg Bool.false_ne_true] at h ⊢
  simp only [Option.some.injEq, Prod.mk.injEq] at h
  obtain ⟨e1, e2⟩ := h
  subst e1; subst e2
  exact k H1 f1 O1 a1 I1
theorem K6 (ha : TO X g a ta) (hb : WO X g (.BoolOp .Or (b :: rest) pos) tb) : WO X g (.BoolOp .Or (a :: b :: rest) pos) (dOr ta tb) := WO.w (b0E ha.pe hb.pe) fun σ H Q hQ => by
 refine hQ.elim fun f0 O s d s' I e k => ?_
 refine v7 e fun x s1 h1 h => ?_
 refine ⟨f0, O, s, x, s1, I, h1, fun H1 f1 O1 a1 I1 => ?_⟩
 cases x with
 | false => rw [if_neg Bool.false_ne_true] at h ⊢; exact ⟨f1, O1, s1, d, s', I1, h, fun H2 f2 O2 a2 I2 => k H2 f2 O2 (a1.trans a2) I2⟩
 | true =>
  rw [if_pos rfl] at h ⊢
  simp only [Option.some.injEq, Prod.mk.injEq] at h
  obtain ⟨e1, e2⟩ := h
  subst e1; subst e2
  exact k H1 f1 O1 a1 I1
theorem WO.t {e : Expr} {f : DT} (h : WO X g e f) : TO X g e f := ⟨h.pe.pt⟩
theorem F2 (ha : TO X g a ta) : TO X g (.UnaryOp .Not a pos) (j8 ta) := TO.w (a9k ha.pe) fun σ H Q hQ => by
 refine hQ.elim fun f0 O s d s' I e k => ?_
 refine mapP e fun x s1 h1 h => ?_
 simp only [Prod.mk.injEq] at h
 obtain ⟨e1, e2⟩ := h
 subst e1; subst e2
 exact ⟨f0, O, s, x, s1, I, h1, fun H1 f1 O1 a1 I1 => k H1 f1 O1 a1 I1⟩
theorem T0 {op} {f : DE} (h : EO X g a f) : EO X g (.BoolOp op [a] pos) f := ⟨a8O h.pe⟩
theorem O8 (ha : EO X g a fa) (hb : EO X g (.BoolOp .And (b :: rest) pos) fb) : EO X g (.BoolOp .And (a :: b :: rest) pos) (l6 fa fb) := EO.w (b1Q ha.pe hb.pe) fun σ H Q hQ => by
 refine hQ.elim fun f0 O s d s' I e k => ?_
 refine v7 e fun x s1 h1 h => ?_
 refine ⟨f0, O, s, _, s1, I, a1S h1, fun v H1 f1 O1 a1 I1 r => ⟨x, by simpa only [Rep] using r, ?_⟩⟩
 cases x with
 | true => rw [if_pos rfl] at h ⊢; exact ⟨f1, O1, s1, d, s', I1, h, fun v H2 f2 O2 a2 I2 => k v H2 f2 O2 (a1.trans a2) I2⟩
 | false =>
  rw [if_neg Bool.false_ne_true] at h ⊢
  simp only [Option.some.injEq, Prod.mk.injEq] at h
  obtain ⟨e1, e2⟩ := h
  subst e1; subst e2
  exact k _ H1 f1 O1 a1 I1 (by simp only [Rep])
theorem a6B (ha : EO X g a fa) : EO X g (.UnaryOp .Not a pos) (m7 fa) := EO.w (b2B ha.pe) fun σ H Q hQ => by
 refine hQ.elim fun f0 O s d s' I e k => ?_
 refine mapP e fun x s1 h1 h => ?_
 simp only [Prod.mk.injEq] at h
 obtain ⟨e1, e2⟩ := h
 subst e1; subst e2
 exact ⟨f0, O, s, _, s1, I, a1S h1, fun v H1 f1 O1 a1 I1 r => ⟨x, by simpa only [Rep] using r, k _ H1 f1 O1 a1 I1 (by simp only [Rep])⟩⟩
noncomputable def dIf (c : DT) (a b : DE) : DE := fun s => (c s).bind fun x => if x.1 = true then a x.2 else b x.2
theorem a0a {c : Expr} {fc : DT} (hc : TO X g c fc) (ha : EO X g a fa) (hb : EO X g b fb) : EO X g (.IfExp c a b pos) (dIf fc fa fb) := EO.w (a8Y hc.pe ha.pe hb.pe) fun σ H Q hQ => by
 refine hQ.elim fun f0 O s d s' I e k => ?_
 refine v7 e fun x s1 h1 h => ?_
 refine ⟨f0, O, s, x, s1, I, h1, fun H1 f1 O1 a1 I1 => ?_⟩
 cases x with
 | false => rw [if_neg Bool.false_ne_true] at h ⊢; exact ⟨f1, O1, s1, d, s', I1, h, fun v H2 f2 O2 a2 I2 => k v H2 f2 O2 (a1.trans a2) I2⟩
 | true => rw [if_pos rfl] at h ⊢; exact ⟨f1, O1, s1, d, s', I1, h, fun v H2 f2 O2 a2 I2 => k v H2 f2 O2 (a1.trans a2) I2⟩

noncomputable def a7 : DA := fun s => some ([], s)
noncomputable def a6 (a : DE) (r : DA) : DA := fun s => (a s).bind fun x => (r x.2).map fun y => (x.1 :: y.1, y.2)
theorem a0L {a : DE} {r : DA} {s s' : DS} {ds : List D} (h : a6 a r s = some (ds, s')) : ∃ d s1 es, a s = some (d, s1) ∧ r s1 = some (es, s') ∧ ds = d :: es := by
 refine v7 h fun x s1 h1 h => ?_
 refine mapP h fun y s2 h2 h => ?_
 simp only [Prod.mk.injEq] at h
 exact ⟨x, s1, y, h1, by rw [h2, h.2], h.1.symm⟩
variable {es : List Expr} {fr : DA}
theorem c8 : AO X g [] a7 := AO.w a1r fun σ H Q hQ => by
 refine hQ.elim fun f0 O s d s' I e k => ?_
 simp only [a7, Option.some.injEq, Prod.mk.injEq] at e
 obtain ⟨e1, e2⟩ := e
 subst e1; subst e2
 exact k [] H f0 O StE.refl I (by simp only [Reps])
theorem a2j (ha : EO X g a fa) (hr : AO X g es fr) (hs : starEach (a :: es) X.env = (false, eval a X.env) :: starEach es X.env := by rfl) : AO X g (a :: es) (a6 fa fr) := AO.w (Z4 ha.pe hr.pe hs) fun σ H Q hQ => by
 refine hQ.elim fun f0 O s ds s' I e k => ?_
 obtain ⟨d, s1, es, h1, h2, h3⟩ := a0L e
 subst h3
 refine ⟨f0, O, s, d, s1, I, h1, fun v H1 f1 O1 a1 I1 r1 => ⟨f1, O1, s1, es, s', I1, h2, fun vs H2 f2 O2 a2 I2 r2 => ?_⟩⟩
 refine k (v :: vs) H2 f2 O2 (a1.trans a2) I2 ?_
 simp only [Reps]
 exact ⟨v, vs, rfl, Rep.stp I1 a2.stp r1, r2⟩
theorem A2 : BAO X g [] a7 := BAO.w a1r fun σ H Q hQ => by
 refine hQ.elim fun f0 O s d s' I e k => ?_
 simp only [a7, Option.some.injEq, Prod.mk.injEq] at e
 obtain ⟨e1, e2⟩ := e
 subst e1; subst e2
 exact k [] H f0 O StE.refl I (by simp only [P6])
theorem a7R (ha : BO X g a fa) (hr : BAO X g es fr) (hs : starEach (a :: es) X.env = (false, eval a X.env) :: starEach es X.env := by rfl) : BAO X g (a :: es) (a6 fa fr) := BAO.w (Z4 ha.pe hr.pe hs) fun σ H Q hQ => by
 refine hQ.elim fun f0 O s ds s' I e k => ?_
 obtain ⟨d, s1, es, h1, h2, h3⟩ := a0L e
 subst h3
 refine ⟨f0, O, s, d, s1, I, h1, fun v H1 f1 O1 a1 I1 r1 => ⟨f1, O1, s1, es, s', I1, h2, fun vs H2 f2 O2 a2 I2 r2 => ?_⟩⟩
 exact k (v :: vs) H2 f2 O2 (a1.trans a2) I2 ⟨v, vs, rfl, RepB.stp I1 a2 r1, r2⟩
noncomputable def d0 (f : DA) : DE := fun s => (f s).bind fun x => if x.1.length ≤ sizeLine then some (.tup x.1, x.2) else none
noncomputable def i8 (f : DA) : DA := fun s => (f s).bind fun x => if x.1.length ≤ sizeLine then some (x.1, x.2) else none
theorem t7 {x1} (h : AO X g es fr) : EO X g (.Tuple es x1 pos) (d0 fr) := EO.w (b2Y h.pe) fun σ H Q hQ => by
 refine hQ.elim fun f0 O s d s' I e k => ?_
 obtain ⟨⟨ds, s1⟩, h1, h.pe⟩ := Option.bind_eq_some_iff.mp e
 by_cases hl : ds.length ≤ sizeLine
 ·rw [if_pos hl] at h.pe
  simp only [Option.some.injEq, Prod.mk.injEq] at h.pe
  obtain ⟨e1, e2⟩ := h.pe
  subst e1; subst e2
  refine ⟨f0, O, s, ds, s1, I, h1, fun vs H1 f1 O1 a1 I1 r1 => ⟨by rw [r1.length]; exact hl, fun p hp => ?_⟩⟩
  have a2 : StE f1 O1 H1 f1 O1 (upd H1 p (.tup vs)) := E8 hp
  refine k _ _ f1 O1 (a1.trans a2) (I1.new hp) ?_
  simp only [Rep]
  exact ⟨p, vs, rfl, SqT.of C9, Reps.stp I1 a2.stp r1⟩
 ·rw [if_neg hl] at h.pe; cases h.pe
theorem B8 (h : AO X g es fr) : FO X g (.List es pos) (i8 fr) := FO.w (b0H h.pe) fun σ H Q hQ => by
 refine hQ.elim fun f0 O s d s' I e k => ?_
 obtain ⟨⟨ds, s1⟩, h1, h.pe⟩ := Option.bind_eq_some_iff.mp e
 by_cases hl : ds.length ≤ sizeLine
 ·rw [if_pos hl] at h.pe
  simp only [Option.some.injEq, Prod.mk.injEq] at h.pe
  obtain ⟨e1, e2⟩ := h.pe
  subst e1; subst e2
  refine ⟨f0, O, s, ds, s1, I, h1, fun vs H1 f1 O1 a1 I1 r1 => ⟨by rw [r1.length]; exact hl, fun p hp => ?_⟩⟩
  have a2 : StE f1 O1 H1 f1 O1 (upd H1 p (.lst vs)) := E8 hp
  exact k p vs _ f1 O1 (a1.trans a2) (T7 I1 hp r1) (a1.mon _ hp)
 ·rw [if_neg hl] at h.pe; cases h.pe
end
end DL

namespace DL
open PySem PySem.Spec L2

section
variable {K : PySem.W.Frag} {g : Gh} {σ : L2.St} {H H' : Hp} {fa fa' : Option Addr} {O O' : List Addr} {s s' : DS}
theorem NN.mono {F : Addr → Prop} {P : List Addr} (h : ∀ b ∈ P, b ∈ O) {b : Addr} (z : NN F fa P b) : NN F fa O b := by
 rcases z with z | z | z
 ·exact .inl z
 ·exact .inr (.inl (h b z))
 ·exact .inr (.inr z)
theorem a6o {F : Addr → Prop} {N : Addr → Prop} (h : ∀ b, NN F fa O b → N b) : Car K N fa H (NN F fa O) fa H := ⟨fun b xs n q => ⟨q, fun z => n (h b z)⟩, fun _ _ q => q, fun _ _ q => q, fun _ q => q⟩
theorem DI.put (I : GI K g σ H fa O s) (i : Nat) {d : D} {v : V} (r : Rep K (NN g.F fa O) fa H d v) : ∃ P, (∀ b ∈ P, b ∈ O) ∧ GI K g (σ.set i (some v)) H fa P { s with sl := s.sl.set i (.val d) } := by
 obtain ⟨P, hs, S, _⟩ := SlR.put i I.sl r
 have sub : ∀ b ∈ P, b ∈ O := fun b hb => hs.subset hb
 have c : Car K (NN g.F fa O) fa H (NN g.F fa P) fa H := a6o fun b => NN.mono sub
 exact ⟨P, sub, hs.nodup I.nd, SlR.go c (fun _ _ _ z => z) S, fun b hb => I.fr b (sub b hb), I.st, I.tr, I.ff, I.fd.car c fun _ _ => rfl, fun b z y => I.nf b z (sub b y)⟩
theorem a0X {P : List Addr} (h : ∀ b ∈ P, b ∈ O) : StE fa O H fa P H := ⟨h, .inl rfl, fun _ _ e _ => e, fun _ e => e⟩
theorem NewL.put {p : Addr} {xs : List V} {ds : List D} (L : NewL K g σ H fa O s p xs ds) (i : Nat) (hi : i < s.sl.length) (h0 : g.H0 p = none) (hp : p ∉ O) : ∃ P, (∀ b ∈ P, b = p ∨ b ∈ O) ∧ GI K g (σ.set i (some (.ref p))) H fa P { s with sl := s.sl.set i (.own ds) } := by
 obtain ⟨P, h1, h2, S⟩ := SlR.putN i L.sl hi hp L.gi.nd L.ls L.rs
 have c : Car K (fun b => NN g.F fa O b ∨ b = p) fa H (NN g.F fa P) fa H := a6o fun b z => by
  rcases z with z | z | z
  ·exact .inl (.inl z)
  ·rcases h1 b z with y | y
   ·exact .inr y
   ·exact .inl (.inr (.inl y))
  ·exact .inl (.inr (.inr z))
 refine ⟨P, h1, h2, SlR.go c (fun _ _ _ z => z) S, fun b hb => ?_, L.gi.st, L.gi.tr, L.gi.ff, L.fd.car c fun _ _ => rfl, fun b z hb => ?_⟩
 ·rcases h1 b hb with y | y
  ·rw [y]; exact h0
  ·exact L.gi.fr b y
 ·rcases h1 b hb with y | y
  ·rw [y] at z; exact L.nf z
  ·exact L.gi.nf b z y
theorem DI.rew (I : GI K g σ H fa O s) {i : Nat} {ds es : List D} {a : Addr} {xs ys : List V} (e1 : s.sl[i]? = some (.own ds)) (e2 : σ[i]? = some (some (.ref a))) (m : a ∈ O) (e3 : H a = some (.lst xs)) (r : Reps K (NN g.F fa O) fa H es ys) :
  GI K g σ (upd H a (.lst ys)) fa O { s with sl := s.sl.set i (.own es) } ∧ Stp fa O H fa O (upd H a (.lst ys)) := by
 have a1 : Stp fa O H fa O (upd H a (.lst ys)) := ⟨fun b hb => .inl hb, .inl rfl, fun b u e n _ => by
  rw [u5 (show b ≠ a from fun z => n (by rw [z]; exact m))]; exact e, fun b z => by
  by_cases hb : b = a
  ·subst hb; rw [C9] at z; cases z
  ·rw [u5 hb] at z; exact z⟩
 have c := I.car a1
 have k : ∀ b u, b ≠ a → H b = some u → upd H a (.lst ys) b = some u := fun b u n e => by rw [u5 n]; exact e
 refine ⟨⟨I.nd, SlR.rew I.sl I.nd (fun b hb => .inr (.inl hb)) e1 e2 C9 c k (Reps.go c es ys r), I.fr, ?_, I.tr, I.ff, I.fd.car c fun b hb => ?_, I.nf⟩, a1⟩
 ·refine ⟨fun b hb => (by cases hb), I.st.fe, fun b u e n f => ?_, fun b z => I.st.mon b (a1.mon b z)⟩
  refine k b u (fun z => ?_) (I.st.same b u e n f)
  rw [z, I.fr a m] at e; cases e
 ·refine u5 fun z => ?_
  subst z
  exact I.nf _ hb m
end

theorem FlK.shift {K : PySem.W.Frag} {g : Gh} {E : Ends} {fa fa' : Option Addr} {O O' : List Addr} {H H' : Hp} {fl : Fl} {s : DS} (a : Stp fa O H fa' O' H') (h : FlK K g E fa O H fl s) : FlK K g E fa' O' H' fl s := by
 cases fl with
 | next => exact fun σ' H2 f2 O2 a2 I2 => h σ' H2 f2 O2 (a.trans a2) I2
 | brk => exact fun σ' H2 f2 O2 a2 I2 => h σ' H2 f2 O2 (a.trans a2) I2
 | cont => exact fun σ' H2 f2 O2 a2 I2 => h σ' H2 f2 O2 (a.trans a2) I2
 | ret d => exact fun σ' v H2 f2 O2 a2 I2 => h σ' v H2 f2 O2 (a.trans a2) I2
noncomputable def i5 : DM := fun s => some (.next, s)
noncomputable def m6 (b : DM) (x : Fl × DS) : Option (Fl × DS) := match x.1 with
 | .next => b x.2
 | .brk => some (.brk, x.2)
 | .cont => some (.cont, x.2)
 | .ret d => some (.ret d, x.2)
noncomputable def c5 (a b : DM) : DM := fun s => (a s).bind (m6 b)
section
variable {X : Cx} {g : Gh} {st : Stmt} {rest : List Stmt} {e : Expr} {pos : Pos} {a b : DM} {f : DE}
theorem A0 : SSO X g [] i5 := SSO.w b05 fun E σ H hQ => by
 refine hQ.elim fun fa O s fl s' I e k => ?_
 cases e
 exact k σ H fa O Stp.refl I
theorem o6 (h : SO X g st a) : SSO X g [st] a := ⟨b2Z h.pe⟩
theorem n8 (h : SO X g st a) (hr : SSO X g rest b) : SSO X g (st :: rest) (c5 a b) := SSO.w (a9q h.pe hr.pe) fun E σ H hQ => by
 refine hQ.elim fun fa O s fl s' I e k => ?_
 refine v7 e fun f1 s1 h1 h2 => ?_
 refine ⟨fa, O, s, f1, s1, I, h1, ?_⟩
 cases f1 with
 | next => exact fun σ' H' f1 O1 a1 I1 => ⟨f1, O1, s1, fl, s', I1, h2, k.shift a1⟩
 | brk => cases h2; exact k
 | cont => cases h2; exact k
 | ret d => cases h2; exact k
noncomputable def i3 (f : DE) : DM := fun s => (f s).map fun x => (.ret x.1, x.2)
theorem t0 (he : EO X g e f) : SO X g (.Return (some e) pos) (i3 f) := SO.w (b3I he.pe) fun E σ H hQ => by
 refine hQ.elim fun fa O s fl s' I q k => ?_
 refine mapP q fun d s1 h1 h2 => ?_
 cases h2
 exact ⟨fa, O, s, d, s1, I, h1, fun v H' f1 O1 a1 I1 r => k σ v H' f1 O1 a1.stp I1 r⟩
noncomputable def i4 (c : DT) (a b : DM) : DM := fun s => (c s).bind fun x => if x.1 = true then a x.2 else b x.2
theorem A1 {c : Expr} {fc : DT} {la lb : List Stmt} (hc : TO X g c fc) (ha : SSO X g la a) (hb : SSO X g lb b) : SO X g (.If c la lb pos) (i4 fc a b) := SO.w (b1M hc.pe ha.pe hb.pe) fun E σ H hQ => by
 refine hQ.elim fun fa O s fl s' I e k => ?_
 refine v7 e fun x s1 h1 h => ?_
 refine ⟨fa, O, s, x, s1, I, h1, fun H1 f1 O1 a1 I1 => ?_⟩
 cases x with
 | false => rw [if_neg Bool.false_ne_true] at h ⊢; exact ⟨f1, O1, s1, fl, s', I1, h, k.shift a1.stp⟩
 | true => rw [if_pos rfl] at h ⊢; exact ⟨f1, O1, s1, fl, s', I1, h, k.shift a1.stp⟩
noncomputable def liftG (K : PySem.W.Frag) (g : Gh) (t : D → DS → Option DS) : TG := fun v σ H Q => ∃ fa O s d s', GI K g σ H fa O s ∧ Rep K (NN g.F fa O) fa H d v ∧ t d s = some s' ∧ ∀ σ' H' fa' O', Stp fa O H fa' O' H' → GI K g σ' H' fa' O' s' → Q σ' H'
noncomputable def liftGs (K : PySem.W.Frag) (g : Gh) (t : List D → DS → Option DS) : TGs := fun vs σ H Q => ∃ fa O s ds s', GI K g σ H fa O s ∧ Reps K (NN g.F fa O) fa H ds vs ∧ t ds s = some s' ∧ ∀ σ' H' fa' O', Stp fa O H fa' O' H' → GI K g σ' H' fa' O' s' → Q σ' H'
section
variable {K : PySem.W.Frag} {g : Gh} {σ : L2.St} {Q : L2.St → Hp → Prop} {H : Hp} {G : Prop}
theorem liftG.elim {t : D → DS → Option DS} {v : V} (h : liftG K g t v σ H Q) (k : ∀ fa O s d s', GI K g σ H fa O s → Rep K (NN g.F fa O) fa H d v → t d s = some s' → (∀ σ' H' fa' O', Stp fa O H fa' O' H' → GI K g σ' H' fa' O' s' → Q σ' H') → G) : G := by
 obtain ⟨fa, O, s, d, s', a, r, b, c⟩ := h
 exact k fa O s d s' a r b c
theorem liftGs.elim {t : List D → DS → Option DS} {v : List V} (h : liftGs K g t v σ H Q) (k : ∀ fa O s d s', GI K g σ H fa O s → Reps K (NN g.F fa O) fa H d v → t d s = some s' → (∀ σ' H' fa' O', Stp fa O H fa' O' H' → GI K g σ' H' fa' O' s' → Q σ' H') → G) : G := by
 obtain ⟨fa, O, s, d, s', a, r, b, c⟩ := h
 exact k fa O s d s' a r b c
end
structure GO (X : Cx) (g : Gh) (e : Expr) (t : D → DS → Option DS) : Prop where
 pe : PG X e (liftG X.K g t)
structure GsO (X : Cx) (g : Gh) (es : List Expr) (t : List D → DS → Option DS) : Prop where
 pe : PGs X es (liftGs X.K g t)
noncomputable def c6 (i : Nat) (d : D) : DS → Option DS := fun s => some { s with sl := s.sl.set i (.val d) }
theorem PGw {t t' : TG} (h : PG X e t) (w : ∀ v σ H Q, t' v σ H Q → t v σ H Q) : PG X e t' := fun pins s σ H v u Q I r q => h pins s σ H v u Q I r (w v σ H Q q)
theorem a8J {es : List Expr} {t t' : TGs} (h : PGs X es t) (w : ∀ v σ H Q, t' v σ H Q → t v σ H Q) : PGs X es t' := fun pins s σ H v u Q I r q => h pins s σ H v u Q I r (w v σ H Q q)
theorem GO.w {f : D → DS → Option DS} {t : TG} (h : PG X e t) (w : ∀ v σ H Q, liftG X.K g f v σ H Q → t v σ H Q) : GO X g e f := ⟨PGw h w⟩
theorem GsO.w {es : List Expr} {f : List D → DS → Option DS} {t : TGs} (h : PGs X es t) (w : ∀ v σ H Q, liftGs X.K g f v σ H Q → t v σ H Q) : GsO X g es f := ⟨a8J h w⟩
theorem B9 {i : Nat} {x : Str} (h : PG X (.Name x pos) (V1 i)) : GO X g (.Name x pos) (c6 i) := GO.w h fun v σ H Q hQ => by
 refine hQ.elim fun fa O s d s' I r e k => ?_
 cases e
 obtain ⟨P, sub, I'⟩ := I.put i r
 exact k _ H fa P (a0X sub).stp I'
noncomputable def l4 : List D → DS → Option DS
 | [], s => some s
 | _ :: _, _ => none
noncomputable def j9 (t : D → DS → Option DS) (u : List D → DS → Option DS) : List D → DS → Option DS
 | [], _ => none
 | d :: r, s => (t d s).bind (u r)
theorem T8 : GsO X g [] l4 := GsO.w a5x fun v σ H Q hQ => by
 refine hQ.elim fun fa O s ds s' I r e k => ?_
 cases ds with
 | nil => cases e; simp only [Reps] at r; exact ⟨r, k σ H fa O Stp.refl I⟩
 | cons d r' => cases e
theorem F4 {es : List Expr} {t : D → DS → Option DS} {u : List D → DS → Option DS} (h : GO X g e t) (hr : GsO X g es u) (hs : (assignEach (e :: es) X.env).map (·.2) = assign e X.env :: (assignEach es X.env).map (·.2) := by rfl) : GsO X g (e :: es) (j9 t u) :=
 GsO.w (a4a h.pe hr.pe hs) fun v σ H Q hQ => by
  refine hQ.elim fun fa O s ds s' I r e k => ?_
  cases ds with
  | nil => cases e
  | cons d r' =>
   refine R8 e fun s1 h1 h2 => ?_
   simp only [Reps] at r
   obtain ⟨x, ys, rfl, rx, ry⟩ := r
   exact ⟨x, ys, rfl, fa, O, s, d, s1, I, rx, h1, fun σ1 H1 f1 O1 a1 I1 => ⟨f1, O1, s1, r', s', I1, Reps.stp I a1 ry, h2, fun σ2 H2 f2 O2 a2 I2 => k σ2 H2 f2 O2 (a1.trans a2) I2⟩⟩
noncomputable def l0 (n : Nat) (u : List D → DS → Option DS) (d : D) (s : DS) : Option DS := match d with
 | .tup ds => if ds.length = n then u ds s else none
 | _ => none
theorem R6 {es : List Expr} {k : Nat} {n : Nat} {u : List D → DS → Option DS} (hc : X.calm = true) (h : GsO X g es u) (hn : (assignEach es X.env).length = n := by rfl) (hst : (assignEach es X.env).findIdx? (·.1) = none := by rfl) : GO X g (.Tuple es k pos) (l0 n u) :=
 GO.w (a5H hc h.pe hn hst) fun v σ H Q hQ => by
  refine hQ.elim fun fa O s d s' I r e k => ?_
  cases d with
  | tup ds =>
   simp only [l0] at e
   by_cases hl : ds.length = n
   ·rw [if_pos hl] at e
    simp only [Rep] at r
    obtain ⟨a, xs, rfl, q, w⟩ := r
    exact ⟨a, xs, rfl, q, by rw [w.length]; exact hl, fa, O, s, ds, s', I, w, e, k⟩
   ·rw [if_neg hl] at e; cases e
  | _ => cases e
noncomputable def e8 (f : DE) (t : D → DS → Option DS) : DM := fun s => (f s).bind fun x => (t x.1 x.2).map fun s' => (.next, s')
theorem a5e {f : DE} {t : D → DS → Option DS} (E : Ends) (σ : L2.St) (H : Hp) (h : liftS X.K g (e8 f t) E σ H) : a2y (liftE X.K g f) (liftG X.K g t) E σ H := by
 obtain ⟨fa, O, s, fl, s', I, q, k⟩ := h
 refine v7 q fun d s1 h1 h2 => ?_
 refine J3 h2 fun s2 h3 h4 => ?_
 cases h4
 exact ⟨fa, O, s, d, s1, I, h1, fun v H1 f1 O1 a1 I1 r => ⟨f1, O1, s1, d, _, I1, r, h3, fun σ2 H2 f2 O2 a2 I2 => k σ2 H2 f2 O2 (a1.stp.trans a2) I2⟩⟩
theorem U7 {tg : Expr} {t : D → DS → Option DS} (he : EO X g e f) (hg : GO X g tg t) (hs : swapsWithSole [tg] e pos.line X.env = pure false := by rfl) (hw : swappedStores [tg] e X.env = pure none := by rfl)
  (h1 : (assignEach [tg] X.env).map (·.2) = [assign tg X.env] := by rfl) : SO X g (.Assign [tg] e pos) (e8 f t) := SO.w (b1s he.pe hg.pe hs hw h1) a5e
theorem u4 {i : Nat} {x : Str} {pos' : Pos} (hN : X.N.Nodup) (hi : X.N[i]? = some x) (hx : Loc X.env.scope x) (he : EO X g e f) (hs : swapsWith e (some (.Name x pos')) pos.line X.env = pure false := by rfl) (hf : X.fn x = true ∨ X.env.scope.names.lookup x = some .local := by first | exact .inl rfl | exact .inr rfl | assumption) :
  SO X g (.Assign [.Name x pos'] e pos) (e8 f (c6 i)) := SO.w (a5k hN hi hx he.pe hs hf) fun E σ H h => by
 obtain ⟨fa, O, s, d, s1, I, h1, k⟩ := a5e E σ H h
 refine ⟨fa, O, s, d, s1, I, h1, fun v H1 f1 O1 a1 I1 r => ?_⟩
 obtain ⟨f2, O2, s2, d2, s3, I2, r2, e2, k2⟩ := k v H1 f1 O1 a1 I1 r
 cases e2
 obtain ⟨P, sub, I'⟩ := I2.put i r2
 exact k2 _ H1 f2 P (a0X sub).stp I'
noncomputable def D0 (i : Nat) (f : DA) : DM := fun s => (f s).bind fun x => if i < x.2.sl.length then some (.next, { x.2 with sl := x.2.sl.set i (.own x.1) }) else none
theorem M7 {i : Nat} {x : Str} {f : DA} {pos' : Pos} (hN : X.N.Nodup) (hi : X.N[i]? = some x) (hx : Loc X.env.scope x) (he : FO X g e f) (hs : swapsWith e (some (.Name x pos')) pos.line X.env = pure false := by rfl) (hf : X.fn x = true ∨ X.env.scope.names.lookup x = some .local := by first | exact .inl rfl | exact .inr rfl | assumption) :
  SO X g (.Assign [.Name x pos'] e pos) (D0 i f) := SO.w (a5k hN hi hx he.pe hs hf) fun E σ H hQ => by
 refine hQ.elim fun fa O s fl s' I q k => ?_
 refine v7 q fun ds s1 h1 h2 => ?_
 by_cases hl : i < s1.sl.length
 ·simp only [] at h2
  rw [if_pos hl] at h2
  cases h2
  refine ⟨fa, O, s, ds, s1, I, h1, fun p xs H1 f1 O1 a1 L hp => ?_⟩
  have np : p ∉ O1 := fun z => by
   obtain ⟨ys, e⟩ := I.owned (a1.sub p z)
   rw [hp] at e; cases e
  obtain ⟨P, sub, I'⟩ := L.put i hl (I.st.mon p hp) np
  refine k _ H1 f1 P ⟨fun b hb => ?_, a1.fe, fun b u e _ n => a1.same b u e n, a1.mon⟩ I'
  rcases sub b hb with y | y
  ·exact .inr (by rw [y]; exact hp)
  ·exact .inl (a1.sub b y)
 ·simp only [] at h2
  rw [if_neg hl] at h2; cases h2
noncomputable def G5 (i : Nat) (f : DE) : DM := fun s => match s.sl[i]? with
 | some (.own _) => (f s).bind fun x => match x.2.sl[i]? with
  | some (.own ds) => if ds.length < sizeLine then some (.next, { x.2 with sl := x.2.sl.set i (.own (ds ++ [x.1])) }) else none
  | _ => none
 | _ => none
theorem a3z {i : Nat} {x : Str} {p1 p2 p3 p4 : Pos} (hv : PE X (.Name x p1) (T6 i)) (he : EO X g e f) (hbase : attributeBase (.Name x p1) ("append" : Str) X.env (eval (.Name x p1) X.env) = eval (.Name x p1) X.env := by rfl)
  (hfew : ((backTo p3 (starEach [e] X.env)).all (fun x => !x.1) && (backToKw p3 (keywordEach [] X.env)).all (fun x => x.1.isSome)
   && decide ([e].length + ([] : List Keyword).length + (if ([] : List Keyword).isEmpty then 0 else 1) < 30)) = true := by rfl)
  (hline : (p2.endLine == p3.line) = true := by rfl) (hs : starEach [e] X.env = (false, eval e X.env) :: starEach [] X.env := by rfl) (hplain : (backTo p3 (starEach [] X.env)).any (·.1) = false := by rfl)
  (hsw : swapsWith (.Call (.Attribute (.Name x p1) ("append" : Str) p2) [e] [] p3) none p4.line X.env = pure false := by rfl) :
  SO X g (.Expr (.Call (.Attribute (.Name x p1) ("append" : Str) p2) [e] [] p3) p4) (G5 i f) :=
 SO.w (a8R (b3y PySem.F.plainAttrs_list PySem.F.slot_list_append PySem.F.type_list_append a4N hv (Z4 he.pe a1r hs) hbase hfew hline hs hplain) hsw) fun E σ H hQ => by
  refine hQ.elim fun fa O s fl s' I q k => ?_
  cases q0 : s.sl[i]? with
  | none => simp only [G5, q0] at q; cases q
  | some z =>
  cases z with
  | no => simp only [G5, q0] at q; cases q
  | val _ => simp only [G5, q0] at q; cases q
  | own ds0 =>
  simp only [G5, q0] at q
  obtain ⟨a, xs0, e1, m, e2, _⟩ := SlR.own I.sl q0
  refine v7 q fun d s1 h1 h2 => ?_
  cases q2 : s1.sl[i]? with
  | none => simp only [q2] at h2; cases h2
  | some z =>
   cases z with
   | no => simp only [q2] at h2; cases h2
   | val _ => simp only [q2] at h2; cases h2
   | own ds =>
    simp only [q2] at h2
    by_cases hl : ds.length < sizeLine
    ·rw [if_pos hl] at h2
     cases h2
     refine ⟨_, e1, .inl ⟨rfl, xs0, SqL.of e2⟩, fa, O, s, d, s1, I, h1, fun v H1 f1 O1 a1 I1 r => ?_⟩
     obtain ⟨b, xs, e3, m1, e4, r1⟩ := SlR.own I1.sl q2
     rw [e1] at e3; cases e3
     obtain ⟨I2, a2⟩ := I1.rew q2 e1 m1 e4 (Reps.append r1 (Reps.one r))
     exact ⟨a, xs, v, rfl, rfl, e4, by rw [r1.length]; exact hl, k σ _ f1 O1 (a1.stp.trans a2) I2⟩
    ·rw [if_neg hl] at h2; cases h2
end
end DL

namespace DL
open PySem PySem.Spec L2

noncomputable def w8 (t : D → DS → Option DS) (b : DM) : List D → DS → Option (Fl × DS)
 | [], s => some (.next, s)
 | d :: r, s => (t d s).bind fun s1 => (b s1).bind fun x => match x.1 with
  | .next => w8 t b r x.2
  | .cont => w8 t b r x.2
  | .brk => some (.next, x.2)
  | .ret v => some (.ret v, x.2)
noncomputable def PvD (K : PySem.W.Frag) (g : Gh) (f1 : Option Addr) (O1 : List Addr) (H1 : Hp) (t : D → DS → Option DS) (b : DM) (ds : List D) (fl : Fl) (sf : DS) (i : Nat) : L2.St → Hp → Prop := fun σ' H' =>
 ∃ fa' O' s', Stp f1 O1 H1 fa' O' H' ∧ GI K g σ' H' fa' O' s' ∧ w8 t b (ds.drop i) s' = some (fl, sf)
section
variable {K : PySem.W.Frag} {g : Gh} {f1 : Option Addr} {O1 : List Addr} {H1 H' : Hp} {t : D → DS → Option DS} {b : DM} {ds : List D} {fl : Fl} {sf : DS} {i : Nat} {E : Ends} {σ' : L2.St}
theorem a5J {α : Type} {l : List α} {i : Nat} {d : α} (h : l[i]? = some d) : l.drop i = d :: l.drop (i + 1) := by
 obtain ⟨hi, e⟩ := List.getElem?_eq_some_iff.mp h
 rw [List.drop_eq_getElem_cons hi, e]
theorem a2k (hk : FlK K g E f1 O1 H1 fl sf) {d : D} {x : V} (hd : ds[i]? = some d) (hr : ∀ fa' O', Stp f1 O1 H1 fa' O' H' → Rep K (NN g.F fa' O') fa' H' d x) (h : PvD K g f1 O1 H1 t b ds fl sf i σ' H') :
  liftG K g t x σ' H' fun σ2 H2 => liftS K g b { E with nx := PvD K g f1 O1 H1 t b ds fl sf (i + 1), ct := PvD K g f1 O1 H1 t b ds fl sf (i + 1), bk := E.nx } σ2 H2 := by
 obtain ⟨fa', O', s', st, I, e⟩ := h
 rw [a5J hd, w8] at e
 refine R8 e fun s1 h1 h2 => ?_
 refine v7 h2 fun fb s2 h3 h4 => ?_
 refine ⟨fa', O', s', d, s1, I, hr fa' O' st, h1, fun σ2 H2 f2 O2 a2 I2 => ⟨f2, O2, s1, fb, s2, I2, h3, ?_⟩⟩
 cases fb with
 | next => exact fun σ3 H3 f3 O3 a3 I3 => ⟨f3, O3, s2, st.trans (a2.trans a3), I3, h4⟩
 | cont => exact fun σ3 H3 f3 O3 a3 I3 => ⟨f3, O3, s2, st.trans (a2.trans a3), I3, h4⟩
 | brk => cases h4; exact fun σ3 H3 f3 O3 a3 I3 => hk σ3 H3 f3 O3 (st.trans (a2.trans a3)) I3
 | ret v => cases h4; exact fun σ3 v H3 f3 O3 a3 I3 r => hk σ3 v H3 f3 O3 (st.trans (a2.trans a3)) I3 r
theorem a2J (hk : FlK K g E f1 O1 H1 fl sf) {n : Nat} (hn : ds.length ≤ n) (h : PvD K g f1 O1 H1 t b ds fl sf n σ' H') : E.nx σ' H' := by
 obtain ⟨fa', O', s', st, I, e⟩ := h
 rw [List.drop_eq_nil_of_le hn, w8] at e
 cases e
 exact hk σ' H' fa' O' st I
end
noncomputable def J8 (f : DE) (t : D → DS → Option DS) (b : DM) : DM := fun s => (f s).bind fun x => match x.1 with
 | .lst ds => w8 t b ds x.2
 | .tup ds => w8 t b ds x.2
 | _ => none
section
variable {X : Cx} {g : Gh} {tg iter : Expr} {body : List Stmt} {f : DE} {t : D → DS → Option DS} {b : DM} {pos : Pos}
noncomputable def a9J (K : PySem.W.Frag) (tl : TE) : TI := fun σ H R => tl σ H fun x H1 => ∃ a, x = .ref a ∧ (((∃ xs, SqL K H1 a xs) ∧ R (Itl K a) H1) ∨ ((∃ xs, SqT K H1 a xs) ∧ R (Itt K a) H1))
theorem a7j {l : Expr} {tl : TE} (hl : PE X l tl) : PI X tg l (a9J X.K tl) := by
 intro pins s σ H R I h
 refine thn (hl pins s σ H _ I h) fun v s1 ⟨x, H1, I1, r1, q1⟩ => ?_
 obtain ⟨a, e, q⟩ := q1
 subst e
 cases r1
 rcases q with ⟨⟨xs, hq⟩, q⟩ | ⟨⟨xs, hq⟩, q⟩
 ·obtain ⟨its, rv, p, hz⟩ := I1.list hq
  refine wpAny_pyIter_list p.isList ?_
  refine ⟨s1.heap.objs.size, [s1.heap.objs.size], _, _, H1, rfl, I1.kept (t' := s1.toks) fun b o e => Heap.get?_push_of_some _ e, a9s a _, ⟨_, Heap.get?_push_size _ rfl, rfl, rfl⟩, fun b hb => ?_, q⟩
  have e : b = s1.heap.objs.size := by simpa using hb
  subst e
  exact I1.fpOk (Nat.le_refl _) (I1.hok.fresh (Nat.le_refl _))
 ·obtain ⟨its, rv, p, hz⟩ := I1.tuple hq
  refine wpAny_pyIter_tuple (show s1.heap.IsTuple a its.toArray from p) ?_
  refine ⟨s1.heap.objs.size, [s1.heap.objs.size], _, _, H1, rfl, I1.kept (t' := s1.toks) fun b o e => Heap.get?_push_of_some _ e, a7U a _, ⟨_, Heap.get?_push_size _ rfl, rfl, rfl⟩, fun b hb => ?_, q⟩
  have e : b = s1.heap.objs.size := by simpa using hb
  subst e
  exact I1.fpOk (Nat.le_refl _) (I1.hok.fresh (Nat.le_refl _))
theorem Z8 (hp : PassesOwn (model X.prog X.w) X.A X.env X.xe) (hc : X.calm = true) (he : EO X g iter f) (hg : GO X g tg t) (hb : SSO X g body b) (hs : ∀ x, foldedSetIterable iter X.env x = pure x := by intro _; rfl) :
  SO X g (.For tg iter body [] pos) (J8 f t b) := SO.w (a5U hp hc (a7j he.pe) hg.pe hb.pe hs) fun E σ H hQ => by
 refine hQ.elim fun fa O s fl sf I q k => ?_
 refine v7 q fun d s1 h1 h2 => ?_
 refine ⟨fa, O, s, d, s1, I, h1, fun v H1 f1 O1 a1 I1 r => ?_⟩
 have k1 := k.shift a1.stp
 cases d with
 | lst ds =>
  simp only [Rep] at r
  obtain ⟨a, xs, rfl, na, q, w⟩ := r
  refine ⟨a, rfl, .inl ⟨⟨xs, SqL.of q⟩, b3d (xs := xs) (PvD X.K g f1 O1 H1 t b ds fl sf) ⟨f1, O1, s1, Stp.refl, I1, h2⟩ ?_ ?_ ?_⟩⟩
  ·rintro i σ' H' _ ⟨fa', O', s', st, I', e⟩
   exact SqL.of ((I1.car st).ls a xs na q).1
  ·intro i x σ' H' hx h
   obtain ⟨d, hd, rd⟩ := Reps.get' w hx
   exact a2k k1 hd (fun fa' O' st => Rep.stp I1 st rd) h
  ·intro σ' H' h
   exact a2J k1 (Nat.le_of_eq w.length.symm) h
 | tup ds =>
  simp only [Rep] at r
  obtain ⟨a, xs, rfl, q, w⟩ := r
  refine ⟨a, rfl, .inr ⟨⟨xs, q⟩, a4g (xs := xs) (PvD X.K g f1 O1 H1 t b ds fl sf) ⟨f1, O1, s1, Stp.refl, I1, h2⟩ ?_ ?_ ?_⟩⟩
  ·rintro i σ' H' _ ⟨fa', O', s', st, I', e⟩
   exact (I1.car st).tp a xs q
  ·intro i x σ' H' hx h
   obtain ⟨d, hd, rd⟩ := Reps.get' w hx
   exact a2k k1 hd (fun fa' O' st => Rep.stp I1 st rd) h
  ·intro σ' H' h
   exact a2J k1 (Nat.le_of_eq w.length.symm) h
 | _ => cases h2
noncomputable def ups (lo : Int) (n : Nat) : List D := (List.range n).map fun (i : Nat) => D.int (lo + (i : Int))
theorem a4b {lo : Int} {n i : Nat} (h : i < n) : (ups lo n)[i]? = some (.int (lo + (i : Int))) := by simp [ups, h]
theorem M5 (lo : Int) (n : Nat) : (ups lo n).length = n := by simp [ups]
noncomputable def K4 : List D → Option (List D)
 | [.int j] => if -(2 ^ 62) ≤ j ∧ j < 2 ^ 62 then some (ups 0 j.toNat) else none
 | [.int i, .int j] => if -(2 ^ 62) ≤ i ∧ i < 2 ^ 62 ∧ -(2 ^ 62) ≤ j ∧ j < 2 ^ 62 then some (ups i (j - i).toNat) else none
 | _ => none
noncomputable def Q7 (f : DA) (t : D → DS → Option DS) (b : DM) : DM := fun s => (f s).bind fun x => (K4 x.1).bind fun ds => w8 t b ds x.2
theorem a5E {ds es : List D} {a : D} (h : K4 ds = some es) (l : ds = [a]) : ∃ j : Int, a = .int j ∧ -(2 ^ 62) ≤ j ∧ j < 2 ^ 62 ∧ es = ups 0 j.toNat := by
 subst l
 cases a with
 | int j =>
  have h : (if -(2 ^ 62) ≤ j ∧ j < 2 ^ 62 then some (ups 0 j.toNat) else none) = some es := h
  by_cases hj : -(2 ^ 62) ≤ j ∧ j < 2 ^ 62
  ·rw [if_pos hj] at h; cases h; exact ⟨j, rfl, hj.1, hj.2, rfl⟩
  ·rw [if_neg hj] at h; cases h
 | _ => cases h
theorem W5 {a : Expr} {fa : DE} {p cpos : Pos} (hp : PassesOwn (model X.prog X.w) X.A X.env X.xe) (hc : X.calm = true) (hgl : Gl X "range") (hm : X.mg "range" = none) (ha : EO X g a fa) (hg : GO X g tg t) (hb : SSO X g body b)
  (hs1 : starEach [a] X.env = [(false, eval a X.env)] := by rfl) (hs : ∀ x, foldedSetIterable (.Call (.Name "range" p) [a] [] cpos) X.env x = pure x := by intro _; rfl) :
  SO X g (.For tg (.Call (.Name "range" p) [a] [] cpos) body [] pos) (Q7 (a6 fa a7) t b) :=
 SO.w (a5U hp hc (a5s hgl hm (a2j ha c8 hs1).pe hs1) hg.pe hb.pe hs) fun E σ H hQ => by
  refine hQ.elim fun fa O s fl sf I q k => ?_
  refine v7 q fun ds s1 h1 h2 => ?_
  refine R8 h2 fun es h3 h4 => ?_
  obtain ⟨d, s2, rs, e1, e2, e3⟩ := a0L h1
  cases e2
  obtain ⟨j, rfl, j1, j2, rfl⟩ := a5E h3 e3
  refine ⟨fa, O, s, ds, s1, I, h1, fun vs H1 f1 O1 a1 I1 r => ?_⟩
  have k1 := k.shift a1.stp
  rw [e3] at r
  simp only [Reps, Rep] at r
  obtain ⟨x, ys, rfl, rfl, rfl⟩ := r
  refine ⟨j, rfl, j1, j2, b2T (lo := 0) (n := j.toNat) (PvD X.K g f1 O1 H1 t b (ups 0 j.toNat) fl sf) ⟨f1, O1, s1, Stp.refl, I1, h4⟩ ?_ ?_⟩
  ·intro i σ' H' hi h
   exact a2k k1 (a4b hi) (fun fa' O' st => by simp only [Rep]) h
  ·intro σ' H' h
   exact a2J k1 (by rw [M5]; exact Nat.le_refl _) h
noncomputable def whN (c : DT) (b : DM) : Nat → DS → Option (Fl × DS)
 | 0, _ => none
 | n + 1, s => (c s).bind fun x => if x.1 = true then (b x.2).bind fun y => match y.1 with
   | .next => whN c b n y.2
   | .cont => whN c b n y.2
   | .brk => some (.next, y.2)
   | .ret v => some (.ret v, y.2)
  else some (.next, x.2)
open Classical in
noncomputable def L3 (c : DT) (b : DM) : DM := fun s => if h : ∃ n r, whN c b n s = some r then whN c b h.choose s else none
theorem a2F {c : DT} {b : DM} : ∀ (n : Nat) {s : DS} {r : Fl × DS}, whN c b n s = some r → whN c b (n + 1) s = some r
 | 0, s, r, h => by cases h
 | n + 1, s, r, h => by
  rw [whN] at h ⊢
  refine v7 h fun x s1 h1 h2 => ?_
  refine Option.bind_eq_some_iff.mpr ⟨(x, s1), h1, ?_⟩
  cases x with
  | false => exact h2
  | true =>
   simp only [if_true] at h2 ⊢
   refine v7 h2 fun y s2 h3 h4 => ?_
   refine Option.bind_eq_some_iff.mpr ⟨(y, s2), h3, ?_⟩
   cases y with
   | next => exact a2F n h4
   | cont => exact a2F n h4
   | brk => exact h4
   | ret v => exact h4
theorem a6D {c : DT} {b : DM} {n m : Nat} (hnm : n ≤ m) {s : DS} {r : Fl × DS} (h : whN c b n s = some r) : whN c b m s = some r := by
 induction hnm with
 | refl => exact h
 | step _ ih => exact a2F _ ih
theorem a5Q {c : DT} {b : DM} {n : Nat} {s : DS} {r : Fl × DS} (h : whN c b n s = some r) : L3 c b s = some r := by
 have hx : ∃ n r, whN c b n s = some r := ⟨n, r, h⟩
 unfold L3
 rw [dif_pos hx]
 obtain ⟨r', h'⟩ := hx.choose_spec
 have e1 := a6D (Nat.le_max_left n hx.choose) h
 have e2 := a6D (Nat.le_max_right n hx.choose) h'
 rw [e1] at e2
 rw [h', e2]
theorem a61 {c : DT} {b : DM} {s : DS} {r : Fl × DS} (h : L3 c b s = some r) : ∃ n, whN c b n s = some r := by
 unfold L3 at h
 by_cases hx : ∃ n r, whN c b n s = some r
 ·rw [dif_pos hx] at h; exact ⟨_, h⟩
 ·rw [dif_neg hx] at h; cases h
theorem a6I {c : DT} {b : DM} {s s1 s2 : DS} {r : Fl × DS} (h1 : c s = some (true, s1)) (h2 : b s1 = some (.next, s2)) (h3 : L3 c b s2 = some r) : L3 c b s = some r := by
 obtain ⟨n, h⟩ := a61 h3
 refine a5Q (n := n + 1) ?_
 rw [whN, h1]
 simp only [Option.bind_some, if_true, h2]
 exact h
theorem a51 {c : DT} {b : DM} {s s1 : DS} (h1 : c s = some (false, s1)) : L3 c b s = some (.next, s1) := by
 refine a5Q (n := 1) ?_
 rw [whN, h1]
 simp
theorem a6P {c : Expr} {fc : DT} (hp : PassesOwn (model X.prog X.w) X.A X.env X.xe) (hc : TO X g c fc) (hb : SSO X g body b) : SO X g (.While c body [] pos) (L3 fc b) := SO.w (b29 hp hc.pe hb.pe) fun E σ H hQ => by
 refine hQ.elim fun fa O s fl sf I q k => ?_
 obtain ⟨n, h⟩ := a61 q
 refine ⟨fun m σ' H' => ∃ fa' O' s', Stp fa O H fa' O' H' ∧ GI X.K g σ' H' fa' O' s' ∧ whN fc b m s' = some (fl, sf), ⟨n, fa, O, s, Stp.refl, I, h⟩, ?_⟩
 rintro m σ1 H1 ⟨f1, O1, s1, a1, I1, h1⟩
 cases m with
 | zero => cases h1
 | succ m =>
  rw [whN] at h1
  refine v7 h1 fun x s2 h2 h3 => ?_
  refine ⟨f1, O1, s1, x, s2, I1, h2, fun H2 f2 O2 a2 I2 => ?_⟩
  cases x with
  | false => rw [if_neg Bool.false_ne_true] at h3 ⊢; cases h3; exact k σ1 H2 f2 O2 (a1.trans a2.stp) I2
  | true =>
   rw [if_pos rfl] at h3 ⊢
   refine v7 h3 fun y s3 h4 h5 => ?_
   refine ⟨fun σ' H' => ∃ fa' O' s', Stp fa O H fa' O' H' ∧ GI X.K g σ' H' fa' O' s' ∧ whN fc b m s' = some (fl, sf), fun σ' H' z => ⟨m, Nat.lt_succ_self m, z⟩, f2, O2, s2, y, s3, I2, h4, ?_⟩
   have a12 := a1.trans a2.stp
   cases y with
   | next => exact fun σ3 H3 f3 O3 a3 I3 => ⟨f3, O3, s3, a12.trans a3, I3, h5⟩
   | cont => exact fun σ3 H3 f3 O3 a3 I3 => ⟨f3, O3, s3, a12.trans a3, I3, h5⟩
   | brk => cases h5; exact fun σ3 H3 f3 O3 a3 I3 => k σ3 H3 f3 O3 (a12.trans a3) I3
   | ret v => cases h5; exact fun σ3 v H3 f3 O3 a3 I3 r => k σ3 v H3 f3 O3 (a12.trans a3) I3 r
end

noncomputable abbrev DFn := List D → Option FS → Option (D × Option FS)
noncomputable def spD (K : PySem.W.Frag) (n : Nat) (m : DFn) : Sp := fun vs H Q _ => ∃ (F : Addr → Prop) (fa : Option Addr) (ds : List D) (fs : Option FS) (d : D) (fs' : Option FS),
 (∀ b, F b → H b ≠ none) ∧ (∀ a, fa = some a → F a) ∧ Reps K F fa H ds vs ∧ FeedR F H fa fs ∧ m ds fs = some (d, fs') ∧ ds.length = n ∧
  ∀ v H' fa', Stp fa [] H fa' [] H' → FeedR (fun b => F b ∨ fa' = some b) H' fa' fs' → Rep K (fun b => F b ∨ fa' = some b) fa' H' d v → Q v H'
noncomputable abbrev FnD (P : Program) (w : World) (K : PySem.W.Frag) (mg : Str → Option Value) (base : Heap) (k : Nat) (f : Addr) (fd : FuncData) (ps : List Str) (m : DFn) : Prop := FnOk P w K mg base CX0 k f fd ps (spD K ps.length m)
noncomputable def mFn (n : Nat) (b : DM) : DFn := fun ds fs => (b ⟨ds.map .val ++ List.replicate (n - ds.length) .no, fs⟩).bind fun x => match x.1 with
 | .ret d => some (d, x.2.fs)
 | .next => some (.non, x.2.fs)
 | _ => none
theorem a4o {K : PySem.W.Frag} {N : Addr → Prop} {fa : Option Addr} {H : Hp} : ∀ n : Nat, SlR K N fa H (List.replicate n .no) (List.replicate n none) []
 | 0 => by simp [SlR]
 | n + 1 => by
  simp only [List.replicate_succ, SlR]
  exact ⟨_, _, rfl, a4o n⟩
theorem a57 {K : PySem.W.Frag} {N : Addr → Prop} {fa : Option Addr} {H : Hp} {n : Nat} : ∀ {ds : List D} {vs : List V}, Reps K N fa H ds vs → SlR K N fa H (ds.map .val ++ List.replicate n .no) (vs.map some ++ List.replicate n none) []
 | [], vs, h => by simp only [Reps] at h; subst h; simpa using a4o n
 | d :: r, vs, h => by
  simp only [Reps] at h
  obtain ⟨x, ys, rfl, h1, h2⟩ := h
  simp only [List.map_cons, List.cons_append, SlR]
  exact ⟨x, _, rfl, h1, a57 h2⟩
section
variable {P : Program} {w : World} {K : PySem.W.Frag} {mg : Str → Option Value} {base : Heap}
theorem a6F {x qual : Str} {st : Stmt} {f : Addr} {fd : FuncData} {N ps : List Str} {k : Nat} {b : DM} (F : Fun K x qual st f fd) (S : FnScope N ps (t9 st))
  (hbody : ∀ (cdv : Value) (A : Around) (outer : List Env) (s : Shared) (H : Hp) (E : XK) (g : Gh), Room k (A.deeper (PyProof.Rows.envOfC qual (t9 st) s.heap.objs.size f cdv)) → SSO (P5 CX0 P w K mg base N qual (t9 st) f cdv A outer s H E).nox g (K8 st) b) :
  FnD P w K mg base (k + 1) f fd ps (mFn N.length b) := by
 refine F.ok S (fun vs H Q E h => ?_) (fun cdv A outer s H vs Q E hr h => ?_)
 ·obtain ⟨F, fa, ds, fs, d, fs', _, _, r, _, _, hl, _⟩ := h
  rw [r.length]; exact hl
 obtain ⟨F, fa, ds, fs, d, fs', tr, ff, r, fd, e, hl, q⟩ := h
 refine ⟨_, (hbody cdv A outer s H E ⟨F, H, fa⟩ hr).pe, ?_⟩
 refine v7 e fun fl s' h1 h2 => ?_
 have hN : ∀ b, NN F fa [] b → F b := fun b z => by
  rcases z with z | z | z
  ·exact z
  ·cases z
  ·exact ff b z
 have c : Car K F fa H (NN F fa []) fa H := ⟨fun b xs n q => ⟨q, fun z => n (hN b z)⟩, fun _ _ q => q, fun _ _ q => q, fun _ q => q⟩
 have el : (L2.start N vs) = vs.map some ++ List.replicate (N.length - ds.length) none := by rw [L2.start, r.length]
 have I : GI K ⟨F, H, fa⟩ (L2.start N vs) H fa [] ⟨ds.map .val ++ List.replicate (N.length - ds.length) .no, fs⟩ := by
  refine ⟨List.nodup_nil, ?_, fun b hb => (by cases hb), Stp.refl, tr, ff, fd.car c fun _ _ => rfl, fun _ _ z => (by cases z)⟩
  rw [el]
  exact a57 (Reps.go c ds vs r)
 have fin : ∀ {fa' : Option Addr} {O' : List Addr} {H' : Hp} {σ' : L2.St} {v : V} {dd : D}, Stp fa [] H fa' O' H' → GI K ⟨F, H, fa⟩ σ' H' fa' O' s' → Rep K (NN F fa' O') fa' H' dd v → dd = d → s'.fs = fs' → Q v H' := by
  intro fa' O' H' σ' v dd a1 I1 r1 e1 e2
  subst e1; subst e2
  have c1 : Car K (NN F fa' O') fa' H' (fun b => F b ∨ fa' = some b) fa' H' := ⟨fun b xs n q => ⟨q, fun z => n (by
   rcases z with z | z
   ·exact .inl z
   ·exact .inr (.inr z))⟩, fun _ _ q => q, fun _ _ q => q, fun _ q => q⟩
  exact q v H' fa' ⟨fun b hb => (by cases hb), a1.fe, a1.same, a1.mon⟩ (I1.fd.car c1 fun _ _ => rfl) (Rep.go c1 _ _ r1)
 refine ⟨fa, [], _, fl, s', I, h1, ?_⟩
 cases fl with
 | next =>
  simp only [Option.some.injEq, Prod.mk.injEq] at h2
  exact fun σ' H' fa' O' a1 I1 => fin a1 I1 (v := .non) (dd := .non) (by simp only [Rep]) h2.1 h2.2
 | ret dd =>
  simp only [Option.some.injEq, Prod.mk.injEq] at h2
  exact fun σ' v H' fa' O' a1 I1 r1 => fin a1 I1 r1 h2.1 h2.2
 | brk => cases h2
 | cont => cases h2
end
noncomputable def a9 (m : DFn) (f : DA) : DE := fun s => (f s).bind fun x => (m x.1 x.2.fs).map fun y => (y.1, { x.2 with fs := y.2 })
section
variable {X : Cx} {g : Gh} {k : Nat} {f : Addr} {fd : FuncData} {ps : List Str} {m : DFn} {x : Str} {p pos : Pos} {e : Expr} {es : List Expr} {t : DA}
theorem a8U {n : Nat} (hn : ∀ s ds s', t s = some (ds, s') → ds.length = n) (σ : L2.St) (H : Hp) (Q : VK) (h : liftE X.K g (a9 m t) σ H Q) : a4G (spD X.K n m) [] E0 (liftA X.K g t) σ H Q := by
 obtain ⟨fa, O, s, d, s', I, q, k⟩ := h
 refine v7 q fun ds s1 h1 h2 => ?_
 refine mapP h2 fun d1 fs1 h3 h4 => ?_
 simp only [Prod.mk.injEq] at h4
 obtain ⟨e1, e2⟩ := h4
 subst e1; subst e2
 refine ⟨fa, O, s, ds, s1, I, h1, fun vs H1 f1 O1 a1 I1 r => ?_⟩
 show spD X.K n m (vs ++ []) H1 Q E0
 rw [List.append_nil]
 refine ⟨NN g.F f1 O1, f1, ds, s1.fs, d1, fs1, fun b hb => I1.nn_tracked hb, fun a ha => .inr (.inr ha), r, I1.fd, h3, hn s ds s1 h1, fun v H2 f2 a2 fd2 r2 => ?_⟩
 have a3 : StE f1 O1 H1 f2 O1 H2 := ⟨fun b hb => hb, a2.fe, fun b u e n => a2.same b u e (by simp) n, a2.mon⟩
 have c := I1.car a3.stp
 have c2 : Car X.K (fun b => NN g.F f1 O1 b ∨ f2 = some b) f2 H2 (NN g.F f2 O1) f2 H2 := ⟨fun b xs n q => ⟨q, fun z => n (by
   rcases z with z | z | z
   ·exact .inl (.inl z)
   ·exact .inl (.inr (.inl z))
   ·exact .inr z)⟩, fun _ _ q => q, fun _ _ q => q, fun _ q => q⟩
 refine k v H2 f2 O1 (a1.trans a3) ⟨I1.nd, SlR.go c (fun b xs hb e => ?_) I1.sl, I1.fr, I1.st.trans ⟨fun b hb => (by cases hb), a2.fe, fun b u e n z => a2.same b u e n z, a2.mon⟩, I1.tr, I1.ff, fd2.car c2 fun _ _ => rfl, I1.nf_step a3.fe⟩ (Rep.go c2 _ _ r2)
 exact a3.same b _ e fun z => I1.nf b z hb
theorem b1J (F : FnD X.prog X.w X.K X.mg X.base k f fd ps m) (hr : Room k X.A) (hg : Gl X x) (hm : X.mg x = some (.ref f)) (hk : PySem.W.keepIn X.K (.ref f) = true) (hb : Binds X.K fd ps [])
  (ha : AO X g (e :: es) t) (hn : ∀ s ds s', t s = some (ds, s') → ds.length = ps.length) (hdb : (x == ("__debug__" : Str)) = false := by decide) (he : starEach (e :: es) X.env = (false, eval e X.env) :: starEach es X.env := by rfl) (hpl : (backTo pos (starEach es X.env)).any (·.1) = false := by rfl) :
  EO X g (.Call (.Name x p) (e :: es) [] pos) (a9 m t) := EO.w (a7F F hr hg hm hk hb .nil a81 ha.pe hdb he hpl) (a8U hn)
theorem l8 : ∀ s ds s', a7 s = some (ds, s') → ds.length = 0 := fun s ds s' h => by cases h; rfl
theorem c9 {a : DE} {r : DA} {n : Nat} (h : ∀ s ds s', r s = some (ds, s') → ds.length = n) : ∀ s ds s', a6 a r s = some (ds, s') → ds.length = n + 1 := fun s ds s' q => by
 obtain ⟨d, s1, es, h1, h2, h3⟩ := a0L q
 subst h3
 simp [h _ _ _ h2]
end
end DL

namespace DL
open PySem PySem.Spec L2

noncomputable def ItD (K : PySem.W.Frag) (N : Addr → Prop) (fa : Option Addr) (H1 : Hp) (J : It) (ds : List D) : Prop := ∀ N' fa' H', Car K N fa H1 N' fa' H' → (∀ b u, H1 b = some u → fa ≠ some b → H' b = some u) → ∀ i : Nat,
 (∀ d, ds[i]? = some d → J.go i H' ∧ ∀ x H'', J.yld i H' x H'' → H'' = H' ∧ Rep K N' fa' H' d x) ∧ (ds.length ≤ i → J.stop i H')
noncomputable def liftI (K : PySem.W.Frag) (g : Gh) (f : DA) : TI := fun σ H R => ∃ fa O s ds s', GI K g σ H fa O s ∧ f s = some (ds, s') ∧ ds.length ≤ sizeLine ∧
 ∀ J H' fa' O', StE fa O H fa' O' H' → GI K g σ H' fa' O' s' → ItD K (NN g.F fa' O') fa' H' J ds → R J H'
section
variable {K : PySem.W.Frag} {g : Gh} {σ : L2.St} {H : Hp} {G : Prop}
theorem liftI.elim {f : DA} {R : It → Hp → Prop} (h : liftI K g f σ H R) (k : ∀ fa O s ds s', GI K g σ H fa O s → f s = some (ds, s') → ds.length ≤ sizeLine → (∀ J H' fa' O', StE fa O H fa' O' H' → GI K g σ H' fa' O' s' → ItD K (NN g.F fa' O') fa' H' J ds → R J H') → G) : G := by
 obtain ⟨fa, O, s, d, s', a, r, b, c⟩ := h
 exact k fa O s d s' a r b c
end
structure IO (X : Cx) (g : Gh) (tg iter : Expr) (f : DA) : Prop where
 pe : PI X tg iter (liftI X.K g f)
noncomputable def G7 (f : DE) : DA := fun s => (f s).bind fun x => match x.1 with
 | .lst ds => some (ds, x.2)
 | .tup ds => some (ds, x.2)
 | _ => none
noncomputable def O7 (f : DA) : DA := fun s => (f s).bind fun x => (K4 x.1).map fun ds => (ds, x.2)
section
variable {X : Cx} {g : Gh} {tg iter : Expr} {f : DE}
theorem PIw {t t' : TI} (h : PI X tg iter t) (w : ∀ σ H R, t' σ H R → t σ H R) : PI X tg iter t' := fun pins s σ H R I q => h pins s σ H R I (w σ H R q)
theorem IO.w {f : DA} {t : TI} (h : PI X tg iter t) (w : ∀ σ H R, liftI X.K g f σ H R → t σ H R) : IO X g tg iter f := ⟨PIw h w⟩
theorem X9 (h : EO X g iter f) : IO X g tg iter (G7 f) := IO.w (a7j h.pe) fun σ H R hQ => by
 refine hQ.elim fun fa O s ds s' I e hz k => ?_
 refine v7 e fun d s1 h1 h2 => ?_
 refine ⟨fa, O, s, d, s1, I, h1, fun v H1 f1 O1 a1 I1 r => ?_⟩
 cases d with
 | lst es =>
  cases h2
  simp only [Rep] at r
  obtain ⟨a, xs, rfl, na, q, w⟩ := r
  refine ⟨a, rfl, .inl ⟨⟨xs, SqL.of q⟩, k _ H1 f1 O1 a1 I1 fun N' fa' H' c _ i => ⟨fun d hd => ?_, fun hl => ?_⟩⟩⟩
  ·obtain ⟨x, hx, rx⟩ := Reps.get w hd
   have q' := (c.ls a xs na q).1
   refine ⟨⟨xs, x, SqL.of q', hx⟩, fun y H'' hy => ?_⟩
   obtain ⟨e1, e2⟩ := hy
   have := e2 xs (SqL.of q')
   rw [hx] at this; cases this
   exact ⟨e1, Rep.go c d x rx⟩
  ·exact ⟨xs, SqL.of (c.ls a xs na q).1, by rw [w.length]; exact hl⟩
 | tup es =>
  cases h2
  simp only [Rep] at r
  obtain ⟨a, xs, rfl, q, w⟩ := r
  refine ⟨a, rfl, .inr ⟨⟨xs, q⟩, k _ H1 f1 O1 a1 I1 fun N' fa' H' c _ i => ⟨fun d hd => ?_, fun hl => ?_⟩⟩⟩
  ·obtain ⟨x, hx, rx⟩ := Reps.get w hd
   have q' := c.tp a xs q
   refine ⟨⟨xs, x, q', hx⟩, fun y H'' hy => ?_⟩
   obtain ⟨e1, e2⟩ := hy
   have := e2 xs q'
   rw [hx] at this; cases this
   exact ⟨e1, Rep.go c d x rx⟩
  ·exact ⟨xs, c.tp a xs q, by rw [w.length]; exact hl⟩
 | _ => cases h2
theorem b27 {K : PySem.W.Frag} {N : Addr → Prop} {fa : Option Addr} {H1 : Hp} (lo : Int) (n : Nat) : ItD K N fa H1 (Itr lo n) (ups lo n) := fun N' fa' H' c _ i => ⟨fun d hd => by
 have hi : i < n := by have := (List.getElem?_eq_some_iff.mp hd).1; rwa [M5] at this
 rw [a4b hi] at hd
 cases hd
 refine ⟨hi, fun x H'' hy => ?_⟩
 obtain ⟨e1, e2⟩ := hy
 subst e2
 exact ⟨e1, by simp only [Rep]⟩, fun hl => by rw [M5] at hl; exact hl⟩
theorem a4p {a : Expr} {fa : DE} {p cpos : Pos} (hgl : Gl X "range") (hm : X.mg "range" = none) (ha : EO X g a fa) (hs1 : starEach [a] X.env = [(false, eval a X.env)] := by rfl) :
  IO X g tg (.Call (.Name "range" p) [a] [] cpos) (O7 (a6 fa a7)) := IO.w (a5s hgl hm (a2j ha c8 hs1).pe hs1) fun σ H R hQ => by
 refine hQ.elim fun fa O s es s' I q hz k => ?_
 refine v7 q fun ds s1 h1 h2 => ?_
 refine J3 h2 fun es' h3 h4 => ?_
 cases h4
 obtain ⟨d, s2, rs, e1, e2, e3⟩ := a0L h1
 cases e2
 obtain ⟨j, rfl, j1, j2, rfl⟩ := a5E h3 e3
 refine ⟨fa, O, s, ds, _, I, h1, fun vs H1 f1 O1 a1 I1 r => ?_⟩
 rw [e3] at r
 simp only [Reps, Rep] at r
 obtain ⟨x, ys, rfl, rfl, rfl⟩ := r
 exact ⟨j, rfl, j1, j2, k _ H1 f1 O1 a1 I1 (b27 0 j.toNat)⟩
end

noncomputable def S6 (sl : List Sl) (i : Nat) : Sl := match sl[i]? with
 | some (Sl.val d) => Sl.val d
 | _ => Sl.no
noncomputable def E9 (idx : List Nat) (sl : List Sl) : List Sl := idx.map (S6 sl)
noncomputable def C4 (mk : D → Option (List Sl)) (fc : DT) (fe : DE) : List D → Option FS → Option (List D × Option FS)
 | [], fs => some ([], fs)
 | d :: r, fs => (mk d).bind fun sl => (fc ⟨sl, fs⟩).bind fun c => if c.1 = true then (fe c.2).bind fun y => (C4 mk fc fe r y.2.fs).map fun z => (y.1 :: z.1, z.2) else C4 mk fc fe r c.2.fs
noncomputable def C7 (idx : List Nat) (fi : DA) (fc : DT) (fe : DE) : DA := fun s => (fi s).bind fun x => if x.1.length ≤ sizeLine then (C4 (fun d => some (.val d :: E9 idx x.2.sl)) fc fe x.1 x.2.fs).map fun y => (y.1, { x.2 with fs := y.2 }) else none
noncomputable def FF (g : Gh) (fa : Option Addr) (O : List Addr) (p : Addr) : Addr → Prop := fun b => NN g.F fa O b ∨ b = p
structure CI (K : PySem.W.Frag) (g : Gh) (f1 : Option Addr) (O1 : List Addr) (Hd : Hp) (p : Addr) (fa : Option Addr) (H : Hp) (ys : List V) (res : List D) (fs : Option FS) : Prop where
 st : Stp f1 [p] Hd fa [p] H
 ls : H p = some (.lst ys)
 rs : Reps K (FF g fa O1 p) fa H res ys
 fd : FeedR (FF g fa O1 p) H fa fs
 nf : fa ≠ some p
section
variable {K : PySem.W.Frag} {g : Gh} {f1 fa fa' : Option Addr} {O1 : List Addr} {Hd H H' : Hp} {p : Addr} {ys : List V} {res : List D} {fs : Option FS}
theorem CI.nofa (c : CI K g f1 O1 Hd p fa H ys res fs) : fa ≠ some p := c.nf
theorem b3E (h0 : ∀ xs, fa ≠ none → ∀ a, fa = some a → ¬ Rd H a (.tup xs)) (hfz : ∀ a, fa = some a → ∀ o u, ¬ H a = some (.frz o u)) (a : StE fa [] H fa' [] H') : Car K (FF g fa O1 p) fa H (FF g fa' O1 p) fa' H' := by
 refine ⟨fun b xs n q => ⟨a.same b _ q fun z => n (.inl (.inr (.inr z))), fun z => ?_⟩, fun b xs q => ?_, fun b xs q => ?_, fun x e => a.stp.fa_keep e⟩
 ·rcases z with (z | z | z) | z
  ·exact n (.inl (.inl z))
  ·exact n (.inl (.inr (.inl z)))
  ·rcases a.fe with e | ⟨e, h⟩
   ·exact n (.inl (.inr (.inr (e ▸ z))))
   ·rw [h b z] at q; cases q
  ·exact n (.inr z)
 ·refine SqT.stp' a.stp (fun x e ys => h0 ys (by rw [e]; simp) x e) (fun x hx => by cases hx) q
 ·rcases q with ⟨o, q⟩ | q
  ·exact .inl ⟨o, a.same _ _ q fun z => hfz b z _ _ q⟩
  ·exact .inr q
theorem b1j {N : Addr → Prop} (h : FeedR N H fa fs) : ∀ xs, fa ≠ none → ∀ a, fa = some a → ¬ Rd H a (.tup xs) := fun xs _ a e z => h.no_tup e z
theorem CI.step (c : CI K g f1 O1 Hd p fa H ys res fs) (a : StE fa [] H fa' [] H') {g' : Gh} {σ : L2.St} {s' : DS} (hF : ∀ b, FF g fa' O1 p b → NN g'.F fa' [] b) (I : GI K g' σ H' fa' [] s') : CI K g f1 O1 Hd p fa' H' ys res s'.fs := by
 have cr : Car K (FF g fa O1 p) fa H (FF g fa' O1 p) fa' H' := b3E (b1j c.fd) (fun x e o u => c.fd.no_frz e) a
 refine ⟨c.st.trans ⟨fun b hb => .inl hb, a.fe, fun b u e _ n => a.same b u e n, a.mon⟩, a.same p _ c.ls c.nofa, Reps.go cr _ _ c.rs, I.fd.car (K := K) ⟨fun b xs n q => ⟨q, fun z => n (hF b z)⟩, fun _ _ q => q, fun _ _ q => q, fun _ q => q⟩ fun _ _ => rfl, fun z => ?_⟩
 rcases a.fe with y | ⟨_, y⟩
 ·rw [y] at z; exact c.nf z
 ·have := c.ls; rw [y p z] at this; cases this
theorem CI.app (c : CI K g f1 O1 Hd p fa H ys res fs) {N : Addr → Prop} {d : D} {v : V} (hF : ∀ b, FF g fa O1 p b → N b) (r : Rep K N fa H d v) : CI K g f1 O1 Hd p fa (upd H p (.lst (ys ++ [v]))) (ys ++ [v]) (res ++ [d]) fs := by
 have cr : Car K (FF g fa O1 p) fa H (FF g fa O1 p) fa (upd H p (.lst (ys ++ [v]))) := by
  refine ⟨fun b xs n q => ⟨by rw [u5 (fun z => n (.inr z))]; exact q, n⟩, fun b xs q => ?_, fun b xs q => ?_, fun _ q => q⟩
  ·rcases q with (q | ⟨o, q⟩) | q
   ·exact .inl (.inl (by rw [u5 (fun z => by rw [z, c.ls] at q; cases q)]; exact q))
   ·exact .inl (.inr ⟨o, by rw [u5 (fun z => by rw [z, c.ls] at q; cases q)]; exact q⟩)
   ·exact .inr q
  ·rcases q with ⟨o, q⟩ | q
   ·exact .inl ⟨o, by rw [u5 (fun z => by rw [z, c.ls] at q; cases q)]; exact q⟩
   ·exact .inr q
 have c0 : Car K N fa H (FF g fa O1 p) fa H := ⟨fun b xs n q => ⟨q, fun z => n (hF b z)⟩, fun _ _ q => q, fun _ _ q => q, fun _ q => q⟩
 refine ⟨c.st.trans ⟨fun b hb => .inl hb, .inl rfl, fun b u e n _ => by rw [u5 (fun z => n (by simp [z]))]; exact e, fun b z => ?_⟩, C9, ?_, c.fd.car cr fun a e => u5 fun z => c.nofa (z ▸ e), c.nf⟩
 ·by_cases hb : b = p
  ·subst hb; rw [C9] at z; cases z
  ·rw [u5 hb] at z; exact z
 ·exact Reps.append (Reps.go cr _ _ c.rs) (Reps.one (Rep.go cr _ _ (Rep.go c0 _ _ r)))
end
section
variable {X : Cx} {g : Gh} {scope : Scope} {cl : List (Str × Addr)} {N' : List Str} {idx : List Nat} {iter elt tg : Expr} {ifs : List Expr} {pos : Pos} {fi : DA} {fc : DT} {fe : DE}
noncomputable def a1h (X : Cx) (g : Gh) (ifs : List Expr) (f : DT) : Prop := a1G X ifs (liftT X.K g f)
noncomputable def B0 : DT := fun s => some (true, s)
theorem T1 : a1h X g [] B0 := fun pins s σ H Q I ⟨fa, O, s0, d, s', G, e, k⟩ => b2F pins s σ H Q I (by cases e; exact k H fa O StE.refl G)
theorem a5m {K : PySem.W.Frag} {N : Addr → Prop} {fa : Option Addr} {H : Hp} {sl : List Sl} {σ : L2.St} {O : List Addr} (h : SlR K N fa H sl σ O) : ∀ idx : List Nat, SlR K N fa H (E9 idx sl) (idx.map fun i => (σ[i]?).join) []
 | [] => by simp [E9, SlR]
 | i :: r => by
  have ih := a5m h r
  have go : ∀ e : sl[i]? = none ∨ (∃ z, sl[i]? = some z ∧ ∀ d, z ≠ .val d), S6 sl i = .no := fun e => by
   unfold S6
   rcases e with e | ⟨z, e, n⟩
   ·rw [e]
   ·rw [e]
    cases z with
    | val d => exact absurd rfl (n d)
    | no => rfl
    | own ds => rfl
  show SlR K N fa H (S6 sl i :: E9 r sl) ((σ[i]?).join :: r.map fun i => (σ[i]?).join) []
  cases e : sl[i]? with
  | none =>
   rw [go (.inl e)]
   simp only [SlR]
   exact ⟨_, _, rfl, ih⟩
  | some z =>
   cases z with
   | no =>
    rw [go (.inr ⟨_, e, fun d z => by cases z⟩)]
    simp only [SlR]
    exact ⟨_, _, rfl, ih⟩
   | own ds =>
    rw [go (.inr ⟨_, e, fun d z => by cases z⟩)]
    simp only [SlR]
    exact ⟨_, _, rfl, ih⟩
   | val d =>
    obtain ⟨u, e1, q⟩ := SlR.val h e
    have ec : S6 sl i = .val d := by unfold S6; rw [e]
    rw [ec]
    simp only [SlR]
    exact ⟨u, _, by rw [e1]; rfl, q, ih⟩
noncomputable def a7v (mk : List Sl → D → Option (List Sl)) (fi : DA) (fc : DT) (fe : DE) : DA := fun s => (fi s).bind fun x => if x.1.length ≤ sizeLine then (C4 (mk x.2.sl) fc fe x.1 x.2.fs).map fun y => (y.1, { x.2 with fs := y.2 }) else none
theorem a6Q {n : Nat} {G : TG} {mk : List Sl → D → Option (List Sl)} (hG : ∀ (N : Addr → Prop) (fa : Option Addr) (sl : List Sl) (d : D) (sl0 : List Sl) (x : V) (σ : L2.St) (H : Hp) (Q : L2.St → Hp → Prop), mk sl d = some sl0 → Rep X.K N fa H d x → SlR X.K N fa H (E9 idx sl) (idx.map fun i => (σ[i]?).join) [] →
  (∀ σ' : L2.St, (σ'.length = (D2 n idx σ).length ∧ ∀ (j : Nat) (v : V), (D2 n idx σ)[j]? = some (some v) → σ'[j]? = some (some v)) → SlR X.K N fa H sl0 σ' [] → Q σ' H) → G x (D2 n idx σ) H Q) : ∀ σ H Q, liftF X.K g (a7v mk fi fc fe) σ H Q → a0J n idx (liftI X.K g fi) G (fun σ H Q => ∃ g', liftT X.K g' fc σ H Q) (fun σ H Q => ∃ g', liftE X.K g' fe σ H Q) σ H Q := by
 intro σ H Q ⟨fa, O, s, res, s', I, e, kk⟩
 refine v7 e fun ds s1 h1 h2 => ?_
 by_cases hz : ds.length ≤ sizeLine
 ·simp only [if_pos hz] at h2
  refine mapP h2 fun out fsf h3 h4 => ?_
  simp only [Prod.mk.injEq] at h4
  obtain ⟨e1, e2⟩ := h4
  subst e1; subst e2
  refine ⟨fa, O, s, ds, s1, I, h1, hz, fun J H1 f1 O1 a1 I1 J1 p hp => ?_⟩
  have stE : ∀ {fa' : Option Addr} {H' : Hp}, Stp f1 [p] (upd H1 p (.lst [])) fa' [p] H' → StE f1 O1 H1 fa' O1 H' := fun {fa' H'} a => by
   refine ⟨fun _ h => h, ?_, fun b u e n => ?_, fun b z => (E8 (fa := f1) (O := O1) hp).mon b (a.mon b z)⟩
   ·rcases a.fe with e | ⟨e, h⟩
    ·exact .inl e
    ·exact .inr ⟨e, fun x z => (E8 (fa := f1) (O := O1) hp).mon x (h x z)⟩
   ·have nb : b ≠ p := L0 e hp
    exact a.same b u (by rw [u5 nb]; exact e) (by simp [nb]) n
  have carP : ∀ {fa' : Option Addr} {H' : Hp}, Stp f1 [p] (upd H1 p (.lst [])) fa' [p] H' → Car X.K (NN g.F f1 O1) f1 H1 (FF g fa' O1 p) fa' H' := fun {fa' H'} a => by
   have c := I1.car (stE a).stp
   refine ⟨fun b xs n q => ?_, c.tp, c.fz, c.fe⟩
   obtain ⟨q', n'⟩ := c.ls b xs n q
   refine ⟨q', ?_⟩
   rintro (z | z)
   ·exact n' z
   ·subst z; rw [hp] at q; cases q
  refine ⟨fun i m H' => m = ds.length - i ∧ i ≤ ds.length ∧ ∃ fa' ys res' rest fs', CI X.K g f1 O1 (upd H1 p (.lst [])) p fa' H' ys res' fs' ∧ C4 (mk s1.sl) fc fe (ds.drop i) fs' = some (rest, fsf) ∧ res' ++ rest = out ∧ ys.length ≤ i, ?_, ?_⟩
  ·refine ⟨ds.length, by simp, Nat.zero_le _, f1, [], [], out, s1.fs, ⟨Stp.refl, C9, Reps.nil, ?_, fun z => I1.fd.tracked z hp⟩, by simpa using h3, rfl, Nat.le_refl _⟩
   exact I1.fd.car (a00 I1 hp) (I1.fd.same_new hp)
  ·rintro i m H' ⟨rfl, hil, fa', ys, res', rest, fs', c, hd, ho, hy⟩
   have Hcar := carP c.st
   obtain ⟨jgo, jstop⟩ := J1 _ _ _ Hcar (fun b u e n => (stE c.st).same b u e n) i
   by_cases hlt : i < ds.length
   ·have hdi : ds[i]? = some ds[i] := List.getElem?_eq_getElem hlt
    obtain ⟨go, yl⟩ := jgo _ hdi
    refine .inr ⟨go, fun x H'' hx => ?_⟩
    obtain ⟨e1, rx⟩ := yl x H'' hx
    subst e1
    rw [a5J hdi, C4] at hd
    refine R8 hd fun sl0 hm hd => ?_
    refine v7 hd fun b sb h5 h6 => ?_
    have hNN : ∀ b, NN (FF g fa' O1 p) fa' [] b → FF g fa' O1 p b := fun b z => by
     rcases z with z | z | z
     ·exact z
     ·cases z
     ·exact .inl (.inr (.inr z))
    have cN : Car X.K (FF g fa' O1 p) fa' H'' (NN (FF g fa' O1 p) fa' []) fa' H'' := ⟨fun b xs n q => ⟨q, fun z => n (hNN b z)⟩, fun _ _ q => q, fun _ _ q => q, fun _ q => q⟩
    have trk : ∀ b, FF g fa' O1 p b → H'' b ≠ none := fun b z => by
     rcases z with (z | z | z) | z
     ·exact fun w => I1.trF z ((stE c.st).mon b w)
     ·obtain ⟨xs, e⟩ := I1.owned z
      exact fun w => by have := (stE c.st).mon b w; rw [e] at this; cases this
     ·exact c.fd.tracked z
     ·rw [z, c.ls]; simp
    refine hG (NN (FF g fa' O1 p) fa' []) fa' s1.sl ds[i] sl0 x σ H'' _ hm (Rep.go cN _ _ rx) (SlR.go cN (fun a xs ha => by cases ha) (a5m (SlR.go Hcar (fun a xs ha e => (stE c.st).same a _ e fun z => I1.nf a z ha) I1.sl) idx)) fun σ1 hσ hsl => ⟨hσ, ?_⟩
    have G0 : GI X.K ⟨FF g fa' O1 p, H'', fa'⟩ σ1 H'' fa' [] ⟨sl0, fs'⟩ := ⟨List.nodup_nil, hsl, fun b hb => (by cases hb), Stp.refl, trk, fun a ha => .inl (.inr (.inr ha)), c.fd.car cN fun _ _ => rfl, fun _ _ z => (by cases z)⟩
    refine ⟨⟨FF g fa' O1 p, H'', fa'⟩, fa', [], _, b, sb, G0, h5, fun H3 f3 O3 a3 I3 => ?_⟩
    have eO : O3 = [] := List.eq_nil_iff_forall_not_mem.mpr fun z hz => by have := a3.sub z hz; cases this
    subst eO
    have hF3 : ∀ b, FF g f3 O1 p b → NN (FF g fa' O1 p) f3 [] b := fun b z => by
     rcases z with (z | z | z) | z
     ·exact .inl (.inl (.inl z))
     ·exact .inl (.inl (.inr (.inl z)))
     ·exact .inr (.inr z)
     ·exact .inl (.inr z)
    have c3 := c.step a3 hF3 I3
    cases b with
    | false =>
     rw [if_neg Bool.false_ne_true] at h6
     refine a5u ?_
     exact ⟨ds.length - (i + 1), by omega, rfl, hlt, f3, ys, res', rest, sb.fs, c3, h6, ho, Nat.le_succ_of_le hy⟩
    | true =>
     rw [if_pos rfl] at h6
     refine a43 ?_
     refine v7 h6 fun dd sd h7 h8 => ?_
     refine mapP h8 fun rest2 fs2 h9 h10 => ?_
     simp only [Prod.mk.injEq] at h10
     refine ⟨⟨FF g fa' O1 p, H'', fa'⟩, f3, [], sb, dd, sd, I3, h7, fun v H4 f4 O4 a4 I4 r4 => ?_⟩
     have eO : O4 = [] := List.eq_nil_iff_forall_not_mem.mpr fun z hz => by have := a4.sub z hz; cases this
     subst eO
     have hF4 : ∀ b, FF g f4 O1 p b → NN (FF g fa' O1 p) f4 [] b := fun b z => by
      rcases z with (z | z | z) | z
      ·exact .inl (.inl (.inl z))
      ·exact .inl (.inl (.inr (.inl z)))
      ·exact .inr (.inr z)
      ·exact .inl (.inr z)
     have c4 := c3.step a4 hF4 I4
     refine ⟨ys, c4.ls, by omega, ds.length - (i + 1), by omega, rfl, hlt, f4, ys ++ [v], res' ++ [dd], rest2, sd.fs, c4.app hF4 r4, by rw [h9, h10.2], ?_, by simp; omega⟩
     rw [← ho, ← h10.1]; simp
   ·refine .inl ⟨jstop (Nat.le_of_not_lt hlt), ?_⟩
    rw [List.drop_eq_nil_of_le (Nat.le_of_not_lt hlt), C4] at hd
    simp only [Option.some.injEq, Prod.mk.injEq] at hd
    obtain ⟨hd1, hd2⟩ := hd
    subst hd1; subst hd2
    rw [List.append_nil] at ho
    subst ho
    have aE := stE c.st
    have car1 := I1.car aE.stp
    have sameO : ∀ a xs, a ∈ O1 → H1 a = some (.lst xs) → H' a = some (.lst xs) := fun a xs ha e => aE.same a _ e fun z => I1.nf a z ha
    refine kk p ys H' fa' O1 (a1.trans aE) ⟨⟨I1.nd, SlR.go car1 sameO I1.sl, I1.fr, I1.st.trans ⟨fun b hb => (by cases hb), aE.fe, fun b u e _ n => aE.same b u e n, aE.mon⟩, I1.tr, I1.ff, ?_, I1.nf_step aE.fe⟩, c.ls, SlR.go Hcar sameO I1.sl, c.fd, c.rs, c.nf⟩ (a1.mon p hp)
    exact c.fd.car (K := X.K) ⟨fun b xs n q => ⟨q, fun z => n (.inl z)⟩, fun _ _ q => q, fun _ _ q => q, fun _ q => q⟩ fun _ _ => rfl
 ·simp only [if_neg hz] at h2; cases h2
theorem b0P (k : CompOk X scope cl N' 1 idx) : ∀ σ H Q, liftF X.K g (C7 idx fi fc fe) σ H Q → a0J 1 idx (liftI X.K g fi) (V1 0) (fun σ H Q => ∃ g', liftT X.K g' fc σ H Q) (fun σ H Q => ∃ g', liftE X.K g' fe σ H Q) σ H Q :=
 a6Q (mk := fun sl d => some (.val d :: E9 idx sl)) fun N fa sl d sl0 x σ H Q hm rx hc kk => by
  cases hm
  refine kk _ ⟨by simp, fun j v hj => ?_⟩ ?_
  ·cases j with
   | zero => simp [D2] at hj
   | succ j => rw [List.getElem?_set_ne (by simp)]; exact hj
  ·have eb : (D2 1 idx σ).set 0 (some x) = some x :: idx.map fun i => (σ[i]?).join := by simp [D2]
   rw [eb]
   simp only [SlR]
   exact ⟨x, _, rfl, rx, hc⟩
theorem U6 (hc : X.calm = true) (k : CompOk X scope cl N' 1 idx) (hi : IO X g tg iter fi) (hg : ∀ C s0 H0 ex, PG (blk X N' scope cl C s0 H0 ex) tg (V1 0))
  (ht : ∀ C s0 H0 ex g', a1h (blk X N' scope cl C s0 H0 ex) g' ifs fc) (he : ∀ C s0 H0 ex g', EO (blk X N' scope cl C s0 H0 ex) g' elt fe) (hs : ∀ x, foldedSetIterable iter X.env x = pure x := by intro _; rfl) :
  FO X g (.ListComp elt [⟨tg, iter, ifs, 0⟩] scope pos) (C7 idx fi fc fe) := by
 exact FO.w (a6h (tc := fun σ H Q => ∃ g', liftT X.K g' fc σ H Q) (te := fun σ H Q => ∃ g', liftE X.K g' fe σ H Q) hc k hi.pe hg (fun C s0 H0 ex pins s σ H Q I ⟨g', h⟩ => ht C s0 H0 ex g' pins s σ H Q I h) (fun C s0 H0 ex pins s σ H Q I ⟨g', h⟩ => (he C s0 H0 ex g').pe pins s σ H Q I h) hs) (b0P k)
end
end DL

namespace HT2
open PySem PyProof.Rows
theorem cat_tup0 {prog : Program} {w : World} {A : Around} {E : Value → Shared → Prop} {s : Shared} {t b : Addr} {ws : List Value} {Q : Value → Shared → Prop} (ht : IsTup s.heap t ([] : List Value).toArray) (hb : IsTup s.heap b ws.toArray)
  (h : Q (.ref b) s) : wpAny (model prog w) A (binaryOp .Add (.ref t) (.ref b)) Q E s := by
 obtain ⟨⟨cls, dd, data, sl⟩, ho, hc, n, hd⟩ := id ht
 obtain ⟨⟨cls2, dd2, data2, sl2⟩, ho2, hc2, n2, hd2⟩ := id hb
 simp only at hc hd hc2 hd2
 subst hc hd hc2 hd2
 exact concat_meets ⟨_, ho, rfl⟩ ⟨_, ho2, rfl⟩ noFill_tuple_add seq_tuple_add PySem.F.slot_tuple_add PySem.F.entry_tuple_add (PySem.F.args_tuple_add_2 _ _)
  (tuple_addW0 t b _ ws.toArray n n2 dd dd2 sl sl2 (by simp)) ⟨ho, ho2, h⟩
end HT2
namespace DL
open PySem PySem.Spec L2

noncomputable def A5 (i : Int) : Bool := decide (i.natAbs.log2 < 1000000)
theorem a5W {i : Int} (h : A5 i = true) : Builtin.Int.intBits i ≤ 2 ^ 20 := by
 have h1 : i.natAbs.log2 < 1000000 := of_decide_eq_true h
 unfold Builtin.Int.intBits
 split
 ·exact Nat.zero_le _
 ·have e : (2 : Nat) ^ 20 = 1048576 := by decide
  rw [e]; omega
noncomputable def F6 (j : Int) : Bool := decide (j ≠ 0) && decide (j.natAbs.log2 < 9000)
section
variable {X : Cx}
theorem op_mulB : OpR X (binaryOp .Mult) (rI (fun i j => A5 i = true ∧ A5 j = true) fun i j => .int (i * j)) := opI fun _ _ _ _ _ _ _ hc q => PyProof.Rows.mul_int q (IntMulOk.of_bits (a5W hc.1) (a5W hc.2))
theorem N2 : OpR X (binaryOp .FloorDiv) (rI (fun _ j => F6 j = true) fun i j => .int (i.fdiv j)) := opI fun i j _ _ _ _ _ hc q => by
 have hc' : F6 j = true := hc
 unfold F6 at hc'
 rw [Bool.and_eq_true] at hc'
 exact PyProof.Rows.floordiv_int (of_decide_eq_true hc'.1) q (.inl (PyProof.noPylong_of_log2 (of_decide_eq_true hc'.2)))
noncomputable def a6L (K : PySem.W.Frag) : R2 := fun x y H Q => ∃ a b ys, x = .ref a ∧ y = .ref b ∧ SqT K H a [] ∧ SqT K H b ys ∧ Q (.ref b) H
theorem op_catT0 : OpR X (binaryOp .Add) (a6L X.K) := by
 intro pins s σ H x y v u Q I rx ry h
 obtain ⟨a, b, ys, rfl, rfl, ha, hb, q⟩ := h
 cases rx
 cases ry
 obtain ⟨its, r1, ht, _⟩ := I.tuple ha
 obtain ⟨its2, r2, ht2, _⟩ := I.tuple hb
 cases r1
 exact HT2.cat_tup0 ht ht2 ⟨.ref b, H, I, rfl, q⟩
noncomputable def a6t (K : PySem.W.Frag) : R2 := fun x y H Q => (rI0 (fun i j => .int (i + j)) x y H Q ∨ (∃ i j, x = .str i ∧ y = .str j ∧ i.length + j.length ≤ sizeLine ∧ Q (.str (i ++ j)) H)) ∨ ((a6L K x y H Q ∨ a5b K x y H Q) ∨ a32 x y H Q)
theorem C6 : OpR X (binaryOp .Add) (a6t X.K) := (op_add.or b3j).or ((op_catT0.or b1V).or a3g)
noncomputable def a6v : R2 := fun x y H Q => rI (fun i j => A5 i = true ∧ A5 j = true) (fun i j => .int (i * j)) x y H Q ∨ a5O x y H Q
theorem v5 : OpR X (binaryOp .Mult) a6v := op_mulB.or b1c
end
noncomputable def i6 : D → D → Option D
 | .int i, .int j => some (.int (i + j))
 | .str x, .str y => if x.length + y.length ≤ sizeLine then some (.str (x ++ y)) else none
 | .tup xs, .tup ys => if xs.length + ys.length ≤ sizeLine then some (.tup (xs ++ ys)) else none
 | .lst xs, .lst ys => if xs.length + ys.length ≤ sizeLine then some (.lst (xs ++ ys)) else none
 | _, _ => none
noncomputable def k6 : D → D → Option D
 | .int i, .int j => some (.int (i - j))
 | _, _ => none
noncomputable def r8 : D → D → Option D
 | .int i, .int j => if A5 i && A5 j then some (.int (i * j)) else none
 | .lst xs, .int k => if -(2 ^ 63) ≤ k ∧ k < 2 ^ 63 ∧ xs.length * k.toNat ≤ sizeLine then some (.lst (List.replicate k.toNat xs).flatten) else none
 | _, _ => none
noncomputable def C2 : D → D → Option D
 | .int i, .int j => if F6 j then some (.int (i.fdiv j)) else none
 | _, _ => none
noncomputable def v8 : D → D → Option D
 | .int i, .int j => if j ≠ 0 then some (.int (i.fmod j)) else none
 | _, _ => none
noncomputable def U5 : D → D → Option D
 | .int i, .int j => if 0 ≤ j ∧ j ≤ 1000000 ∧ i.natAbs < 2 ^ 64 then some (.int (i ^ j.toNat)) else none
 | _, _ => none
noncomputable def k0 : D → Option D
 | .int i => some (.int (-i))
 | _ => none
noncomputable def j3 (p : Int → Int → Bool) : D → D → Option D
 | .int i, .int j => some (.bl (p i j))
 | _, _ => none
theorem a5K {K : PySem.W.Frag} {N : Addr → Prop} {fa : Option Addr} {H : Hp} {ds : List D} {xs : List V} (r : Reps K N fa H ds xs) : xs = [] ↔ ds = [] := by
 have := r.length
 cases xs <;> cases ds <;> simp_all
theorem Reps.flat {K : PySem.W.Frag} {N : Addr → Prop} {fa : Option Addr} {H : Hp} {ds : List D} {xs : List V} (r : Reps K N fa H ds xs) : ∀ k : Nat, Reps K N fa H (List.replicate k ds).flatten (List.replicate k xs).flatten
 | 0 => by simp [Reps]
 | k + 1 => by
  simp only [List.replicate_succ, List.flatten_cons]
  exact Reps.append r (Reps.flat r k)
section
variable {K : PySem.W.Frag}
theorem C3 : R2D K (a6t K) i6 := by
 intro g σ H fa O s x y d1 d2 d Q I r1 r2 e k
 cases d1 with
 | int i =>
  cases d2 with
  | int j =>
   cases e
   simp only [RepB, Rep] at r1 r2
   exact .inl (.inl ⟨i, j, r1, r2, k _ H StE.refl I (by simp only [Rep])⟩)
  | _ => cases e
 | str a =>
  cases d2 with
  | str b =>
   have e : (if a.length + b.length ≤ sizeLine then some (D.str (a ++ b)) else none) = some d := e
   by_cases h : a.length + b.length ≤ sizeLine
   ·rw [if_pos h] at e
    cases e
    simp only [RepB, Rep] at r1 r2
    refine .inl (.inr ⟨a, b, r1.1, r2.1, h, k _ H StE.refl I ?_⟩)
    simp only [Rep]
    exact ⟨trivial, by rw [strLen_append]; exact h⟩
   ·rw [if_neg h] at e; cases e
  | _ => cases e
 | tup as =>
  cases d2 with
  | tup bs =>
   have e : (if as.length + bs.length ≤ sizeLine then some (D.tup (as ++ bs)) else none) = some d := e
   by_cases h : as.length + bs.length ≤ sizeLine
   ·rw [if_pos h] at e
    cases e
    simp only [RepB, Rep] at r1 r2
    obtain ⟨a, xs, rfl, qa, wa⟩ := r1
    obtain ⟨b, ys, rfl, qb, wb⟩ := r2
    by_cases hx : xs = []
    ·have ha := (a5K wa).mp hx
     subst hx; subst ha
     refine .inr (.inl (.inl ⟨a, b, ys, rfl, rfl, qa, qb, k _ H StE.refl I ?_⟩))
     simp only [Rep, List.nil_append]
     exact ⟨b, ys, rfl, qb, wb⟩
    ·refine .inr (.inl (.inr ⟨a, b, xs, ys, rfl, rfl, qa, qb, hx, by rw [wa.length, wb.length]; exact h, fun hy => ?_, fun hy p hp => ?_⟩))
     ·have hb := (a5K wb).mp hy
      subst hy; subst hb
      refine k _ H StE.refl I ?_
      simp only [Rep, List.append_nil]
      exact ⟨a, xs, rfl, qa, wa⟩
     ·have a2 : StE fa O H fa O (upd H p (.tup (xs ++ ys))) := E8 hp
      refine k _ _ a2 (I.new hp) ?_
      simp only [Rep]
      exact ⟨p, _, rfl, SqT.of C9, Reps.stp I a2.stp (Reps.append wa wb)⟩
   ·rw [if_neg h] at e; cases e
  | _ => cases e
 | lst as =>
  cases d2 with
  | lst bs =>
   have e : (if as.length + bs.length ≤ sizeLine then some (D.lst (as ++ bs)) else none) = some d := e
   by_cases h : as.length + bs.length ≤ sizeLine
   ·rw [if_pos h] at e
    cases e
    obtain ⟨a, xs, rfl, _, qa, wa⟩ := r1
    obtain ⟨b, ys, rfl, _, qb, wb⟩ := r2
    refine .inr (.inr ⟨a, b, xs, ys, rfl, rfl, qa, qb, by rw [wa.length, wb.length]; exact h, fun p hp => ?_⟩)
    have a2 : StE fa O H fa O (upd H p (.lst (xs ++ ys))) := E8 hp
    have L := T7 I hp (Reps.append wa wb)
    refine k _ _ a2 L.gi ?_
    simp only [Rep]
    exact ⟨p, _, rfl, a09 I a2 L.gi hp L.nf, C9, Reps.stp I a2.stp (Reps.append wa wb)⟩
   ·rw [if_neg h] at e; cases e
  | _ => cases e
 | _ => cases e
noncomputable def W6 : D → D → Option (List D)
 | .lst xs, .lst ys => if xs.length + ys.length ≤ sizeLine then some (xs ++ ys) else none
 | _, _ => none
theorem a7i : R2F K a32 W6 := by
 intro g σ H fa O s x y d1 d2 ds Q I r1 r2 e k
 cases d1 with
 | lst as =>
  cases d2 with
  | lst bs =>
   simp only [W6] at e
   by_cases h : as.length + bs.length ≤ sizeLine
   ·rw [if_pos h] at e
    cases e
    obtain ⟨a, xs, rfl, _, qa, wa⟩ := r1
    obtain ⟨b, ys, rfl, _, qb, wb⟩ := r2
    refine ⟨a, b, xs, ys, rfl, rfl, qa, qb, by rw [wa.length, wb.length]; exact h, fun p hp => ?_⟩
    exact k p _ _ (E8 hp) (T7 I hp (Reps.append wa wb)) hp
   ·rw [if_neg h] at e; cases e
  | _ => cases e
 | _ => cases e
theorem a18 {C : Int → Int → Prop} {f : Int → Int → D} {f' : Int → Int → V} {p : D → D → Option D} (hp : ∀ d1 d2 d, p d1 d2 = some d → ∃ i j, d1 = .int i ∧ d2 = .int j ∧ C i j ∧ d = f i j) (hf : ∀ N fa H i j, Rep K N fa H (f i j) (f' i j)) : R2D K (rI C f') p := by
 intro g σ H fa O s x y d1 d2 d Q I r1 r2 e k
 obtain ⟨i, j, rfl, rfl, c, rfl⟩ := hp d1 d2 d e
 simp only [RepB, Rep] at r1 r2
 exact ⟨i, j, r1, r2, c, k _ H StE.refl I (hf _ _ _ _ _)⟩
theorem a4s {f : Int → Int → D} {f' : Int → Int → V} {p : D → D → Option D} (hp : ∀ d1 d2 d, p d1 d2 = some d → ∃ i j, d1 = .int i ∧ d2 = .int j ∧ d = f i j) (hf : ∀ N fa H i j, Rep K N fa H (f i j) (f' i j)) : R2D K (rI0 f') p := by
 intro g σ H fa O s x y d1 d2 d Q I r1 r2 e k
 obtain ⟨i, j, rfl, rfl, rfl⟩ := hp d1 d2 d e
 simp only [RepB, Rep] at r1 r2
 exact ⟨i, j, r1, r2, k _ H StE.refl I (hf _ _ _ _ _)⟩
noncomputable def a3h (F : Int → Int → Option D) : D → D → Option D
 | .int i, .int j => F i j
 | _, _ => none
theorem a4X {F : Int → Int → Option D} {d1 d2 d : D} (e : a3h F d1 d2 = some d) : ∃ i j, d1 = .int i ∧ d2 = .int j ∧ F i j = some d := by
 cases d1 with
 | int i =>
  cases d2 with
  | int j => exact ⟨i, j, rfl, rfl, e⟩
  | _ => cases e
 | _ => cases e
theorem a2u {C : Int → Int → Prop} [∀ i j, Decidable (C i j)] {f : Int → Int → D} {d1 d2 d : D} (e : a3h (fun i j => if C i j then some (f i j) else none) d1 d2 = some d) : ∃ i j, d1 = .int i ∧ d2 = .int j ∧ C i j ∧ d = f i j := by
 obtain ⟨i, j, h1, h2, h3⟩ := a4X e
 by_cases h : C i j
 ·have h3 : (if C i j then some (f i j) else none) = some d := h3
  rw [if_pos h] at h3
  exact ⟨i, j, h1, h2, h, (Option.some.inj h3).symm⟩
 ·have h3 : (if C i j then some (f i j) else none) = some d := h3
  rw [if_neg h] at h3
  cases h3
theorem a55 {f : Int → Int → D} {d1 d2 d : D} (e : a3h (fun i j => some (f i j)) d1 d2 = some d) : ∃ i j, d1 = .int i ∧ d2 = .int j ∧ d = f i j := by
 obtain ⟨i, j, h1, h2, h3⟩ := a4X e
 exact ⟨i, j, h1, h2, (Option.some.inj h3).symm⟩
theorem J0 : R2D K (rI0 fun i j => .int (i - j)) k6 := a4s (f := fun i j => .int (i - j)) (fun d1 d2 d e => a55 (f := fun i j => .int (i - j)) e) fun _ _ _ _ _ => by simp only [Rep]
theorem D6 (p : Int → Int → Bool) : R2D K (rI0 fun i j => .bl (p i j)) (j3 p) := a4s (f := fun i j => .bl (p i j)) (fun d1 d2 d e => a55 (f := fun i j => .bl (p i j)) e) fun _ _ _ _ _ => by simp only [Rep]
theorem v4 : R2D K a6v r8 := by
 intro g σ H fa O s x y d1 d2 d Q I r1 r2 e k
 cases d1 with
 | int i =>
  cases d2 with
  | int j =>
   have e : (if A5 i && A5 j then some (D.int (i * j)) else none) = some d := e
   by_cases h : (A5 i && A5 j) = true
   ·rw [if_pos h] at e
    cases e
    rw [Bool.and_eq_true] at h
    simp only [RepB, Rep] at r1 r2
    exact .inl ⟨i, j, r1, r2, h, k _ H StE.refl I (by simp only [Rep])⟩
   ·rw [if_neg h] at e; cases e
  | _ => cases e
 | lst as =>
  cases d2 with
  | int j =>
   simp only [r8] at e
   by_cases h : -(2 ^ 63) ≤ j ∧ j < 2 ^ 63 ∧ as.length * j.toNat ≤ sizeLine
   ·rw [if_pos h] at e
    cases e
    obtain ⟨a, xs, rfl, _, qa, wa⟩ := r1
    simp only [RepB, Rep] at r2
    subst r2
    refine .inr ⟨a, j, xs, rfl, rfl, qa, h.1, h.2.1, by rw [wa.length]; exact h.2.2, fun p hp => ?_⟩
    have a2 : StE fa O H fa O (upd H p (.lst (List.replicate j.toNat xs).flatten)) := E8 hp
    have L := T7 I hp (wa.flat j.toNat)
    refine k _ _ a2 L.gi ?_
    simp only [Rep]
    exact ⟨p, _, rfl, a09 I a2 L.gi hp L.nf, C9, Reps.stp I a2.stp (wa.flat j.toNat)⟩
   ·rw [if_neg h] at e; cases e
  | _ => cases e
 | _ => cases e
theorem M6 : R2D K (rI (fun _ j => F6 j = true) fun i j => .int (i.fdiv j)) C2 := a18 (f := fun i j => .int (i.fdiv j)) (fun d1 d2 d e => a2u (C := fun _ j => F6 j = true) (f := fun i j => .int (i.fdiv j)) e) fun _ _ _ _ _ => by simp only [Rep]
theorem K2 : R2D K (rI (fun _ j => j ≠ 0) fun i j => .int (i.fmod j)) v8 := a18 (f := fun i j => .int (i.fmod j)) (fun d1 d2 d e => a2u (C := fun _ j => j ≠ 0) (f := fun i j => .int (i.fmod j)) e) fun _ _ _ _ _ => by simp only [Rep]
theorem a50 : R2D K (rI a4v fun i j => .int (i ^ j.toNat)) U5 := a18 (f := fun i j => .int (i ^ j.toNat)) (fun d1 d2 d e => a2u (C := fun i j => 0 ≤ j ∧ j ≤ 1000000 ∧ i.natAbs < 2 ^ 64) (f := fun i j => .int (i ^ j.toNat)) e) fun _ _ _ _ _ => by simp only [Rep]
theorem L9 : R1D K (rU fun i => .int (-i)) k0 := by
 intro g σ H fa O s x d1 d Q I r1 e k
 cases d1 with
 | int i => cases e; simp only [RepB, Rep] at r1; exact ⟨i, r1, k _ H StE.refl I (by simp only [Rep])⟩
 | _ => cases e
end
end DL

namespace DL
open PySem PySem.Spec L2

section
variable {X : Cx} {pins : List (Addr × Obj)} {σ : L2.St} {H : Hp} {s : Shared} {N : Addr → Prop} {fa : Option Addr}
mutual
theorem R7 (I : Inv X pins σ H s) : ∀ (d : D) (v : V) (u : Value), N9 X.K N fa H d v → RelV v u → d.plain = true → ∃ as, Reads s.heap u d.py as
 | .non, v, u, r, ru, _ => by
  simp only [N9, Rep] at r; subst r; cases ru
  simp only [D.py]; exact ⟨[], .none⟩
 | .bl b, v, u, r, ru, _ => by
  simp only [N9, Rep] at r; subst r; cases ru
  simp only [D.py]; exact ⟨[], .bool b⟩
 | .int i, v, u, r, ru, _ => by
  simp only [N9, Rep] at r; subst r
  obtain ⟨t, rfl⟩ := ru
  simp only [D.py]; exact ⟨[], .int i t⟩
 | .str x, v, u, r, ru, _ => by
  simp only [N9, Rep] at r; obtain ⟨r, _⟩ := r; subst r
  obtain ⟨t, rfl⟩ := ru
  simp only [D.py]; exact ⟨[], .str x t⟩
 | .tup ds, v, u, r, ru, hp => by
  simp only [N9, Rep] at r
  obtain ⟨a, xs, rfl, q, w⟩ := r
  cases ru
  obtain ⟨its, rv, ⟨o, h1, h2, n, h3⟩, _⟩ := I.tuple q
  obtain ⟨as, ra⟩ := a11 I ds xs its w rv (by simpa only [D.plain] using hp)
  simp only [D.py]
  exact ⟨as, .tuple h1 h2 h3 (by simpa using ra)⟩
 | .lst ds, v, u, r, ru, hp => by
  obtain ⟨a, xs, rfl, q, w⟩ := r
  cases ru
  obtain ⟨its, rv, ⟨o, n, h1, h2, h3, h4⟩, _⟩ := I.list (SqL.of q)
  obtain ⟨as, ra⟩ := a11 I ds xs its w rv (by simpa only [D.plain] using hp)
  simp only [D.py]
  exact ⟨_, .list h1 h2 h4 (by simpa using ra)⟩
 | .feed, v, u, r, ru, hp => by simp only [D.plain] at hp; cases hp
 | .scr _, v, u, r, ru, hp => by simp only [D.plain] at hp; cases hp
theorem a11 (I : Inv X pins σ H s) : ∀ (ds : List D) (xs : List V) (us : List Value), Reps X.K N fa H ds xs → Vals xs us → D.plains ds = true → ∃ as, ReadsAll s.heap us (D.pys ds) as
 | [], xs, us, r, ru, _ => by
  simp only [Reps] at r; subst r; cases ru
  simp only [D.pys]; exact ⟨[], .nil⟩
 | d :: ds, xs, us, r, ru, hp => by
  simp only [Reps] at r
  obtain ⟨x, ys, rfl, r1, r2⟩ := r
  cases ru with
  | cons q qs =>
   simp only [D.plains, Bool.and_eq_true] at hp
   obtain ⟨as, h1⟩ := R7 I d x _ r1.o q hp.1
   obtain ⟨bs, h2⟩ := a11 I ds ys _ r2 qs hp.2
   simp only [D.pys]; exact ⟨_, .cons h1 h2⟩
end
end

noncomputable def w6 (d : D) : Bool := d.plain && SeqAt.shaped d.py
noncomputable def pEq (d1 d2 : D) : Option D := match d1, d2 with
 | .str x, .str y => some (.bl (decide (x = y)))
 | d1, d2 => if w6 d1 && w6 d2 then some (.bl (PyData.eqv d1.py d2.py)) else none
noncomputable def pNe (d1 d2 : D) : Option D := match d1, d2 with
 | .str x, .str y => some (.bl (!decide (x = y)))
 | d1, d2 => if w6 d1 && w6 d2 then some (.bl (!PyData.eqv d1.py d2.py)) else none
noncomputable def X3 (K : PySem.W.Frag) (f : Bool → Bool) : R2 := fun x y H Q => ∃ N fa d1 d2, RepB K N fa H d1 x ∧ RepB K N fa H d2 y ∧ w6 d1 = true ∧ w6 d2 = true ∧ Q (.bl (f (PyData.eqv d1.py d2.py))) H
section
variable {X : Cx} {K : PySem.W.Frag}
theorem b3x (hu : X.A.units + 64 < cLine) : OpR X (compareOp .Eq) (X3 X.K id) := by
 intro pins s σ H x y v u Q I rx ry h
 obtain ⟨N, fa, d1, d2, r1, r2, o1, o2, q⟩ := h
 unfold w6 at o1 o2
 rw [Bool.and_eq_true] at o1 o2
 obtain ⟨as, h1⟩ := R7 I d1 x v r1.o rx o1.1
 obtain ⟨bs, h2⟩ := R7 I d2 y u r2.o ry o2.1
 exact PyProof.Rows.eq_dataH h1 h2 o1.2 o2.2 hu ⟨.bl _, H, I, rfl, q⟩
theorem a8e (hu : X.A.units + 64 < cLine) : OpR X (compareOp .NotEq) (X3 X.K not) := by
 intro pins s σ H x y v u Q I rx ry h
 obtain ⟨N, fa, d1, d2, r1, r2, o1, o2, q⟩ := h
 unfold w6 at o1 o2
 rw [Bool.and_eq_true] at o1 o2
 obtain ⟨as, h1⟩ := R7 I d1 x v r1.o rx o1.1
 obtain ⟨bs, h2⟩ := R7 I d2 y u r2.o ry o2.1
 exact PyProof.Rows.ne_dataH h1 h2 o1.2 o2.2 hu ⟨.bl _, H, I, rfl, q⟩
theorem G1 (hu : X.A.units + 64 < cLine) : OpR X (compareOp .Eq) (fun x y H Q => rEq x y H Q ∨ X3 X.K id x y H Q) := op_eq.or (b3x hu)
theorem N4 (hu : X.A.units + 64 < cLine) : OpR X (compareOp .NotEq) (fun x y H Q => rNe x y H Q ∨ X3 X.K not x y H Q) := op_ne.or (a8e hu)
theorem b06 {d1 d2 d : D} (h : pEq d1 d2 = some d) : (∃ x y, d1 = .str x ∧ d2 = .str y ∧ d = .bl (decide (x = y))) ∨ (w6 d1 = true ∧ w6 d2 = true ∧ d = .bl (PyData.eqv d1.py d2.py)) := by
 unfold pEq at h
 split at h
 ·cases h; exact .inl ⟨_, _, rfl, rfl, rfl⟩
 ·split at h
  ·rename_i q
   rw [Bool.and_eq_true] at q
   cases h; exact .inr ⟨q.1, q.2, rfl⟩
  ·cases h
theorem b0K {d1 d2 d : D} (h : pNe d1 d2 = some d) : (∃ x y, d1 = .str x ∧ d2 = .str y ∧ d = .bl (!decide (x = y))) ∨ (w6 d1 = true ∧ w6 d2 = true ∧ d = .bl (!PyData.eqv d1.py d2.py)) := by
 unfold pNe at h
 split at h
 ·cases h; exact .inl ⟨_, _, rfl, rfl, rfl⟩
 ·split at h
  ·rename_i q
   rw [Bool.and_eq_true] at q
   cases h; exact .inr ⟨q.1, q.2, rfl⟩
  ·cases h
theorem a4V (x y : Str) : decide (V.str x = V.str y) = decide (x = y) := by
 by_cases h : x = y
 ·subst h; simp
 ·rw [decide_eq_false h, decide_eq_false fun z => h (V.str.inj z)]
theorem F9 : R2D K (fun x y H Q => rEq x y H Q ∨ X3 K id x y H Q) pEq := by
 intro g σ H fa O s x y d1 d2 d Q I r1 r2 e k
 rcases b06 e with ⟨a, b, rfl, rfl, rfl⟩ | ⟨h1, h2, rfl⟩
 ·simp only [RepB, Rep] at r1 r2
  obtain ⟨rfl, _⟩ := r1
  obtain ⟨rfl, _⟩ := r2
  exact .inl ⟨rfl, k _ H StE.refl I (by simp only [Rep, a4V])⟩
 ·exact .inr ⟨_, _, d1, d2, r1, r2, h1, h2, k _ H StE.refl I (by simp only [Rep, id])⟩
theorem O6 : R2D K (fun x y H Q => rNe x y H Q ∨ X3 K not x y H Q) pNe := by
 intro g σ H fa O s x y d1 d2 d Q I r1 r2 e k
 rcases b0K e with ⟨a, b, rfl, rfl, rfl⟩ | ⟨h1, h2, rfl⟩
 ·simp only [RepB, Rep] at r1 r2
  obtain ⟨rfl, _⟩ := r1
  obtain ⟨rfl, _⟩ := r2
  exact .inl ⟨rfl, k _ H StE.refl I (by simp only [Rep, a4V])⟩
 ·exact .inr ⟨_, _, d1, d2, r1, r2, h1, h2, k _ H StE.refl I (by simp only [Rep])⟩

noncomputable def pIx : D → D → Option D
 | .tup ds, .int i => atI ds i
 | .lst ds, .int i => atI ds i
 | _, _ => none
theorem a7e {N : Addr → Prop} {fa : Option Addr} {H : Hp} {ds : List D} {xs : List V} {i : Int} {d : D} (r : Reps K N fa H ds xs) (h : atI ds i = some d) : ∃ v, atI xs i = some v ∧ Rep K N fa H d v := by
 unfold atI at h ⊢
 rw [r.length]
 cases e : ixN ds.length i with
 | none => rw [e] at h; cases h
 | some j =>
  rw [e] at h
  simp only [Option.bind_some] at h ⊢
  exact Reps.get r h
theorem j7 : R2D K (fun x y H Q => a3D K x y H Q ∨ a1Y K x y H Q) pIx := by
 intro g σ H fa O s x y d1 d2 d Q I r1 r2 e k
 cases d1 with
 | tup ds =>
  cases d2 with
  | int i =>
   simp only [RepB, Rep] at r1 r2
   obtain ⟨a, xs, rfl, q, w⟩ := r1
   obtain ⟨v, hv, rv⟩ := a7e w (show atI ds i = some d from e)
   exact .inr ⟨a, xs, i, v, rfl, r2, q, hv, k v H StE.refl I rv⟩
  | _ => cases e
 | lst ds =>
  cases d2 with
  | int i =>
   obtain ⟨a, xs, rfl, _, q, w⟩ := r1
   simp only [RepB, Rep] at r2
   obtain ⟨v, hv, rv⟩ := a7e w (show atI ds i = some d from e)
   exact .inl ⟨a, xs, i, v, rfl, r2, SqL.of q, hv, k v H StE.refl I rv⟩
  | _ => cases e
 | _ => cases e
theorem j6 : IxR X (fun x y H Q => a3D X.K x y H Q ∨ a1Y X.K x y H Q) := ix_list.or a7Y
end

noncomputable def dCB (p : List D → Option D) (f : DA) : DE := fun s => (f s).bind fun x => (p x.1).map fun d => (d, x.2)
noncomputable def dCF (p : List D → Option (List D)) (f : DA) : DA := fun s => (f s).bind fun x => (p x.1).map fun d => (d, x.2)
section
variable {X : Cx} {g : Gh} {x : Str} {p pos : Pos} {e : Expr} {es : List Expr} {t : DA} {id T : String} {r : List V → Hp → VK → Prop} {pr : List D → Option D} {pf : List D → Option (List D)}
theorem a4u (hr : RCD X.K r pr) (σ : L2.St) (H : Hp) (Q : VK) (h : liftE X.K g (dCB pr t) σ H Q) : tCB r (liftBA X.K g t) σ H Q := by
 obtain ⟨f0, O, s, d, s', I, e, k⟩ := h
 refine v7 e fun ds s1 h1 h => ?_
 refine J3 h fun d' h3 h => ?_
 simp only [Prod.mk.injEq] at h
 obtain ⟨e1, e2⟩ := h
 subst e1; subst e2
 exact ⟨f0, O, s, ds, s1, I, h1, fun vs H1 f1 O1 a1 I1 r1 => hr g σ H1 f1 O1 s1 vs ds d' Q I1 r1 h3 fun z H3 a3 I3 r3 => k z H3 f1 O1 (a1.trans a3) I3 r3⟩
theorem a5v (hr : RCF X.K r pf) (σ : L2.St) (H : Hp) (Q : VK) (h : liftF X.K g (dCF pf t) σ H Q) : tCB r (liftBA X.K g t) σ H Q := by
 obtain ⟨f0, O, s, d, s', I, e, k⟩ := h
 refine v7 e fun ds s1 h1 h => ?_
 refine J3 h fun d' h3 h => ?_
 simp only [Prod.mk.injEq] at h
 obtain ⟨e1, e2⟩ := h
 subst e1; subst e2
 exact ⟨f0, O, s, ds, s1, I, h1, fun vs H1 f1 O1 a1 I1 r1 => hr g σ H1 f1 O1 s1 vs ds d' Q I1 r1 h3 fun q ys H3 a3 L e3 => k q ys H3 f1 O1 (a1.trans a3) L (a1.mon _ e3)⟩
theorem C8 (hc : CallR X (.builtin id) r) (hr : RCD X.K r pr) (hg : Gl X x) (hm : X.mg x = none) (hv : bootBuiltins x = some (.builtin id)) (ha : BAO X g (e :: es) t) (hn : x ≠ "__name__" := by decide) (hdb : (x == ("__debug__" : Str)) = false := by decide)
  (he : starEach (e :: es) X.env = (false, eval e X.env) :: starEach es X.env := by rfl) (hpl : (backTo pos (starEach es X.env)).any (·.1) = false := by rfl) : EO X g (.Call (.Name x p) (e :: es) [] pos) (dCB pr t) :=
 EO.w (a4P hc hg hm hv ha.pe hn hdb he hpl) (a4u hr)
theorem T2 (hc : CallR X (.type T) r) (hr : RCD X.K r pr) (hg : Gl X x) (hm : X.mg x = none) (hv : bootBuiltins x = some (.type T)) (ha : BAO X g (e :: es) t) (hn : x ≠ "__name__" := by decide) (hdb : (x == ("__debug__" : Str)) = false := by decide)
  (he : starEach (e :: es) X.env = (false, eval e X.env) :: starEach es X.env := by rfl) (hpl : (backTo pos (starEach es X.env)).any (·.1) = false := by rfl) : EO X g (.Call (.Name x p) (e :: es) [] pos) (dCB pr t) :=
 EO.w (a6l hc hg hm hv ha.pe hn hdb he hpl) (a4u hr)
theorem a7y (hc : CallR X (.type T) r) (hr : RCF X.K r pf) (hg : Gl X x) (hm : X.mg x = none) (hv : bootBuiltins x = some (.type T)) (ha : BAO X g (e :: es) t) (hn : x ≠ "__name__" := by decide) (hdb : (x == ("__debug__" : Str)) = false := by decide)
  (he : starEach (e :: es) X.env = (false, eval e X.env) :: starEach es X.env := by rfl) (hpl : (backTo pos (starEach es X.env)).any (·.1) = false := by rfl) : FO X g (.Call (.Name x p) (e :: es) [] pos) (dCF pf t) :=
 FO.w (a6l hc hg hm hv ha.pe hn hdb he hpl) (a5v hr)
end
theorem a5g {K : PySem.W.Frag} {N : Addr → Prop} {fa : Option Addr} {H : Hp} {d : D} {xs : List V} (r : P6 K N fa H [d] xs) : ∃ x, xs = [x] ∧ RepB K N fa H d x := by
 obtain ⟨x, ys, rfl, r1, r2⟩ := r
 simp only [P6] at r2; subst r2
 exact ⟨x, rfl, r1⟩
noncomputable def one {α : Type} (p : D → Option α) : List D → Option α
 | [d] => p d
 | _ => none
theorem a6s {α : Type} {p : D → Option α} {ds : List D} {a : α} (h : one p ds = some a) : ∃ d, ds = [d] ∧ p d = some a := by
 cases ds with
 | nil => cases h
 | cons d r =>
  cases r with
  | nil => exact ⟨d, rfl, h⟩
  | cons _ _ => cases h
noncomputable def j5 : D → Option D
 | .tup ds => some (.int (ds.length : Nat))
 | .lst ds => some (.int (ds.length : Nat))
 | .str x => some (.int (x.length : Nat))
 | _ => none
noncomputable def P2 : D → Option D
 | .int i => some (.int (if i < 0 then -i else i))
 | _ => none
noncomputable def U9 : D → Option D
 | .int i => some (.int i)
 | .bl b => some (.int (if b then 1 else 0))
 | _ => none
noncomputable def a0e : D → Option D
 | .int i => if i.natAbs.log2 < 1920 ∧ (toString i : Str).length ≤ sizeLine then some (.str (toString i)) else none
 | _ => none
noncomputable def L6 : D → Option D
 | .tup ds => some (.tup ds)
 | .lst ds => some (.tup ds)
 | _ => none
noncomputable def a1x : D → Option (List D)
 | .tup ds => some ds
 | .lst ds => some ds
 | _ => none
noncomputable def Q2 : List D → Option Bool
 | [] => some true
 | .bl b :: r => (Q2 r).map fun c => b && c
 | _ :: _ => none
noncomputable def M8 : D → Option D
 | .lst ds => (Q2 ds).map .bl
 | _ => none
noncomputable def N7 (d : D) : Bool := d.plain && d.py.showable && d.py.canLay0 && decide (d.py.depth ≤ 64) && decide (d.py.shown.length ≤ sizeLine)
noncomputable def Q8 (d : D) : Option D := if N7 d then some (.str d.py.shown) else none
section
variable {X : Cx} {K : PySem.W.Frag}
theorem J4 : CallR X (.builtin "len") (fun xs H Q => (∃ p ys, xs = [.ref p] ∧ (SqL X.K H p ys ∨ SqT X.K H p ys) ∧ Q (.int ys.length) H) ∨ (∃ z, xs = [.str z] ∧ z.length ≤ sizeLine ∧ Q (.int z.length) H)) := call_len_seq.or b2M
theorem rc1 {r : List V → Hp → VK → Prop} {p : D → Option D} (h : ∀ (g : Gh) (σ : L2.St) (H : Hp) (fa : Option Addr) (O : List Addr) (s : DS) (x : V) (d1 d : D) (Q : VK), GI K g σ H fa O s → RepB K (NN g.F fa O) fa H d1 x → p d1 = some d →
  (∀ v H', StE fa O H fa O H' → GI K g σ H' fa O s → Rep K (NN g.F fa O) fa H' d v → Q v H') → r [x] H Q) : RCD K r (one p) := by
 intro g σ H fa O s xs ds d Q I rs e k
 obtain ⟨d1, rfl, e1⟩ := a6s e
 obtain ⟨x, rfl, rx⟩ := a5g rs
 exact h g σ H fa O s x d1 d Q I rx e1 k
theorem K0 : RCD K (fun xs H Q => (∃ p ys, xs = [.ref p] ∧ (SqL K H p ys ∨ SqT K H p ys) ∧ Q (.int ys.length) H) ∨ (∃ z, xs = [.str z] ∧ z.length ≤ sizeLine ∧ Q (.int z.length) H)) (one j5) := rc1 fun g σ H fa O s x d1 d Q I r e k => by
 cases d1 with
 | tup es =>
  cases e
  simp only [RepB, Rep] at r
  obtain ⟨a, ys, rfl, q, w⟩ := r
  exact .inl ⟨a, ys, rfl, .inr q, k _ H StE.refl I (by rw [w.length]; simp only [Rep])⟩
 | lst es =>
  cases e
  obtain ⟨a, ys, rfl, _, q, w⟩ := r
  exact .inl ⟨a, ys, rfl, .inl (SqL.of q), k _ H StE.refl I (by rw [w.length]; simp only [Rep])⟩
 | str z =>
  cases e
  simp only [RepB, Rep] at r
  obtain ⟨rfl, l⟩ := r
  exact .inr ⟨z, rfl, l, k _ H StE.refl I (by simp only [Rep])⟩
 | _ => cases e
theorem a1t : RCD K (fun xs H Q => ∃ i, xs = [.int i] ∧ Q (.int (if i < 0 then -i else i)) H) (one P2) := rc1 fun g σ H fa O s x d1 d Q I r e k => by
 cases d1 with
 | int i =>
  cases e
  simp only [RepB, Rep] at r
  subst r
  exact ⟨i, rfl, k _ H StE.refl I (by simp only [Rep])⟩
 | _ => cases e
theorem a66 : RCD K (fun xs H Q => (∃ i, xs = [.int i] ∧ Q (.int i) H) ∨ ∃ k, xs = [.bl k] ∧ Q (.int (if k then 1 else 0)) H) (one U9) := rc1 fun g σ H fa O s x d1 d Q I r e k => by
 cases d1 with
 | int i =>
  cases e
  simp only [RepB, Rep] at r
  subst r
  exact .inl ⟨i, rfl, k _ H StE.refl I (by simp only [Rep])⟩
 | bl b =>
  cases e
  simp only [RepB, Rep] at r
  subst r
  exact .inr ⟨b, rfl, k _ H StE.refl I (by simp only [Rep])⟩
 | _ => cases e
theorem a7x : RCD K (fun xs H Q => ∃ i, xs = [.int i] ∧ i.natAbs.log2 < 1920 ∧ Q (.str (toString i)) H) (one a0e) := rc1 fun g σ H fa O s x d1 d Q I r e k => by
 cases d1 with
 | int i =>
  simp only [a0e] at e
  split at e
  ·rename_i h
   cases e
   simp only [RepB, Rep] at r
   subst r
   exact ⟨i, rfl, h.1, k _ H StE.refl I (by simp only [Rep]; exact ⟨trivial, h.2⟩)⟩
  ·cases e
 | _ => cases e
theorem a0B : RCD K (fun xs H Q => ∃ p ys, xs = [.ref p] ∧ ((SqL K H p ys ∧ ∀ l, H l = none → Q (.ref l) (upd H l (.tup ys))) ∨ (SqT K H p ys ∧ Q (.ref p) H))) (one L6) := rc1 fun g σ H fa O s x d1 d Q I r e k => by
 cases d1 with
 | tup es =>
  cases e
  simp only [RepB, Rep] at r
  obtain ⟨a, ys, rfl, q, w⟩ := r
  exact ⟨a, ys, rfl, .inr ⟨q, k _ H StE.refl I (by simp only [Rep]; exact ⟨a, ys, rfl, q, w⟩)⟩⟩
 | lst es =>
  cases e
  obtain ⟨a, ys, rfl, _, q, w⟩ := r
  refine ⟨a, ys, rfl, .inl ⟨SqL.of q, fun p hp => ?_⟩⟩
  have a2 : StE fa O H fa O (upd H p (.tup ys)) := E8 hp
  refine k _ _ a2 (I.new hp) ?_
  simp only [Rep]
  exact ⟨p, ys, rfl, SqT.of C9, Reps.stp I a2.stp w⟩
 | _ => cases e
theorem b3M : RCF K (fun xs H Q => ∃ p ys, xs = [.ref p] ∧ (SqL K H p ys ∨ SqT K H p ys) ∧ ∀ l, H l = none → Q (.ref l) (upd H l (.lst ys))) (one a1x) := by
 intro g σ H fa O s xs ds es Q I rs e k
 obtain ⟨d1, rfl, e1⟩ := a6s e
 obtain ⟨x, rfl, r⟩ := a5g rs
 cases d1 with
 | tup es' =>
  cases e1
  simp only [RepB, Rep] at r
  obtain ⟨a, ys, rfl, q, w⟩ := r
  exact ⟨a, ys, rfl, .inr q, fun p hp => k p ys _ (E8 hp) (T7 I hp w) hp⟩
 | lst es' =>
  cases e1
  obtain ⟨a, ys, rfl, _, q, w⟩ := r
  exact ⟨a, ys, rfl, .inl (SqL.of q), fun p hp => k p ys _ (E8 hp) (T7 I hp w) hp⟩
 | _ => cases e1
noncomputable def a6S (K : PySem.W.Frag) : List V → Hp → VK → Prop := fun xs H Q => ∃ N fa d x, xs = [x] ∧ RepB K N fa H d x ∧ N7 d = true ∧ Q (.str d.py.shown) H
theorem a1L (hu : X.A.units + 66 < cLine) (hg : X.A.guards = some []) : CallR X (.builtin "repr") (a6S X.K) := by
 intro pins s σ H xs us Q I r h
 obtain ⟨N, fa, d, x, rfl, rx, ok, q⟩ := h
 obtain ⟨u, rfl, ru⟩ := O5 r
 unfold N7 at ok
 simp only [Bool.and_eq_true, decide_eq_true_eq] at ok
 obtain ⟨⟨⟨⟨hp, hs⟩, hl⟩, hd⟩, hz⟩ := ok
 obtain ⟨as, ra⟩ := R7 I d x u rx.o ru hp
 have fin : ∀ (h' : Heap) (tk : Nat) (t : Tok), (∀ b o, s.heap.get? b = some o → h'.get? b = some o) → EP X pins σ Q (.str d.py.shown t) { s with heap := h', toks := tk } := fun h' tk t hk => ⟨.str d.py.shown, H, I.kept hk, ⟨t, rfl⟩, q⟩
 cases d with
 | non =>
  simp only [RepB, Rep] at rx; subst rx; cases ru
  exact P.repr_of_none (fin s.heap _ _ fun _ _ e => e)
 | bl b =>
  simp only [RepB, Rep] at rx; subst rx; cases ru
  have := fin s.heap (s.toks + 1) s.toks fun _ _ e => e
  refine P.repr_of_bool ?_
  cases b <;> simpa only [D.py, PyData.shown] using this
 | int i =>
  simp only [RepB, Rep] at rx; subst rx
  obtain ⟨t, rfl⟩ := ru
  have := fin s.heap (s.toks + 1) s.toks fun _ _ e => e
  simp only [D.py, PyData.showable, decide_eq_true_eq] at hs
  exact P.repr_of_int hs (by simpa only [D.py, PyData.shown] using this)
 | str z =>
  simp only [RepB, Rep] at rx; obtain ⟨rx, _⟩ := rx; subst rx
  obtain ⟨t, rfl⟩ := ru
  have := fin s.heap (s.toks + 1) s.toks fun _ _ e => e
  exact P.repr_of_str (by simpa only [D.py, PyData.shown] using this) (by simpa only [D.py, PyData.shown] using hz)
 | tup ds =>
  simp only [RepB, Rep] at rx
  obtain ⟨a, ys, rfl, _⟩ := rx
  cases ru
  exact repr_of_reads' ra hs (PyData.noDict_hsm (PyData.hasDict_of_canLay _ hl)) hg (by omega) (fun _ _ e => e) (fun h' t tk hk => fin h' tk t hk) hz
 | lst ds =>
  obtain ⟨a, ys, rfl, _⟩ := rx
  cases ru
  exact repr_of_reads' ra hs (PyData.noDict_hsm (PyData.hasDict_of_canLay _ hl)) hg (by omega) (fun _ _ e => e) (fun h' t tk hk => fin h' tk t hk) hz
 | feed => cases hp
 | scr _ => cases hp
theorem a0S : RCD K (a6S K) (one Q8) := rc1 fun g σ H fa O s x d1 d Q I r e k => by
 unfold Q8 at e
 by_cases h : N7 d1 = true
 ·rw [if_pos h] at e
  cases e
  refine ⟨_, _, d1, x, rfl, r, h, k _ H StE.refl I ?_⟩
  simp only [Rep]
  unfold N7 at h
  simp only [Bool.and_eq_true, decide_eq_true_eq] at h
  exact ⟨trivial, h.2⟩
 ·rw [if_neg h] at e; cases e
noncomputable def a65 (K : PySem.W.Frag) : List V → Hp → VK → Prop := fun xs H Q => ∃ (a : Addr) (bs : List Bool), xs = [.ref a] ∧ SqL K H a (bs.map V.bl) ∧ Q (.bl (bs.all fun b => b)) H
theorem a7k : ∀ {bs : List Bool} {us : List Value}, Vals (bs.map V.bl) us → us = bs.map Value.bool
 | [], _, .nil => rfl
 | b :: r, _, .cons q t => by
  cases (show _ = Value.bool b from q)
  rw [a7k t]
  rfl
theorem a37 (hc : X.calm = true) : CallR X (.builtin "all") (a65 X.K) := by
 intro pins s σ H xs us Q I r h
 obtain ⟨a, bs, rfl, hq, q⟩ := h
 obtain ⟨u, rfl, ru⟩ := O5 r
 cases ru
 obtain ⟨its, rv, p, _⟩ := I.list hq
 have eb := a7k rv
 subst eb
 refine call_all_walk (wpAny_pyIter_list p.isList ?_)
 have hl : s.heap.IsList a (bs.map Value.bool).toArray := p.isList
 have ha : a < s.heap.objs.size := by obtain ⟨o, e, _⟩ := hl; exact Heap.lt_size e
 refine ⟨s.heap.objs.size, _, _, _, _, _, fun i => (bs[i]?).getD true, rfl, Walks.list (A := X.A.in1) (I.ok.hd hc) s.heap.objs.size a (Nat.ne_of_lt ha) (bs.map Value.bool).toArray, ⟨⟨_, Heap.get?_push_size _ rfl, rfl, rfl⟩, ?_⟩, ?_, fun h' tk hk => ?_⟩
 ·obtain ⟨o, e, c⟩ := hl
  exact ⟨o, Heap.get?_push_of_some _ e, c⟩
 ·intro i v s' Q' E' hv hQ
  have hv' : (bs.map Value.bool)[i]? = some v := by simpa using hv
  rw [List.getElem?_map] at hv'
  cases e : bs[i]? with
  | none => rw [e] at hv'; cases hv'
  | some b =>
   rw [e] at hv'
   cases hv'
   have hQ' : Q' b s' := by simpa [e] using hQ
   exact wpAny_truthy_bool hQ'
 ·have e1 : ((List.range (bs.map Value.bool).toArray.size).all fun i => (bs[i]?).getD true) = bs.all fun b => b := by
   rw [List.size_toArray, List.length_map, Bool.eq_iff_iff, List.all_eq_true, List.all_eq_true]
   constructor
   ·intro h b hb
    obtain ⟨i, hi, e⟩ := List.mem_iff_getElem.mp hb
    have := h i (List.mem_range.mpr hi)
    rw [List.getElem?_eq_getElem hi, e] at this
    exact this
   ·intro h i hi
    rw [List.mem_range] at hi
    rw [List.getElem?_eq_getElem hi]
    exact h _ (List.getElem_mem hi)
  rw [e1]
  refine ⟨.bl _, H, I.kept fun b o e => hk b o ?_ (Heap.get?_push_of_some _ e), rfl, q⟩
  simp only [List.mem_singleton]
  exact Nat.ne_of_lt (Heap.lt_size e)
theorem a5d : ∀ {ds : List D} {c : Bool}, Q2 ds = some c → ∃ bs : List Bool, ds = bs.map D.bl ∧ c = bs.all fun b => b
 | [], c, h => by cases h; exact ⟨[], rfl, rfl⟩
 | .bl b :: r, c, h => by
  simp only [Q2] at h
  refine J3 h fun c' h1 h2 => ?_
  obtain ⟨bs, e1, e2⟩ := a5d h1
  exact ⟨b :: bs, by rw [e1]; rfl, by rw [← h2, e2]; rfl⟩
 | .non :: r, c, h => by cases h
 | .int _ :: r, c, h => by cases h
 | .str _ :: r, c, h => by cases h
 | .tup _ :: r, c, h => by cases h
 | .lst _ :: r, c, h => by cases h
 | .feed :: r, c, h => by cases h
 | .scr _ :: r, c, h => by cases h
theorem a63 {N : Addr → Prop} {fa : Option Addr} {H : Hp} : ∀ {bs : List Bool} {xs : List V}, Reps K N fa H (bs.map D.bl) xs → xs = bs.map V.bl
 | [], xs, h => by simpa only [List.map_nil, Reps] using h
 | b :: r, xs, h => by
  simp only [List.map_cons, Reps, Rep] at h
  obtain ⟨x, ys, rfl, rfl, h⟩ := h
  rw [a63 h]
  rfl
theorem a4f : RCD K (a65 K) (one M8) := rc1 fun g σ H fa O s x d1 d Q I r e k => by
 cases d1 with
 | lst es =>
  refine J3 (show (Q2 es).map D.bl = some d from e) fun c h1 h2 => ?_
  subst h2
  obtain ⟨bs, rfl, rfl⟩ := a5d h1
  obtain ⟨a, ys, rfl, _, q, w⟩ := r
  have := a63 w
  subst this
  exact ⟨a, bs, rfl, SqL.of q, k _ H StE.refl I (by simp only [Rep])⟩
 | _ => cases e
end
end DL

namespace DL
open PySem PySem.Spec L2

noncomputable def FS.get (key : Str) (f : FS) : Option D :=
 if f.kind = 0 then if key = "cells" then some (.lst (f.cells.map .int)) else if key = "at" then some (.int f.pos) else if key = "left" then some (.int f.left) else if key = "turn" then some (.int f.turn) else none else none
noncomputable def FS.put (key : Str) (n : Int) (f : FS) : Option FS :=
 if f.kind = 0 then if key = "at" then some { f with pos := n } else if key = "left" then some { f with left := n } else if key = "turn" then some { f with turn := n } else none else none
noncomputable def dFG (i : Nat) (key : Str) : DE := fun s => match s.sl[i]? with
 | some (.val .feed) => s.fs.bind fun f => (f.get key).map fun d => (d, s)
 | _ => none
noncomputable def dFP (i : Nat) (key : Str) (fe : DE) : DM := fun s => (fe s).bind fun x => match x.2.sl[i]?, x.1 with
 | some (.val .feed), .int n => x.2.fs.bind fun f => (f.put key n).map fun f' => (.next, { x.2 with fs := some f' })
 | _, _ => none
noncomputable def dFN (i : Nat) : DE := fun s => match s.sl[i]?, s.fs with
 | some (.val (.scr ns)), none => some (.feed, { s with fs := some ⟨ns, 0, 0, 0, 0⟩ })
 | _, _ => none
noncomputable abbrev G4 (c : Addr) (f : FS) : List (Key × V) := [(Sum.inr ("cells" : Str), V.ref c), (Sum.inr ("at" : Str), V.int f.pos), (Sum.inr ("left" : Str), V.int f.left), (Sum.inr ("turn" : Str), V.int f.turn)]
theorem a4d : ¬ (Sum.inr ("cells" : Str) : Key) = Sum.inr ("at" : Str) := by intro h; exact absurd (Sum.inr.inj h) (by decide +kernel)
theorem a3L : ¬ (Sum.inr ("cells" : Str) : Key) = Sum.inr ("left" : Str) := by intro h; exact absurd (Sum.inr.inj h) (by decide +kernel)
theorem a2s : ¬ (Sum.inr ("cells" : Str) : Key) = Sum.inr ("turn" : Str) := by intro h; exact absurd (Sum.inr.inj h) (by decide +kernel)
theorem a1U : ¬ (Sum.inr ("at" : Str) : Key) = Sum.inr ("left" : Str) := by intro h; exact absurd (Sum.inr.inj h) (by decide +kernel)
theorem a1u : ¬ (Sum.inr ("at" : Str) : Key) = Sum.inr ("turn" : Str) := by intro h; exact absurd (Sum.inr.inj h) (by decide +kernel)
theorem a1c : ¬ (Sum.inr ("left" : Str) : Key) = Sum.inr ("turn" : Str) := by intro h; exact absurd (Sum.inr.inj h) (by decide +kernel)
theorem a9i (c : Addr) (f : FS) : E2 (G4 c f) (Sum.inr ("cells" : Str)) = some (.ref c) := V4 rfl
theorem a6V (c : Addr) (f : FS) : E2 (G4 c f) (Sum.inr ("at" : Str)) = some (.int f.pos) := by rw [J2 a4d, V4 rfl]
theorem a6e (c : Addr) (f : FS) : E2 (G4 c f) (Sum.inr ("left" : Str)) = some (.int f.left) := by rw [J2 a3L, J2 a1U, V4 rfl]
theorem a7o (c : Addr) (f : FS) : E2 (G4 c f) (Sum.inr ("turn" : Str)) = some (.int f.turn) := by rw [J2 a2s, J2 a1u, J2 a1c, V4 rfl]
theorem a2G {kvs : List (Key × V)} {k : Key} {v x : V} (h : E2 kvs k = some x) : A9 kvs k v = kvs.map (fun kv => if kv.1 = k then (kv.1, v) else kv) := by
 unfold A9
 rw [if_pos (by rw [a1w, h]; rfl)]
theorem a8r (c : Addr) (f : FS) (n : Int) : A9 (G4 c f) (Sum.inr ("at" : Str)) (.int n) = G4 c { f with pos := n } := by
 rw [a2G (a6V c f)]
 simp only [List.map_cons, List.map_nil, if_neg a4d, if_neg (Ne.symm a1U), if_neg (Ne.symm a1u), if_true]
theorem b2P (c : Addr) (f : FS) (n : Int) : A9 (G4 c f) (Sum.inr ("left" : Str)) (.int n) = G4 c { f with left := n } := by
 rw [a2G (a6e c f)]
 simp only [List.map_cons, List.map_nil, if_neg a3L, if_neg a1U, if_neg (Ne.symm a1c), if_true]
theorem b11 (c : Addr) (f : FS) (n : Int) : A9 (G4 c f) (Sum.inr ("turn" : Str)) (.int n) = G4 c { f with turn := n } := by
 rw [a2G (a7o c f)]
 simp only [List.map_cons, List.map_nil, if_neg a2s, if_neg a1u, if_neg a1c, if_true]
theorem FS.get_val {key : Str} {f : FS} {d : D} (h : f.get key = some d) (c : Addr) : ∃ v, E2 (G4 c f) (Sum.inr key) = some v ∧ ((v = .ref c ∧ d = .lst (f.cells.map .int)) ∨ ∃ i, v = .int i ∧ d = .int i) ∧ f.kind = 0 := by
 unfold FS.get at h
 split at h
 case isFalse => cases h
 rename_i hk
 split at h
 ·rename_i e; subst e; cases h; exact ⟨_, a9i c f, .inl ⟨rfl, rfl⟩, hk⟩
 split at h
 ·rename_i e; subst e; cases h; exact ⟨_, a6V c f, .inr ⟨_, rfl, rfl⟩, hk⟩
 split at h
 ·rename_i e; subst e; cases h; exact ⟨_, a6e c f, .inr ⟨_, rfl, rfl⟩, hk⟩
 split at h
 ·rename_i e; subst e; cases h; exact ⟨_, a7o c f, .inr ⟨_, rfl, rfl⟩, hk⟩
 ·cases h
theorem FS.put_val {key : Str} {f f' : FS} {n : Int} (h : f.put key n = some f') (c : Addr) : A9 (G4 c f) (Sum.inr key) (.int n) = G4 c f' ∧ f'.cells = f.cells ∧ f.kind = 0 ∧ f'.kind = 0 := by
 unfold FS.put at h
 split at h
 case isFalse => cases h
 rename_i hk
 split at h
 ·rename_i e; subst e; cases h; exact ⟨a8r c f n, rfl, hk, hk⟩
 split at h
 ·rename_i e; subst e; cases h; exact ⟨b2P c f n, rfl, hk, hk⟩
 split at h
 ·rename_i e; subst e; cases h; exact ⟨b11 c f n, rfl, hk, hk⟩
 ·cases h
section
variable {X : Cx} {g : Gh} {i : Nat} {x key : Str} {p1 p2 pos pos' : Pos} {j : Nat}
theorem U0 (hu : X.A.units + 1 < cLine) (hv : PE X (.Name x p1) (T6 i)) : EO X g (.Subscript (.Name x p1) (.Constant (.str key) j p2) pos) (dFG i key) :=
 EO.w (a77 hu hv U8 (fun _ _ => rfl)) fun σ H Q hQ => by
  refine hQ.elim fun fa O s d s' I e k => ?_
  unfold dFG at e
  cases q : s.sl[i]? with
  | none => rw [q] at e; cases e
  | some z =>
   rw [q] at e
   cases z with
   | no => cases e
   | own _ => cases e
   | val dz =>
    cases dz with
    | feed =>
     refine R8 e fun f h1 h2 => ?_
     refine J3 h2 fun d' h3 h4 => ?_
     cases h4
     obtain ⟨u, e1, r⟩ := SlR.val I.sl q
     simp only [Rep] at r
     obtain ⟨a, ha, rfl⟩ := r
     have fd := I.fd
     rw [h1, ha] at fd
     obtain ⟨_, c, hc, nc, lc⟩ := fd
     obtain ⟨v, hval, hd, hk⟩ := FS.get_val h3 c
     rw [a29 hk] at hc
     refine ⟨_, e1, a, v, rfl, ?_, k v H fa O StE.refl I ?_⟩
     ·have := DGet.k (k := Sum.inr key) hc
      rw [hval] at this
      exact this
     ·rcases hd with ⟨rfl, rfl⟩ | ⟨n, rfl, rfl⟩
      ·simp only [Rep]
       exact ⟨c, _, rfl, by rw [ha]; exact nc, lc, Reps.ints⟩
      ·simp only [Rep]
    | _ => cases e
theorem a1D {e : Expr} {fe : DE} (hu : X.A.units + 1 < cLine) (hv : PE X (.Name x p1) (T6 i)) (he : EO X g e fe) (hs : swapsWith e (some (.Subscript (.Name x p1) (.Constant (.str key) j p2) pos')) pos.line X.env = pure false := by rfl) :
  SO X g (.Assign [.Subscript (.Name x p1) (.Constant (.str key) j p2) pos'] e pos) (dFP i key fe) :=
 SO.w (b2g hu hv U8 he.pe hs) fun E σ H hQ => by
  refine hQ.elim fun fa O s fl s' I q k => ?_
  refine v7 q fun d s1 h1 h2 => ?_
  simp only [] at h2
  cases q1 : s1.sl[i]? with
  | none => rw [q1] at h2; cases h2
  | some z =>
   rw [q1] at h2
   cases z with
   | no => cases h2
   | own _ => cases h2
   | val dz =>
    cases dz with
    | feed =>
     cases d with
     | int n =>
      simp only [] at h2
      refine R8 h2 fun f h3 h4 => ?_
      refine J3 h4 fun f' h5 h6 => ?_
      cases h6
      refine ⟨fa, O, s, .int n, s1, I, h1, fun v H1 f1 O1 a1 I1 r => ?_⟩
      simp only [Rep] at r
      subst r
      obtain ⟨u, e1, ru⟩ := SlR.val I1.sl q1
      simp only [Rep] at ru
      obtain ⟨a, ha, rfl⟩ := ru
      have fd := I1.fd
      rw [h3, ha] at fd
      obtain ⟨lc63, c, hc, nc, lc⟩ := fd
      obtain ⟨hput, hcell, hk, hk'⟩ := FS.put_val h5 c
      rw [a29 hk] at hc
      have hp := DPut.k (k := Sum.inr key) (v := .int n) hc (by show 4 < sizeLine; decide)
      rw [hput] at hp
      refine ⟨_, e1, a, _, rfl, hp, ?_⟩
      have a2 : StE f1 O1 H1 f1 O1 (upd H1 a (.dK (G4 c f'))) := ⟨fun _ h => h, .inl rfl, fun b w e nb => by rw [u5 (fun z => nb (by rw [z]; exact ha))]; exact e, fun b z => by
       by_cases hb : b = a
       ·subst hb; rw [C9] at z; cases z
       ·rw [u5 hb] at z; exact z⟩
      have cr := I1.car a2.stp
      refine k σ _ f1 O1 (a1.stp.trans a2.stp) ⟨I1.nd, SlR.go cr (fun b xs hb e => a2.same b _ e fun z => I1.nf b z hb) I1.sl, I1.fr, ?_, I1.tr, I1.ff, ?_, I1.nf⟩
      ·refine ⟨fun b hb => (by cases hb), I1.st.fe, fun b w e _ nb => ?_, fun b z => I1.st.mon b (a2.mon b z)⟩
       refine a2.same b w (I1.st.same b w e (by simp) nb) fun z => ?_
       rcases I1.st.fe with y | ⟨y, y2⟩
       ·rw [y] at z; exact nb z
       ·rw [y2 b z] at e; cases e
      ·rw [ha]
       refine ⟨by rw [hcell]; exact lc63, c, by rw [a29 hk', C9], nc, ?_⟩
       rw [u5 (fun z => by rw [z, hc] at lc; cases lc), hcell]
       exact lc
     | _ => cases h2
    | _ => cases h2
theorem a8m (xs : List V) (h : xs.length ≤ 63) : L7 xs none (some 63) = xs := by
 unfold L7
 have e1 : HT.sIx xs.length 0 none = 0 := rfl
 have e2 : HT.sIx xs.length xs.length (some 63) = xs.length := by
  have := HT.sIx_nat xs.length xs.length 63
  rw [show ((63 : Nat) : Int) = 63 from rfl] at this
  rw [this]; omega
 rw [e1, e2, List.drop_zero, Nat.sub_zero, List.take_length]
theorem a8d (q : Addr) : Y2 [] [(Sum.inr ("cells" : Str), V.ref q), (Sum.inr ("at" : Str), V.int 0), (Sum.inr ("left" : Str), V.int 0), (Sum.inr ("turn" : Str), V.int 0)] = G4 q ⟨[], 0, 0, 0, 0⟩ := by
 show A9 (A9 (A9 (A9 ([] : List (Key × V)) (Sum.inr ("cells" : Str)) (V.ref q)) (Sum.inr ("at" : Str)) (V.int 0)) (Sum.inr ("left" : Str)) (V.int 0)) (Sum.inr ("turn" : Str)) (V.int 0) = _
 have e1 : A9 ([] : List (Key × V)) (Sum.inr ("cells" : Str)) (V.ref q) = [(Sum.inr ("cells" : Str), V.ref q)] := a1H _ a1b
 have e2 : A9 ([(Sum.inr ("cells" : Str), V.ref q)] : List (Key × V)) (Sum.inr ("at" : Str)) (V.int 0) = [(Sum.inr ("cells" : Str), V.ref q), (Sum.inr ("at" : Str), V.int 0)] := a1H _ (by rw [J2 a4d, a1b])
 have e3 : A9 ([(Sum.inr ("cells" : Str), V.ref q), (Sum.inr ("at" : Str), V.int 0)] : List (Key × V)) (Sum.inr ("left" : Str)) (V.int 0) = [(Sum.inr ("cells" : Str), V.ref q), (Sum.inr ("at" : Str), V.int 0), (Sum.inr ("left" : Str), V.int 0)] := a1H _ (by rw [J2 a3L, J2 a1U, a1b])
 rw [e1, e2, e3]
 exact a1H _ (by rw [J2 a2s, J2 a1u, J2 a1c, a1b])
theorem b3X {k1 k2 k3 k4 j63 j0 j1 j2 : Nat} {q1 q2 q3 q4 q5 q6 q7 q8 q9 q10 : Pos} (hv : PE X (.Name x p1) (T6 i)) :
  EO X g (.Dict [some (.Constant (.str ("cells" : Str)) k1 q1), some (.Constant (.str ("at" : Str)) k2 q2), some (.Constant (.str ("left" : Str)) k3 q3), some (.Constant (.str ("turn" : Str)) k4 q4)]
   [.Subscript (.Name x p1) (.Slice none (some (.Constant (.int 63) j63 q5)) none q6) q7, .Constant (.int 0) j0 q8, .Constant (.int 0) j1 q9, .Constant (.int 0) j2 q10] pos) (dFN i) :=
 EO.w (b2O (a1A U8 (a6G a40 hv a60 (a5f a0q)) (a1A U8 a0q (a1A U8 a0q (a1A U8 a0q b02)))) rfl rfl (by simp) (by show 4 ≤ 15; decide)) fun σ H Q hQ => by
  refine hQ.elim fun fa O s d s' I e k => ?_
  unfold dFN at e
  cases q : s.sl[i]? with
  | none => rw [q] at e; cases e
  | some z =>
   rw [q] at e
   cases z with
   | no => cases e
   | own _ => cases e
   | val dz =>
    cases dz with
    | scr ns =>
     cases hf : s.fs with
     | some f => rw [hf] at e; cases e
     | none =>
      rw [hf] at e
      cases e
      obtain ⟨u, e1, r⟩ := SlR.val I.sl q
      simp only [Rep] at r
      obtain ⟨l63, a, rfl, sq⟩ := r
      have fd := I.fd
      rw [hf] at fd
      have fan : fa = none := by cases fa with | none => rfl | some _ => exact fd.elim
      subst fan
      intro p hp
      have sq1 : SqF X.K (upd H p (.dK [])) a (ns.map V.int) := by
       rcases sq with ⟨o, sq⟩ | sq
       ·exact .inl ⟨o, by rw [u5 (L0 sq hp)]; exact sq⟩
       ·exact .inr sq
      refine ⟨_, e1, 63, rfl, a, _, rfl, sq1.sq, fun c hc => ?_⟩
      rw [a8m _ (by rw [List.length_map]; exact l63)]
      have npc : c ≠ p := fun z => by rw [z, C9] at hc; cases hc
      have hcH : H c = none := by rw [u5 npc] at hc; exact hc
      refine ⟨by rw [u5 (Ne.symm npc), C9], [(Sum.inr ("cells" : Str), V.ref c), (Sum.inr ("at" : Str), V.int 0), (Sum.inr ("left" : Str), V.int 0), (Sum.inr ("turn" : Str), V.int 0)], rfl, by show 4 ≤ 15; decide, ?_⟩
      rw [a8d]
      have fresh : ∀ b u, H b = some u → b ≠ p ∧ b ≠ c := fun b u e => ⟨L0 e hp, L0 e hcH⟩
      have a2 : StE none O H (some p) O (upd (upd (upd H p (.dK [])) c (.lst (ns.map V.int))) p (.dK (G4 c ⟨[], 0, 0, 0, 0⟩))) := by
       refine ⟨fun _ h => h, .inr ⟨rfl, fun b z => by cases z; exact hp⟩, fun b u e _ => ?_, fun b z => ?_⟩
       ·obtain ⟨n1, n2⟩ := fresh b u e
        rw [u5 n1, u5 n2, u5 n1]; exact e
       ·by_cases h1 : b = p
        ·subst h1; exact hp
        ·by_cases h2 : b = c
         ·subst h2; exact hcH
         ·rw [u5 h1, u5 h2, u5 h1] at z; exact z
      have cr := I.car a2.stp
      refine k _ _ (some p) O a2 ⟨I.nd, SlR.go cr (fun b xs hb e => a2.same b _ e (by simp)) I.sl, I.fr, I.st.trans ⟨fun b hb => (by cases hb), a2.fe, fun b u e _ n => a2.same b u e n, a2.mon⟩, I.tr, I.ff, ?_, I.nf_step a2.fe⟩ (by simp only [Rep]; exact ⟨p, rfl, rfl⟩)
      refine ⟨l63, c, C9, ?_, ?_⟩
      ·rintro (z | z | z)
       ·exact I.trF z hcH
       ·obtain ⟨xs, e⟩ := I.owned z
        rw [hcH] at e; cases e
       ·exact npc (Option.some.inj z).symm
      ·rw [u5 npc, C9]
    | _ => cases e
end
end DL
namespace DL
open PySem PySem.Spec L2
section
variable {X : Cx} {g : Gh} {i : Nat} {x : Str} {n : Int} {p1 p2 pos pos' : Pos} {j : Nat}
end
end DL

namespace DL
open PySem PySem.Spec L2

structure Cal (P : Program) (w : World) (K : PySem.W.Frag) (mg : Str → Option Value) (base : Heap) (k : Nat) (x : Str) (ps : List Str) (m : DFn) : Prop where
 ex : ∃ (f : Addr) (fd : FuncData), FnD P w K mg base k f fd ps m ∧ mg x = some (.ref f) ∧ PySem.W.keepIn K (.ref f) = true ∧ Binds K fd ps []
structure Blt (mg : Str → Option Value) : Prop where
 len : mg "len" = none
 range : mg "range" = none
 abs : mg "abs" = none
 tuple : mg "tuple" = none
 list : mg "list" = none
 int : mg "int" = none
 bool : mg "bool" = none
 str : mg "str" = none
 repr : mg "repr" = none
 all : mg "all" = none
 isinstance : mg "isinstance" = none
 zip : mg "zip" = none
 enumerate : mg "enumerate" = none
 min : mg "min" = none
 max : mg "max" = none
 reversed : mg "reversed" = none
 any : mg "any" = none
 sum : mg "sum" = none
 sorted : mg "sorted" = none
section
variable {X : Cx} {g : Gh} {k : Nat} {ps : List Str} {m : DFn} {x : Str} {p pos : Pos} {e : Expr} {es : List Expr} {t : DA}
theorem l7 (C : Cal X.prog X.w X.K X.mg X.base k x ps m) (k' : Nat) (hr : Room k' X.A) (hk : k ≤ k') (hg : Gl X x)
  (ha : AO X g (e :: es) t) (hn : ∀ s ds s', t s = some (ds, s') → ds.length = ps.length) (hdb : (x == ("__debug__" : Str)) = false := by decide) (he : starEach (e :: es) X.env = (false, eval e X.env) :: starEach es X.env := by rfl) (hpl : (backTo pos (starEach es X.env)).any (·.1) = false := by rfl) :
  EO X g (.Call (.Name x p) (e :: es) [] pos) (a9 m t) := by
 obtain ⟨f, fd, F, hm, hkp, hb⟩ := C.ex
 exact b1J F (hr.mono hk) hg hm hkp hb ha hn hdb he hpl
end
theorem a9H {P : Program} {w : World} {K : PySem.W.Frag} {mg : Str → Option Value} {base : Heap} {x : Str} {st : Stmt} {f : Addr} {fd : FuncData} {N ps : List Str} {k : Nat} {b : DM} (F : Fun K x x st f fd) (hm : mg x = some (.ref f)) (hb : Binds K fd ps []) (S : FnScope N ps (t9 st))
  (hbody : ∀ (cdv : Value) (A : Around) (outer : List Env) (s : Shared) (H : Hp) (E : XK) (g : Gh), Room k (A.deeper (PyProof.Rows.envOfC x (t9 st) s.heap.objs.size f cdv)) → SSO (P5 CX0 P w K mg base N x (t9 st) f cdv A outer s H E).nox g (K8 st) b) :
  Cal P w K mg base (k + 1) x ps (mFn N.length b) := ⟨f, fd, a6F F S hbody, hm, F.kp, hb⟩
theorem u64 {A : Around} {k : Nat} (hr : Room k A) : A.units + 64 < cLine := by have := hr.un; omega
theorem u66 {A : Around} {k : Nat} (hr : Room k A) : A.units + 66 < cLine := by have := hr.un; omega
theorem J9 : bootBuiltins ("len" : Str) = some (.builtin "len") := by decide +kernel
theorem a1V : bootBuiltins ("abs" : Str) = some (.builtin "abs") := by decide +kernel
theorem a07 : bootBuiltins ("repr" : Str) = some (.builtin "repr") := by decide +kernel
theorem a2H : bootBuiltins ("all" : Str) = some (.builtin "all") := by decide +kernel
theorem b2i : bootBuiltins ("isinstance" : Str) = some (.builtin "isinstance") := by decide +kernel
theorem K5 : bootBuiltins ("tuple" : Str) = some (.type "tuple") := by decide +kernel
theorem b0Q : bootBuiltins ("list" : Str) = some (.type "list") := by decide +kernel
theorem a0f : bootBuiltins ("int" : Str) = some (.type "int") := by decide +kernel
theorem a0G : bootBuiltins ("bool" : Str) = some (.type "bool") := by decide +kernel
theorem a4F : bootBuiltins ("str" : Str) = some (.type "str") := by decide +kernel
theorem a0Y {κ : Type} [BEq κ] [LawfulBEq κ] {β : Type} : ∀ {l : List (κ × β)} {x : κ} {v : β}, l.lookup x = some v → (x, v) ∈ l
 | [], _, _, h => by simp at h
 | (a, b) :: r, x, v, h => by
  rw [List.lookup_cons] at h
  cases e : x == a with
  | true =>
   rw [e] at h
   cases h
   rw [eq_of_beq e]
   exact List.mem_cons_self ..
  | false =>
   rw [e] at h
   exact List.mem_cons_of_mem _ (a0Y h)
noncomputable def hasAll (names : List (Str × NameKind)) (cl : List (Str × Addr)) : Bool := names.all fun p => !(p.2 == .cell || p.2 == .free) || (cl.lookup p.1).isSome
theorem a5F {names : List (Str × NameKind)} {cl : List (Str × Addr)} (h : hasAll names cl = true) : ∀ x, (names.lookup x = some .cell ∨ names.lookup x = some .free) → ∃ c, cl.lookup x = some c := fun x hx => by
 have key : ∀ kd, names.lookup x = some kd → (kd == NameKind.cell || kd == NameKind.free) = true → ∃ c, cl.lookup x = some c := fun kd e q => by
  have m := a0Y e
  have z := List.all_eq_true.mp h _ m
  simp only [q, Bool.not_true, Bool.false_or] at z
  exact Option.isSome_iff_exists.mp z
 rcases hx with e | e
 ·exact key _ e rfl
 ·exact key _ e rfl
inductive CapL (X : Cx) (scope : Scope) : List Nat → List Str → Prop where
 | nil : CapL X scope [] []
 | cons {i : Nat} {y : Str} {r : List Nat} {ys : List Str} (h1 : X.N[i]? = some y) (h2 : X.env.scope.names.lookup y = some .cell ∨ X.env.scope.names.lookup y = some .free)
   (h3 : (relabel scope X.env).names.lookup y = some .cell ∨ (relabel scope X.env).names.lookup y = some .free) (t : CapL X scope r ys) : CapL X scope (i :: r) (y :: ys)
theorem CapL.len {X : Cx} {scope : Scope} : ∀ {idx : List Nat} {ys : List Str}, CapL X scope idx ys → ys.length = idx.length
:= by
 intro idx ys h
 induction h with
 | nil => rfl
 | cons _ _ _ t ih => rw [List.length_cons, List.length_cons, ih]
theorem CapL.at {X : Cx} {scope : Scope} : ∀ {idx : List Nat} {ys : List Str}, CapL X scope idx ys → ∀ (j i : Nat) (y : Str), idx[j]? = some i → ys[j]? = some y →
  X.N[i]? = some y ∧ (X.env.scope.names.lookup y = some .cell ∨ X.env.scope.names.lookup y = some .free) ∧ ((relabel scope X.env).names.lookup y = some .cell ∨ (relabel scope X.env).names.lookup y = some .free)
:= by
 intro idx ys h
 induction h with
 | nil => intro j i y h; cases h
 | cons h1 h2 h3 t ih =>
  intro j i y e1 e2
  cases j with
  | zero =>
   cases e1
   cases e2
   exact ⟨h1, h2, h3⟩
  | succ j => exact ih j i y e1 e2
inductive SubL (cells : List (Str × Addr)) : List (Str × Addr) → Prop where
 | nil : SubL cells []
 | cons {x : Str} {c : Addr} {r : List (Str × Addr)} (h : cells.lookup x = some c) (t : SubL cells r) : SubL cells ((x, c) :: r)
theorem SubL.mem {cells : List (Str × Addr)} : ∀ {cl : List (Str × Addr)}, SubL cells cl → ∀ x c, (x, c) ∈ cl → cells.lookup x = some c
:= by
 intro cl h
 induction h with
 | nil => intro x c h; cases h
 | cons e t ih =>
  intro x c h
  rcases List.mem_cons.mp h with z | z
  ·cases z; exact e
  ·exact ih x c z
theorem V6 {X : Cx} {scope : Scope} {cl : List (Str × Addr)} {x : Str} {caps : List Str} {idx : List Nat} (clos : closureFor scope X.env = pure cl) (sub : SubL X.env.cells cl) (cell : ∀ y ∈ scope.names, y.2 ≠ .cell) (kind : scope.kind = .function)
  (names : ∀ y ∈ scope.names, y.2 = .local → scope.names.lookup y.1 = some .local) (has : hasAll (relabel scope X.env).names cl = true) (cap : CapL X scope idx caps) : CompOk X scope cl (x :: caps) 1 idx :=
 ⟨clos, fun y c e => sub.mem y c (a0Y e), cell, kind, names, a5F has, by rw [List.length_cons, cap.len, Nat.add_comm], fun j i y e1 e2 => cap.at j i y e1 (by rw [Nat.add_comm] at e2; simpa using e2)⟩
noncomputable def l5 (i j : Nat) (f : DA) : DM := fun s => (f s).bind fun x => match x.1 with
 | [a, b] => some (.next, { x.2 with sl := (x.2.sl.set i (.val a)).set j (.val b) })
 | _ => none
section
variable {X : Cx} {g : Gh}
theorem Y7 {i j : Nat} {x y : Str} {a b : Expr} {f : DA} {px py pt pos : Pos} {kt k2 pt2} (hc : X.calm = true) (hN : X.N.Nodup) (hi : X.N[i]? = some x) (hj : X.N[j]? = some y) (hij : i ≠ j)
  (hx : X.env.scope.names.lookup x = some .local) (hy : X.env.scope.names.lookup y = some .local) (ha : AO X g [a, b] f)
  (hw : swappedStores [.Tuple [.Name x px, .Name y py] kt pt] (.Tuple [a, b] k2 pt2) X.env = pure (some [x, y]))
  (hs : swapsWithSole [.Tuple [.Name x px, .Name y py] kt pt] (.Tuple [a, b] k2 pt2) pos.line X.env = pure false := by rfl) :
  SO X g (.Assign [.Tuple [.Name x px, .Name y py] kt pt] (.Tuple [a, b] k2 pt2) pos) (l5 i j f) := SO.w (b3T hc hN hi hj hij hx hy ha.pe hw hs) fun E σ H hQ => by
 refine hQ.elim fun fa O s fl s' I q k => ?_
 refine v7 q fun ds s1 h1 h2 => ?_
 refine ⟨fa, O, s, ds, s1, I, h1, fun vs H1 f1 O1 a1 I1 r => ?_⟩
 match ds, h2, r with
 | [d1, d2], h2, r =>
  simp only [Option.some.injEq, Prod.mk.injEq] at h2
  obtain ⟨e1, e2⟩ := h2
  subst e1; subst e2
  simp only [Reps] at r
  obtain ⟨v, ys, rfl, rv, u, zs, rfl, ru, rfl⟩ := r
  refine ⟨v, u, rfl, ?_⟩
  obtain ⟨P, sub, I2⟩ := I1.put i rv
  have a2 : StE f1 O1 H1 f1 P H1 := a0X sub
  obtain ⟨P3, sub3, I3⟩ := I2.put j (Rep.stp I1 a2.stp ru)
  exact k _ H1 f1 P3 (a1.stp.trans (a2.stp.trans (a0X sub3).stp)) I3
end
theorem walkD {l : PySem.W.OpenLaw} {q : Program} {loose : List Str} {XP : (Str → Option Value) → Heap → Prop} {YP : World → Heap → Prop} {d : DefRec} {K : Params → PySem.W.Frag} {m : DFn} {k : Nat} (hn : l.most = some 63) (hdf : d.params.defaults = []) (hr : Room k callerA)
  (hY : ∀ (w : World) (h : Heap), YP w h → (K w.params).In h)
  (F : ∀ (w : World) (mg : Str → Option Value) (fa : Addr) (h : Heap), (K w.params).In h → h.Ns mainGlobals mg → mg d.name = some (.ref fa) →
   ∃ fd : FuncData, (∀ (s : Shared) (u : Value), BindsTo s fd ⟨[u], []⟩ [("_law_script", u)]) ∧ ∀ base : Heap, (K w.params).In base → base.Ns mainGlobals mg → FnOk l.prog w (K w.params) mg base CX0 k fa fd ["_law_script"] (spD (K w.params) 1 m))
  (math : ∀ ns : List Int, ns.length ≤ 63 → ∃ fs', m [.scr ns] none = some (.bl true, fs')) :
  PySem.W.WalkO q loose XP YP l.row.toRowW d [] (fun f vs => PySem.call f vs) :=
 L2.walk_of (n := 63) (k := k) (x := "_law_script") (CX := fun _ => CX0) (sp := fun w => spD (K w.params) 1 m) hn (by decide) hdf hr hY F (fun w H a ns hl hO hS => by
  obtain ⟨fs', e⟩ := math ns hl
  refine ⟨fun _ => False, none, [.scr ns], none, .bl true, fs', fun b z => z.elim, fun a z => (by cases z), ?_, trivial, e, rfl, fun v H' fa' _ _ r => by simpa only [Rep] using r⟩
  simp only [Reps, Rep]
  refine ⟨_, _, rfl, ⟨hl, a, rfl, ?_⟩, rfl⟩
  rcases hS with (z | ⟨o, z⟩) | z
  ·rcases hO a with y | ⟨o, xs, y⟩ <;> · rw [z] at y; cases y
  ·exact .inl ⟨o, z⟩
  ·exact .inr z) fun _ _ _ _ _ z => z
end DL

namespace DL
open PySem PySem.Spec L2
noncomputable def tyN : D → Option String
 | .non => some "NoneType"
 | .bl _ => some "bool"
 | .int _ => some "int"
 | .str _ => some "str"
 | .tup _ => some "tuple"
 | .lst _ => some "list"
 | _ => none
noncomputable def v6 (T C : String) : Bool := T == C || (T == "bool" && C == "int")
noncomputable def A6 (C : String) (d : D) : Option D := (tyN d).map fun T => .bl (v6 T C)
noncomputable def Kit (K : PySem.W.Frag) (C : String) : Prop := ∀ T, T = "NoneType" ∨ T = "bool" ∨ T = "int" ∨ T = "str" ∨ T = "tuple" ∨ T = "list" → PySem.W.kitOne K (.type T) (.type C) = some (v6 T C)
theorem a2d {K : PySem.W.Frag} : Kit K "int" := by rintro T (rfl | rfl | rfl | rfl | rfl | rfl) <;> rfl
theorem a0b {K : PySem.W.Frag} : Kit K "bool" := by rintro T (rfl | rfl | rfl | rfl | rfl | rfl) <;> rfl
theorem b0U {K : PySem.W.Frag} : Kit K "str" := by rintro T (rfl | rfl | rfl | rfl | rfl | rfl) <;> rfl
theorem S9 {K : PySem.W.Frag} : Kit K "tuple" := by rintro T (rfl | rfl | rfl | rfl | rfl | rfl) <;> rfl
noncomputable def a8j (K : PySem.W.Frag) (C : String) : List V → Hp → VK → Prop := fun xs H Q => ∃ N fa d T x, xs = [x, .ty C] ∧ RepB K N fa H d x ∧ tyN d = some T ∧ Q (.bl (v6 T C)) H
theorem b3u {X : Cx} {C : String} (hk : Kit X.K C) : CallR X (.builtin "isinstance") (a8j X.K C) := by
 intro pins s σ H xs us Q I r h
 obtain ⟨N, fa, d, T, x, rfl, rx, hT, q⟩ := h
 obtain ⟨u, c, rfl, ru, rc⟩ := a9r r
 cases (show c = Value.type C from rc)
 have fin : ∀ tk, EP X pins σ Q (.bool (v6 T C)) { s with toks := tk } := fun tk => ⟨.bl (v6 T C), H, I.tok tk, rfl, q⟩
 cases d with
 | non =>
  cases hT
  simp only [RepB, Rep] at rx; subst rx; cases ru
  exact PySem.W.kia_one PySem.W.kitx_none I.kIn True.intro (hk _ (by simp)) (fun z => nomatch z) fin
 | bl b =>
  cases hT
  simp only [RepB, Rep] at rx; subst rx; cases ru
  exact PySem.W.kia_one PySem.W.kitx_bool I.kIn True.intro (hk _ (by simp)) (fun z => nomatch z) fin
 | int i =>
  cases hT
  simp only [RepB, Rep] at rx; subst rx; obtain ⟨t, rfl⟩ := ru
  exact PySem.W.kia_one PySem.W.kitx_int I.kIn True.intro (hk _ (by simp)) (fun z => nomatch z) fin
 | str i =>
  cases hT
  simp only [RepB, Rep] at rx; obtain ⟨rx, _⟩ := rx; subst rx; obtain ⟨t, rfl⟩ := ru
  exact PySem.W.kia_one PySem.W.kitx_str I.kIn True.intro (hk _ (by simp)) (fun z => nomatch z) fin
 | tup ds =>
  cases hT
  simp only [RepB, Rep] at rx
  obtain ⟨a, ys, rfl, sq, _⟩ := rx
  cases ru
  obtain ⟨its, _, ⟨o, h1, h2, _⟩, _⟩ := I.tuple sq
  exact PySem.W.kia_one PySem.W.kitx_tuple I.kIn ⟨o, h1, h2⟩ (hk _ (by simp)) (fun z => nomatch z) fin
 | lst ds =>
  cases hT
  obtain ⟨a, ys, rfl, _, sq, _⟩ := rx
  cases ru
  obtain ⟨its, _, ⟨o, n, h1, h2, _⟩, _⟩ := I.list (SqL.of sq)
  exact PySem.W.kia_one PySem.W.kitx_list I.kIn ⟨o, h1, h2⟩ (hk _ (by simp)) (fun z => nomatch z) fin
 | feed => cases hT
 | scr _ => cases hT
section
variable {X : Cx} {g : Gh} {a b c : Expr} {fa fb fc : DE} {pos : Pos}
theorem F5 {cn : Str} {C : String} {p p2 : Pos} (hk : Kit X.K C) (hg : Gl X "isinstance") (hm : X.mg "isinstance" = none) (hgc : Gl X cn) (hmc : X.mg cn = none) (hvc : bootBuiltins cn = some (.type C)) (ha : BO X g a fa)
  (hn : cn ≠ "__name__" := by decide) (hd : (cn == ("__debug__" : Str)) = false := by decide) (hs1 : starEach [.Name cn p2] X.env = (false, eval (.Name cn p2) X.env) :: starEach [] X.env := by rfl)
  (he : starEach [a, .Name cn p2] X.env = (false, eval a X.env) :: starEach [.Name cn p2] X.env := by rfl) (hpl : (backTo pos (starEach [.Name cn p2] X.env)).any (·.1) = false := by rfl) :
  EO X g (.Call (.Name "isinstance" p) [a, .Name cn p2] [] pos) (dUn (A6 C) fa) :=
 EO.w (a4P (b3u hk) hg hm b2i (Z4 ha.pe (Z4 (b2l (v := .ty C) hgc hmc hvc rfl hn hd) a1r hs1) he) (by decide) (by decide) he hpl) fun σ H Q hQ => by
  refine hQ.elim fun f0 O s d s' I e k => ?_
  refine v7 e fun x s1 h1 h => ?_
  refine J3 h fun d' h3 h => ?_
  simp only [Prod.mk.injEq] at h
  obtain ⟨e1, e2⟩ := h
  subst e1; subst e2
  refine J3 h3 fun T h4 h5 => ?_
  subst h5
  exact ⟨f0, O, s, x, s1, I, h1, fun v H1 f1 O1 a1 I1 r1 => ⟨_, _, x, T, v, rfl, r1, h4, k _ H1 f1 O1 a1 I1 (by simp only [Rep])⟩⟩
noncomputable def Y6 (p p' : D → D → Option D) (fa fb fc : DE) : DE := fun s => (fa s).bind fun x => (fb x.2).bind fun y => (p x.1 y.1).bind fun z => match z with
 | .bl true => (fc y.2).bind fun w => (p' y.1 w.1).map fun d => (d, w.2)
 | .bl false => some (.bl false, y.2)
 | _ => none
theorem b3m {r r' : R2} {p p' : D → D → Option D} (hr : R2D X.K r p) (hr' : R2D X.K r' p') (σ : L2.St) (H : Hp) (Q : VK) (h : liftE X.K g (Y6 p p' fa fb fc) σ H Q) : a4E r r' (liftB X.K g fa) (liftB X.K g fb) (liftB X.K g fc) σ H Q := by
 obtain ⟨f0, O, s, d, s', I, e, k⟩ := h
 refine v7 e fun x s1 h1 e => ?_
 refine v7 e fun y s2 h2 e => ?_
 refine R8 e fun z h3 e => ?_
 refine ⟨f0, O, s, x, s1, I, h1, fun v H1 f1 O1 a1 I1 r1 => ⟨f1, O1, s1, y, s2, I1, h2, fun u H2 f2 O2 a2 I2 r2 => ?_⟩⟩
 refine hr g σ H2 f2 O2 s2 v u x y z _ I2 (RepB.stp I1 a2 r1) r2 h3 fun zz H3 a3 I3 r3 => ?_
 cases z with
 | bl b =>
  simp only [Rep] at r3
  subst r3
  refine ⟨b, rfl, ?_⟩
  cases b with
  | false =>
   simp only [Option.some.injEq, Prod.mk.injEq] at e
   obtain ⟨e1, e2⟩ := e
   subst e1; subst e2
   exact a5u (k _ H3 f2 O2 (a1.trans (a2.trans a3)) I3 (by simp only [Rep]))
  | true =>
   refine v7 e fun w s3 h4 e => ?_
   refine J3 e fun d' h5 e => ?_
   simp only [Prod.mk.injEq] at e
   obtain ⟨e1, e2⟩ := e
   subst e1; subst e2
   refine a43 ⟨f2, O2, s2, w, s3, I3, h4, fun w' H4 f4 O4 a4 I4 r4 => ?_⟩
   exact hr' g σ H4 f4 O4 s3 u w' y w d' Q I4 (RepB.stp I3 a4 (RepB.stp I2 a3 r2)) r4 h5 fun q H5 a5 I5 r5 => k q H5 f4 O4 (a1.trans (a2.trans (a3.trans (a4.trans a5)))) I5 r5
 | _ => cases e
theorem a80 {op op' : CmpOp} {r r' : R2} {p p' : D → D → Option D} (ho : OpR X (compareOp op) r) (hr : R2D X.K r p) (ho' : OpR X (compareOp op') r') (hr' : R2D X.K r' p') (ha : BO X g a fa) (hb : BO X g b fb) (hc : BO X g c fc)
  (hm : lastMarks [op, op'] [b, c] = false := by with_unfolding_all rfl) : TO X g (.Compare a [op, op'] [b, c] pos) (dB (Y6 p p' fa fb fc)) :=
 TO.w (b0A ho ho' ha.pe hb.pe hc.pe hm) fun σ H Q ⟨f0, O, s, d, s', I, e, k⟩ => b3m hr hr' σ H _ ⟨f0, O, s, .bl d, s', I, a1S e, fun v H' f1 O1 a I1 r => by
  simp only [Rep] at r
  exact ⟨d, r, k H' f1 O1 a I1⟩⟩
noncomputable abbrev DO := DS → Option (Option Int × DS)
noncomputable def liftO (K : PySem.W.Frag) (g : Gh) (f : DO) : L2.TO := fun σ H Q => ∃ fa O s d s', GI K g σ H fa O s ∧ f s = some (d, s') ∧ ∀ H' fa' O', StE fa O H fa' O' H' → GI K g σ H' fa' O' s' → Q d H'
theorem liftO.elim {K : PySem.W.Frag} {g : Gh} {σ : L2.St} {H : Hp} {G : Prop} {f : DO} {Q : Option Int → Hp → Prop} (h : liftO K g f σ H Q) (k : ∀ fa O s d s', GI K g σ H fa O s → f s = some (d, s') → (∀ H' fa' O', StE fa O H fa' O' H' → GI K g σ H' fa' O' s' → Q d H') → G) : G := by
 obtain ⟨fa, O, s, d, s', a, b, c⟩ := h
 exact k fa O s d s' a b c
structure OO (X : Cx) (g : Gh) (e : Option Expr) (f : DO) : Prop where
 pe : PO X e (liftO X.K g f)
noncomputable def dNo : DO := fun s => some (none, s)
noncomputable def dAt (f : DE) : DO := fun s => (f s).bind fun x => match x.1 with | .int i => some (some i, x.2) | _ => none
theorem POw {e : Option Expr} {t t' : L2.TO} (h : PO X e t) (w : ∀ σ H Q, t' σ H Q → t σ H Q) : PO X e t' := fun pins s σ H Q I q => h pins s σ H Q I (w σ H Q q)
theorem OO.w {e : Option Expr} {f : DO} {t : L2.TO} (h : PO X e t) (w : ∀ σ H Q, liftO X.K g f σ H Q → t σ H Q) : OO X g e f := ⟨POw h w⟩
theorem N0 : OO X g none dNo := OO.w a60 fun σ H Q hQ => by
 refine hQ.elim fun f0 O s d s' I e k => ?_
 cases e
 exact k H f0 O StE.refl I
theorem N5 (h : BO X g a fa) : OO X g (some a) (dAt fa) := OO.w (a5f h.pe) fun σ H Q hQ => by
 refine hQ.elim fun f0 O s d s' I e k => ?_
 refine v7 e fun x s1 h1 e => ?_
 cases x with
 | int i =>
  simp only [Option.some.injEq, Prod.mk.injEq] at e
  obtain ⟨e1, e2⟩ := e
  subst e1; subst e2
  exact ⟨f0, O, s, .int i, s1, I, h1, fun v H1 f1 O1 a1 I1 r1 => ⟨i, by simpa only [RepB, Rep] using r1, k H1 f1 O1 a1 I1⟩⟩
 | _ => cases e
noncomputable def B3 (xs : List D) (lo hi : Option Int) : List D := (xs.drop (HT.sIx xs.length 0 lo)).take (HT.sIx xs.length xs.length hi - HT.sIx xs.length 0 lo)
theorem a20 {K : PySem.W.Frag} {N : Addr → Prop} {fa : Option Addr} {H : Hp} {ds : List D} {xs : List V} (r : Reps K N fa H ds xs) (lo hi : Option Int) : Reps K N fa H (B3 ds lo hi) (L7 xs lo hi) := by
 unfold B3 L7
 rw [r.length]
 exact (r.drop _).take _
end
end DL

namespace HT2
open PySem PyProof.Rows HT
section
variable {prog : Program} {w : World} {A : Around} {E : Value → Shared → Prop} {s : Shared}
theorem getItem_tuple_whole {t sl : Addr} {items : Array Value} {vl vu : Value} {lo hi : Option Int} {Q : Value → Shared → Prop} (ht : IsTup s.heap t items) (hs : s.heap.IsSliceOf sl vl vu .none) (pl : IsPart vl lo) (pu : IsPart vu hi)
  (hw : sIx items.size 0 lo = 0 ∧ sIx items.size items.size hi = items.size) (h : Q (.ref t) s) : wpAny (model prog w) A (getItem (.ref t) (.ref sl)) Q E s := by
 obtain ⟨os, hos, hcs, hds⟩ := id hs
 have hTs : s.TypeIs (.ref sl) "slice" := ⟨os, hos, hcs⟩
 unfold getItem
 try with_reducible refine wpAny_holding ?_
 first | refine wpAny_bind (wpAny_pure ?_) | skip
 refine wpAny_bind (wpAny_sequenceKey ht.typeIs (by decide) ?_)
 refine wpAny_bind (wpAny_callSpecial?_slot (name := Str.ofString "__getitem__") ht.typeIs PyProof.Rows.slot_tuple_getitem
  (wpAny_call_entry PyProof.Rows.slot_tuple_getitem ht.typeIs entry_tuple_getitem ?_ (args_tuple_getitem _ _)))
 show wpAny _ _ (Builtin.Tuple.tupleItemsOf (.ref t) >>= _) _ _ s
 refine wpAny_bind (tupleItemsOf_ ht ?_)
 refine wpAny_bind (wpAny_typeOf hTs ?_)
 rw [if_pos (by decide)]
 refine wpAny_bind (a6J hs pl pu ?_)
 have hyes : (((sIx items.size 0 lo : Nat) : Int) == 0 && (1 : Int) == 1 && (sIx items.size items.size hi - sIx items.size 0 lo) == items.size) = true := by
  rw [hw.1, hw.2]; simp
 show wpAny _ _ (if (((sIx items.size 0 lo : Nat) : Int) == 0 && (1 : Int) == 1 && (sIx items.size items.size hi - sIx items.size 0 lo) == items.size) = true then _ else _) _ _ s
 rw [if_pos hyes]
 refine wpAny_bind (m := Builtin.Tuple.tupleIsExact _) (wpAny_bind (wpAny_typeOf ht.typeIs (wpAny_pure ?_)))
 rw [if_pos (by decide)]
 first
  | exact wpAny_bind (wpAny_rule (wpAny_bind (wpAny_pure (wpAny_pure ⟨_, rfl, wpAny_pure h⟩))))
  | exact wpAny_bind (wpAny_rule (wpAny_pure ⟨_, rfl, wpAny_pure h⟩))
  | exact wpAny_bind (wpAny_rule (wpAny_bind (wpAny_pure ⟨_, rfl, wpAny_pure h⟩)))
end
end HT2
namespace DL
open PySem PySem.Spec L2
section
variable {X : Cx} {g : Gh} {a : Expr} {fa : DE} {pos : Pos}
noncomputable def b0b (K : PySem.W.Frag) : V → Option Int → Option Int → Hp → VK → Prop := fun x lo hi H Q => ∃ a xs, x = .ref a ∧ SqT K H a xs ∧ (HT.sIx xs.length 0 lo = 0 ∧ HT.sIx xs.length xs.length hi = xs.length) ∧ Q (.ref a) H
theorem a7r : L2.SlR X (b0b X.K) := by
 intro pins s σ H x v vl vu lo hi sl Q I rx hs pl pu h
 obtain ⟨a, xs, rfl, hx, hw, q⟩ := h
 cases rx
 obtain ⟨its, r, ht, hz⟩ := I.tuple hx
 have hlen : its.toArray.size = xs.length := by rw [List.size_toArray]; exact r.length.symm
 refine ⟨"tuple", _, PyProof.Rows.slot_tuple_getitem.lookup, ht.typeIs, ?_⟩
 exact HT2.getItem_tuple_whole ht hs pl pu (by rw [hlen]; exact hw) ⟨.ref a, H, I, rfl, q⟩
theorem b2A {xs : List D} {lo hi : Option Int} (h : HT.sIx xs.length 0 lo = 0 ∧ HT.sIx xs.length xs.length hi = xs.length) : B3 xs lo hi = xs := by
 unfold B3
 rw [h.1, h.2, List.drop_zero, Nat.sub_zero, List.take_length]
noncomputable def dSl (f : DE) (lo hi : DO) : DE := fun s => (f s).bind fun x => (lo x.2).bind fun l => (hi l.2).bind fun h => match x.1 with
 | .tup ds => some (.tup (B3 ds l.1 h.1), h.2)
 | .lst ds => some (.lst (B3 ds l.1 h.1), h.2)
 | _ => none
theorem b2W {x r : D} {F : List D → List D} {t z : DS} (e : (match x with
 | .tup ds => some (D.tup (F ds), t)
 | .lst ds => some (D.lst (F ds), t)
 | _ => none) = some (r, z)) : t = z ∧ ((∃ ds, x = .lst ds ∧ r = .lst (F ds)) ∨ ∃ ds, x = .tup ds ∧ r = .tup (F ds)) := by
 cases x with
 | tup ds => cases e; exact ⟨rfl, .inr ⟨ds, rfl, rfl⟩⟩
 | lst ds => cases e; exact ⟨rfl, .inl ⟨ds, rfl, rfl⟩⟩
 | _ => cases e
theorem N6 {lo hi : Option Expr} {fl fh : DO} {p2 : Pos} (ha : BO X g a fa) (hl : OO X g lo fl) (hh : OO X g hi fh) : EO X g (.Subscript a (.Slice lo hi none p2) pos) (dSl fa fl fh) :=
 EO.w (a6G (L2.SlR.or (L2.SlR.or a9j a7r) a40) ha.pe hl.pe hh.pe) fun σ H Q hQ => by
  refine hQ.elim fun f0 O s d s' I e k => ?_
  refine v7 e fun x s1 h1 e => ?_
  refine v7 e fun l s2 h2 e => ?_
  refine v7 e fun h s3 h3 e => ?_
  obtain ⟨rfl, c⟩ := b2W (F := fun ds => B3 ds l h) e
  refine ⟨f0, O, s, x, s1, I, h1, fun v H1 f1 O1 a1 I1 r1 => ⟨f1, O1, s1, l, s2, I1, h2, fun H2 f2 O2 a2 I2 => ⟨f2, O2, s2, h, s3, I2, h3, fun H3 f3 O3 a3 I3 => ?_⟩⟩⟩
  have r3 := RepB.stp I2 a3 (RepB.stp I1 a2 r1)
  rcases c with ⟨ds, rfl, rfl⟩ | ⟨ds, rfl, rfl⟩
  ·obtain ⟨c, xs, rfl, _, q, w⟩ := r3
   refine .inr ⟨c, xs, rfl, SqL.of q, fun p hp => ?_⟩
   have a4 : StE f3 O3 H3 f3 O3 (upd H3 p (.lst (L7 xs l h))) := E8 hp
   have L := T7 I3 hp (a20 w l h)
   refine k _ _ f3 O3 (a1.trans (a2.trans (a3.trans a4))) L.gi ?_
   simp only [Rep]
   exact ⟨p, _, rfl, a09 I3 a4 L.gi hp L.nf, C9, Reps.stp I3 a4.stp (a20 w l h)⟩
  ·simp only [RepB, Rep] at r3
   obtain ⟨c, xs, rfl, q, w⟩ := r3
   by_cases hw : HT.sIx xs.length 0 l = 0 ∧ HT.sIx xs.length xs.length h = xs.length
   ·refine .inl (.inr ⟨c, xs, rfl, q, hw, k _ H3 f3 O3 (a1.trans (a2.trans a3)) I3 ?_⟩)
    rw [w.length] at hw
    rw [b2A hw]
    simp only [Rep]
    exact ⟨c, xs, rfl, q, w⟩
   ·refine .inl (.inl ⟨c, xs, rfl, q, hw, fun p hp => ?_⟩)
    have a4 : StE f3 O3 H3 f3 O3 (upd H3 p (.tup (L7 xs l h))) := E8 hp
    refine k _ _ f3 O3 (a1.trans (a2.trans (a3.trans a4))) (I3.new hp) ?_
    simp only [Rep]
    exact ⟨p, _, rfl, SqT.of C9, Reps.stp I3 a4.stp (a20 w l h)⟩
end
end DL

namespace HT3
open PySem PyProof.Rows HT
section
variable {prog : Program} {w : World} {A : Around} {E : Value → Shared → Prop} {s : Shared}
theorem a7J (n : Nat) : Builtin.Slice.sliceAdjust none none (-1) (n : Int) = ((n : Int) - 1, -1) := by
 have h1 : ((-1 : Int) < 0) := by omega
 unfold Builtin.Slice.sliceAdjust
 simp only [h1, if_true]
theorem b2x (n : Nat) : Builtin.Slice.slicePlaces ((n : Int) - 1) (-1) (-1) = n := by
 unfold Builtin.Slice.slicePlaces
 have h1 : ¬ ((-1 : Int) > 0) := by omega
 simp only [h1, if_false]
 have e : -(-1 : Int) = 1 := rfl
 rw [e, Int.ediv_one]
 split <;> omega
theorem a8E {sl : Addr} {t : Tok} {n : Nat} {Q : Int × Int × Nat → Shared → Prop} (hs : s.heap.IsSliceOf sl .none .none (.int (-1) t))
  (h : Q ((n : Int) - 1, -1, n) s) : wpAny (model prog w) A (Builtin.Slice.sliceApplied (.ref sl) (pure (n : Int))) Q E s := by
 obtain ⟨os, hos, hcs, hds⟩ := id hs
 unfold Builtin.Slice.sliceApplied Builtin.Slice.sliceFields
 refine wpAny_bind (wpAny_bind (wpAny_field hos hds (x := .none) rfl (wpAny_bind (wpAny_field hos hds (x := .none) rfl (wpAny_bind (wpAny_field hos hds (x := .int (-1) t) rfl (wpAny_pure ?_)))))))
 refine wpAny_bind (slicePart_int ?_)
 show wpAny _ _ (if ((-1 : Int) == 0) = true then _ else _) _ _ s
 rw [if_neg (by decide)]
 refine wpAny_bind (slicePart_none (wpAny_bind (slicePart_none (wpAny_bind (wpAny_pure ?_)))))
 show wpAny _ _ (match Builtin.Slice.sliceAdjust none none (-1) (n : Int) with | (lo, hi) => pure (lo, (-1 : Int), Builtin.Slice.slicePlaces lo hi (-1))) _ _ s
 rw [a7J n]
 show wpAny _ _ (pure ((n : Int) - 1, (-1 : Int), Builtin.Slice.slicePlaces ((n : Int) - 1) (-1) (-1))) _ _ s
 rw [b2x]
 exact wpAny_pure h
theorem a9K (xs : Array Value) : ((List.range xs.size).filterMap fun (m : Nat) => xs[(((xs.size : Int) - 1) + (m : Int) * (-1)).toNat]?).toArray = xs.toList.reverse.toArray := by
 congr 1
 have e : ((List.range xs.size).filterMap fun (m : Nat) => xs[(((xs.size : Int) - 1) + (m : Int) * (-1)).toNat]?) = ((List.range xs.size).filterMap fun (m : Nat) => xs.toList.reverse[m]?) := by
  have cg : ∀ (l : List Nat) (f g : Nat → Option Value), (∀ m ∈ l, f m = g m) → l.filterMap f = l.filterMap g := by
   intro l f g
   induction l with
   | nil => intro _; rfl
   | cons a r ih => intro h; rw [List.filterMap_cons, List.filterMap_cons, h a (List.mem_cons_self ..), ih fun m hm => h m (List.mem_cons_of_mem _ hm)]
  refine cg _ _ _ fun m hm => ?_
  have hm' : m < xs.size := List.mem_range.mp hm
  have : (((xs.size : Int) - 1) + (m : Int) * (-1)).toNat = xs.size - 1 - m := by omega
  rw [this, List.getElem?_reverse (by simpa using hm')]
  simp
 rw [e]
 have hl : xs.size = xs.toList.reverse.length := by simp
 rw [hl]
 generalize xs.toList.reverse = l
 clear e hl
 induction l with
 | nil => rfl
 | cons a r ih =>
  rw [List.length_cons, List.range_succ_eq_map, List.filterMap_cons]
  simp only [List.getElem?_cons_zero, List.filterMap_map]
  congr 1
theorem getItem_tuple_rev {t sl : Addr} {items : Array Value} {tk : Tok} {Q : Value → Shared → Prop} (ht : IsTup s.heap t items) (hs : s.heap.IsSliceOf sl .none .none (.int (-1) tk))
  (h : Q (.ref s.heap.objs.size) { s with heap := s.heap.push { cls := .type "tuple", data := .seq items.toList.reverse.toArray } })
  (hsz : items.size ≤ sizeLine) : wpAny (model prog w) A (getItem (.ref t) (.ref sl)) Q E s := by
 have htake : sizeOk (.seq items.toList.reverse.toArray) := by
  show items.toList.reverse.toArray.size ≤ sizeLine
  rw [List.size_toArray, List.length_reverse, Array.length_toList]
  exact hsz
 obtain ⟨os, hos, hcs, hds⟩ := id hs
 have hTs : s.TypeIs (.ref sl) "slice" := ⟨os, hos, hcs⟩
 unfold getItem
 try with_reducible refine wpAny_holding ?_
 first | refine wpAny_bind (wpAny_pure ?_) | skip
 refine wpAny_bind (wpAny_sequenceKey ht.typeIs (by decide) ?_)
 refine wpAny_bind (wpAny_callSpecial?_slot (name := Str.ofString "__getitem__") ht.typeIs PyProof.Rows.slot_tuple_getitem
  (wpAny_call_entry PyProof.Rows.slot_tuple_getitem ht.typeIs entry_tuple_getitem ?_ (args_tuple_getitem _ _)))
 show wpAny _ _ (Builtin.Tuple.tupleItemsOf (.ref t) >>= _) _ _ s
 refine wpAny_bind (tupleItemsOf_ ht ?_)
 refine wpAny_bind (wpAny_typeOf hTs ?_)
 rw [if_pos (by decide)]
 refine wpAny_bind (a8E hs ?_)
 have hno : ¬ ((((items.size : Int) - 1) == 0 && (-1 : Int) == 1 && items.size == items.size) = true) := by
  intro q
  rw [Bool.and_eq_true, Bool.and_eq_true] at q
  exact absurd q.1.2 (by decide)
 show wpAny _ _ (if (((items.size : Int) - 1) == 0 && (-1 : Int) == 1 && items.size == items.size) = true then _ else _) _ _ s
 rw [if_neg hno, a9K]
 first
  | exact wpAny_bind (m := Builtin.Tuple.tupleExact _) (wpAny_newObj_type (wpAny_pure ⟨_, rfl, wpAny_pure h⟩) htake)
  | exact wpAny_bind (m := Builtin.Tuple.tupleExact _) (wpAny_newObj_type (wpAny_bind (wpAny_pure (wpAny_pure ⟨_, rfl, wpAny_pure h⟩))) htake)
  | exact wpAny_bind (wpAny_bind (m := Builtin.Tuple.tupleExact _) (wpAny_newObj_type (wpAny_pure (wpAny_pure ⟨_, rfl, wpAny_pure h⟩)) htake))
  | exact wpAny_bind (wpAny_bind (m := Builtin.Tuple.tupleExact _) (wpAny_newObj_type (wpAny_pure ⟨_, rfl, wpAny_pure h⟩) htake))
theorem a8Q {sl : Addr} {t : Tok} {n : Nat} {Q : Int × Int × Nat → Shared → Prop} (hs : s.heap.IsSliceOf sl .none .none (.int 1 t))
  (h : Q (0, 1, n) s) : wpAny (model prog w) A (Builtin.Slice.sliceApplied (.ref sl) (pure (n : Int))) Q E s := by
 obtain ⟨os, hos, hcs, hds⟩ := id hs
 unfold Builtin.Slice.sliceApplied Builtin.Slice.sliceFields
 refine wpAny_bind (wpAny_bind (wpAny_field hos hds (x := .none) rfl (wpAny_bind (wpAny_field hos hds (x := .none) rfl (wpAny_bind (wpAny_field hos hds (x := .int 1 t) rfl (wpAny_pure ?_)))))))
 refine wpAny_bind (slicePart_int ?_)
 show wpAny _ _ (if ((1 : Int) == 0) = true then _ else _) _ _ s
 rw [if_neg (by decide)]
 refine wpAny_bind (slicePart_none (wpAny_bind (slicePart_none (wpAny_bind (wpAny_pure ?_)))))
 show wpAny _ _ (match Builtin.Slice.sliceAdjust none none 1 (n : Int) with | (lo, hi) => pure (lo, (1 : Int), Builtin.Slice.slicePlaces lo hi 1)) _ _ s
 rw [a56 none none n]
 show wpAny _ _ (pure (((sIx n 0 none : Nat) : Int), (1 : Int), Builtin.Slice.slicePlaces ((sIx n 0 none : Nat) : Int) ((sIx n n none : Nat) : Int) 1)) _ _ s
 rw [a4K]
 exact wpAny_pure h
theorem getItem_tuple_one {t sl : Addr} {items : Array Value} {tk : Tok} {Q : Value → Shared → Prop} (ht : IsTup s.heap t items) (hs : s.heap.IsSliceOf sl .none .none (.int 1 tk)) (h : Q (.ref t) s) : wpAny (model prog w) A (getItem (.ref t) (.ref sl)) Q E s := by
 obtain ⟨os, hos, hcs, hds⟩ := id hs
 have hTs : s.TypeIs (.ref sl) "slice" := ⟨os, hos, hcs⟩
 unfold getItem
 try with_reducible refine wpAny_holding ?_
 first | refine wpAny_bind (wpAny_pure ?_) | skip
 refine wpAny_bind (wpAny_sequenceKey ht.typeIs (by decide) ?_)
 refine wpAny_bind (wpAny_callSpecial?_slot (name := Str.ofString "__getitem__") ht.typeIs PyProof.Rows.slot_tuple_getitem
  (wpAny_call_entry PyProof.Rows.slot_tuple_getitem ht.typeIs entry_tuple_getitem ?_ (args_tuple_getitem _ _)))
 show wpAny _ _ (Builtin.Tuple.tupleItemsOf (.ref t) >>= _) _ _ s
 refine wpAny_bind (tupleItemsOf_ ht ?_)
 refine wpAny_bind (wpAny_typeOf hTs ?_)
 rw [if_pos (by decide)]
 refine wpAny_bind (a8Q hs ?_)
 have hyes : ((0 : Int) == 0 && (1 : Int) == 1 && items.size == items.size) = true := by simp
 show wpAny _ _ (if ((0 : Int) == 0 && (1 : Int) == 1 && items.size == items.size) = true then _ else _) _ _ s
 rw [if_pos hyes]
 refine wpAny_bind (m := Builtin.Tuple.tupleIsExact _) (wpAny_bind (wpAny_typeOf ht.typeIs (wpAny_pure ?_)))
 rw [if_pos (by decide)]
 first
  | exact wpAny_bind (wpAny_rule (wpAny_bind (wpAny_pure (wpAny_pure ⟨_, rfl, wpAny_pure h⟩))))
  | exact wpAny_bind (wpAny_rule (wpAny_pure ⟨_, rfl, wpAny_pure h⟩))
  | exact wpAny_bind (wpAny_rule (wpAny_bind (wpAny_pure ⟨_, rfl, wpAny_pure h⟩)))
end
end HT3
namespace DL
open PySem PySem.Spec L2 PyProof.Rows
section
variable {X : Cx} {g : Gh} {a st : Expr} {fa fs : DE} {pos p2 : Pos}
noncomputable def b0J (K : PySem.W.Frag) (te ts : TE) : TE := fun σ H Q => te σ H fun x H1 => ts σ H1 fun y H2 => (y = .int (-1) ∧ ∃ p xs, x = .ref p ∧ SqT K H2 p xs ∧ ∀ l, H2 l = none → Q (.ref l) (upd H2 l (.tup xs.reverse))) ∨ (y = .int 1 ∧ ∃ p xs, x = .ref p ∧ SqT K H2 p xs ∧ Q (.ref p) H2)
theorem a9Q {te ts : TE} (he : PE X a te) (hs : PE X st ts) : PE X (.Subscript a (.Slice none none (some st) p2) pos) (b0J X.K te ts) := by
 intro pins s σ H Q I h
 refine Subscript_ (thn (he pins s σ H _ I h) fun v s1 ⟨x, H1, I1, r1, q1⟩ => ?_)
 refine wpAny_Slice ?_
 rw [evalPart_none]
 refine wpAny_pure (wpAny_pure ?_)
 rw [evalPart_some]
 refine thn (hs pins s1 σ H1 _ I1 q1) fun u s3 ⟨y, H3, I3, r3, q3⟩ => ?_
 rcases q3 with ⟨rfl, p, xs, rfl, hx, q⟩ | ⟨rfl, p, xs, rfl, hx, q⟩
 case inr =>
  obtain ⟨tk, rfl⟩ := r3
  cases r1
  have I4 : Inv X pins σ H3 { s3 with heap := s3.heap.push { cls := .type "slice", data := .fields #[.none, .none, .int 1 tk] } } := I3.kept (t' := s3.toks) fun b ob q => Heap.get?_push_of_some _ q
  obtain ⟨its, r, ht, hz⟩ := I4.tuple hx
  show wpAny (model X.prog X.w) X.A (subscriptTail a (.Slice none none (some st) p2) (.ref p) (.ref s3.heap.objs.size)) (EP X pins σ Q) X.xe { s3 with heap := s3.heap.push { cls := .type "slice", data := .fields #[.none, .none, .int 1 tk] } }
  refine tail_any (ops := [.ref p, .ref s3.heap.objs.size]) ht.typeIs PyProof.Rows.slot_tuple_getitem.lookup ?_ (by with_unfolding_all rfl)
  exact HT3.getItem_tuple_one ht (Heap.IsSliceOf.new ..) ⟨.ref p, H3, I4, rfl, q⟩
 obtain ⟨tk, rfl⟩ := r3
 cases r1
 have I4 : Inv X pins σ H3 { s3 with heap := s3.heap.push { cls := .type "slice", data := .fields #[.none, .none, .int (-1) tk] } } := I3.kept (t' := s3.toks) fun b ob q => Heap.get?_push_of_some _ q
 obtain ⟨its, r, ht, hz⟩ := I4.tuple hx
 have hlen : its.toArray.size = xs.length := by rw [List.size_toArray]; exact r.length.symm
 show wpAny (model X.prog X.w) X.A (subscriptTail a (.Slice none none (some st) p2) (.ref p) (.ref s3.heap.objs.size)) (EP X pins σ Q) X.xe { s3 with heap := s3.heap.push { cls := .type "slice", data := .fields #[.none, .none, .int (-1) tk] } }
 refine tail_any (ops := [.ref p, .ref s3.heap.objs.size]) ht.typeIs PyProof.Rows.slot_tuple_getitem.lookup ?_ (by with_unfolding_all rfl)
 refine HT3.getItem_tuple_rev ht (Heap.IsSliceOf.new ..) ?_ (by rw [hlen]; exact hz)
 refine ⟨.ref (s3.heap.push { cls := .type "slice", data := .fields #[.none, .none, .int (-1) tk] }).objs.size, _, I4.laid (t' := s3.toks) (o := .tup xs.reverse) (fun b ob q => Heap.get?_push_of_some _ q) (Nat.le_refl _) ?_, rfl, q _ (I4.hok.fresh (Nat.le_refl _))⟩
 exact ⟨by rw [List.length_reverse]; exact hz, _, r.reverse, IsTup.new _ _⟩
noncomputable def a1O (f h : DE) : DE := fun s => (f s).bind fun x => (h x.2).bind fun y => match x.1, y.1 with
 | .tup ds, .int i => if i = -1 then some (.tup ds.reverse, y.2) else if i = 1 then some (.tup ds, y.2) else none
 | _, _ => none
theorem a8u {x y r : D} {t : DS} {z : DS} (e : (match x, y with
 | .tup ds, .int i => if i = -1 then some (D.tup ds.reverse, t) else if i = 1 then some (.tup ds, t) else none
 | _, _ => none) = some (r, z)) : ∃ ds i, x = .tup ds ∧ y = .int i ∧ t = z ∧ ((i = -1 ∧ r = .tup ds.reverse) ∨ (i = 1 ∧ r = .tup ds)) := by
 cases x with
 | tup ds =>
  cases y with
  | int i =>
   have e : (if i = -1 then some (D.tup ds.reverse, t) else if i = 1 then some (.tup ds, t) else none) = some (r, z) := e
   by_cases hi : i = -1
   ·rw [if_pos hi] at e
    cases e
    exact ⟨ds, i, rfl, rfl, rfl, .inl ⟨hi, rfl⟩⟩
   ·rw [if_neg hi] at e
    by_cases h1 : i = 1
    ·rw [if_pos h1] at e
     cases e
     exact ⟨ds, i, rfl, rfl, rfl, .inr ⟨h1, rfl⟩⟩
    ·rw [if_neg h1] at e
     cases e
  | _ => cases e
 | _ => cases e
theorem b14 (ha : BO X g a fa) (hs : BO X g st fs) : EO X g (.Subscript a (.Slice none none (some st) p2) pos) (a1O fa fs) := EO.w (a9Q ha.pe hs.pe) fun σ H Q hQ => by
 refine hQ.elim fun f0 O s d s' I e k => ?_
 refine v7 e fun x s1 h1 e => ?_
 refine v7 e fun y s2 h2 e => ?_
 obtain ⟨ds, i, rfl, rfl, rfl, c⟩ := a8u e
 refine ⟨f0, O, s, _, s1, I, h1, fun v H1 f1 O1 a1 I1 r1 => ⟨f1, O1, s1, _, s2, I1, h2, fun u H2 f2 O2 a2 I2 r2 => ?_⟩⟩
 have r3 := RepB.stp I1 a2 r1
 simp only [RepB, Rep] at r2 r3
 subst r2
 obtain ⟨c', xs, rfl, q, w⟩ := r3
 rcases c with ⟨rfl, rfl⟩ | ⟨rfl, rfl⟩
 ·refine .inl ⟨rfl, c', xs, rfl, q, fun l hl => ?_⟩
  have a4 : StE f2 O2 H2 f2 O2 (upd H2 l (.tup xs.reverse)) := E8 hl
  refine k _ _ f2 O2 (a1.trans (a2.trans a4)) (I2.new hl) ?_
  simp only [Rep]
  exact ⟨l, _, rfl, SqT.of C9, Reps.stp I2 a4.stp (Reps.reverse w)⟩
 ·refine .inr ⟨rfl, c', xs, rfl, q, k _ _ f2 O2 (a1.trans a2) I2 ?_⟩
  simp only [Rep]
  exact ⟨c', xs, rfl, q, w⟩
theorem a9D : MtR X "str.upper" (fun x xs H Q => ∃ z, x = .str z ∧ xs = [] ∧ (Txt.upper z).length ≤ sizeLine ∧ Q (.str (Txt.upper z)) H) := by
 intro pins s σ H x xs v us Q I rx rs h
 obtain ⟨z, rfl, rfl, hz, q⟩ := h
 obtain ⟨t, rfl⟩ := rx
 cases rs
 refine SC.upper (by unfold Builtin.Str.tooLong; exact decide_eq_false (by omega)) ?_
 exact ⟨.str (Txt.upper z), H, I.kept (t' := s.toks + 1) fun _ _ q => q, ⟨_, rfl⟩, q⟩
noncomputable def pUp : D → Option D
 | .str x => if (Txt.upper x).length ≤ sizeLine then some (.str (Txt.upper x)) else none
 | _ => none
theorem a9t {apos cpos : Pos} (ha : BO X g a fa) (hbase : attributeBase a ("upper" : Str) X.env (eval a X.env) = eval a X.env := by rfl) (hline : (apos.endLine == cpos.line) = true := by rfl) :
  EO X g (.Call (.Attribute a ("upper" : Str) apos) [] [] cpos) (dUn pUp fa) := EO.w (b3P F.plainAttrs_str F.slot_str_upper F.type_str_upper a9D ha.pe hbase hline) fun σ H Q hQ => by
 refine hQ.elim fun f0 O s d s' I e k => ?_
 refine v7 e fun x s1 h1 h => ?_
 refine J3 h fun d' h3 h => ?_
 simp only [Prod.mk.injEq] at h
 obtain ⟨e1, e2⟩ := h
 subst e1; subst e2
 refine ⟨f0, O, s, x, s1, I, h1, fun v H1 f1 O1 a1 I1 r1 => ?_⟩
 cases x with
 | str z =>
  simp only [pUp] at h3
  by_cases hz : (Txt.upper z).length ≤ sizeLine
  ·rw [if_pos hz] at h3
   cases h3
   simp only [RepB, Rep] at r1
   obtain ⟨rfl, _⟩ := r1
   exact ⟨rfl, z, rfl, rfl, hz, k _ H1 f1 O1 a1 I1 (by simp only [Rep]; exact ⟨trivial, hz⟩)⟩
  ·rw [if_neg hz] at h3; cases h3
 | _ => cases h3
end
theorem b3G {P : Program} {w : World} {K : PySem.W.Frag} {mg : Str → Option Value} {base : Heap} {k : Nat} {f : Addr} {fd : FuncData} {ps : List Str} : FnD P w K mg base k f fd ps (fun _ _ => none) := by
 refine ⟨fun vs H Q E h => ?_, fun A outer s H args us vs Q E _ _ _ _ h => ?_⟩ <;> (obtain ⟨F, fa, ds, fs, d, fs', _, _, _, _, e, _⟩ := h; cases e)
end DL

namespace DL
open PySem PySem.Spec L2
noncomputable def a2w : Expr → Bool
 | .Starred _ _ => false
 | _ => true
theorem a62 {a : Expr} {es : List Expr} {env : Env} (h : a2w a = true) : starEach (a :: es) env = (false, eval a env) :: starEach es env := by
 cases a <;> first | rfl | (cases h)
section
variable {X : Cx} {g : Gh} {a : Expr} {es : List Expr} {fa : DE} {fr : DA}
theorem ac (ha : EO X g a fa) (hr : AO X g es fr) (hs : a2w a = true := by rfl) : AO X g (a :: es) (a6 fa fr) := a2j ha hr (a62 hs)
theorem bc (ha : BO X g a fa) (hr : BAO X g es fr) (hs : a2w a = true := by rfl) : BAO X g (a :: es) (a6 fa fr) := a7R ha hr (a62 hs)
end
end DL

namespace DL
open PySem PySem.Spec L2 PyProof.Rows
noncomputable def inD (x : D) (ds : List D) : Bool := (D.pys ds).any fun y => PyData.eqv y x.py
noncomputable def a0y (f : Bool → Bool) (x c : D) : Option D := match c with
 | .lst ds => if w6 x && w6 (.lst ds) then some (.bl (f (inD x ds))) else none
 | .tup ds => if w6 x && w6 (.tup ds) then some (.bl (f (inD x ds))) else none
 | _ => none
noncomputable def pIn (x c : D) : Option D := a0y id x c
noncomputable def a2g (K : PySem.W.Frag) (f : Bool → Bool) : R2 := fun x y H Q => ∃ N fa d1 d2 ds, RepB K N fa H d1 x ∧ RepB K N fa H d2 y ∧ (d2 = .lst ds ∨ d2 = .tup ds) ∧ w6 d1 = true ∧ w6 d2 = true ∧ Q (.bl (f (inD d1 ds))) H
section
variable {X : Cx} {K : PySem.W.Frag}
theorem a44 {u a b : Nat} (h : u + 64 < cLine) (ha : a + 1 ≤ 64) : u + 1 + min a b < cLine := by
 have : min a b ≤ a := Nat.min_le_left _ _
 omega
theorem a8v (hu : X.A.units + 64 < cLine) : OpR X (compareOp .In) (a2g X.K id) := by
 intro pins s σ H x y v u Q I rx ry h
 obtain ⟨N, fa, d1, d2, ds, r1, r2, hd, o1, o2, q⟩ := h
 unfold w6 at o1 o2
 rw [Bool.and_eq_true] at o1 o2
 obtain ⟨as, h1⟩ := R7 I d1 x v r1.o rx o1.1
 obtain ⟨bs, h2⟩ := R7 I d2 y u r2.o ry o2.1
 have l2 := SeqAt.canLay_of_shaped o2.2
 have dp := SeqAt.depth_of_shaped o2.2
 rcases hd with rfl | rfl
 ·simp only [D.py, PyData.canLay0, PyData.depth] at h2 l2 dp
  exact SeqAt.in_list_reads h2 h1 l2 (SeqAt.canLay_of_shaped o1.2) (a44 hu dp) ⟨.bl _, H, I, rfl, q⟩
 ·simp only [D.py, PyData.canLay0, PyData.depth] at h2 l2 dp
  exact SeqAt.in_tuple_reads h2 h1 l2 (SeqAt.canLay_of_shaped o1.2) (a44 hu dp) ⟨.bl _, H, I, rfl, q⟩
theorem a7q {f : Bool → Bool} {x c d : D} (h : a0y f x c = some d) : ∃ ds, (c = .lst ds ∨ c = .tup ds) ∧ w6 x = true ∧ w6 c = true ∧ d = .bl (f (inD x ds)) := by
 unfold a0y at h
 cases c with
 | lst ds =>
  simp only at h
  split at h
  ·rename_i q; rw [Bool.and_eq_true] at q; cases h; exact ⟨ds, .inl rfl, q.1, q.2, rfl⟩
  ·cases h
 | tup ds =>
  simp only at h
  split at h
  ·rename_i q; rw [Bool.and_eq_true] at q; cases h; exact ⟨ds, .inr rfl, q.1, q.2, rfl⟩
  ·cases h
 | _ => cases h
theorem b3b (f : Bool → Bool) : R2D K (a2g K f) (a0y f) := by
 intro g σ H fa O s x y d1 d2 d Q I r1 r2 e k
 obtain ⟨ds, hc, o1, o2, rfl⟩ := a7q e
 exact ⟨_, fa, d1, d2, ds, r1, r2, hc, o1, o2, k _ H StE.refl I (by simp only [Rep])⟩
theorem a8i : R2D K (a2g K id) pIn := b3b id
end
section
variable {K : PySem.W.Frag}
end
end DL

namespace DL
open PySem PySem.Spec L2
noncomputable def a1P (i : Nat) (s : DS) : DS := match s.sl[i]? with
 | some (.own ds) => { s with sl := s.sl.set i (.val (.lst ds)) }
 | _ => s
noncomputable def a0d : List Nat → DS → DS
 | [], s => s
 | i :: r, s => a0d r (a1P i s)
section
variable {K : PySem.W.Frag} {g : Gh} {σ : L2.St} {H : Hp} {fa : Option Addr} {O : List Addr} {s : DS}
theorem b2E (i : Nat) (I : GI K g σ H fa O s) : ∃ P, StE fa O H fa P H ∧ GI K g σ H fa P (a1P i s) := by
 unfold a1P
 cases q : s.sl[i]? with
 | none => exact ⟨O, StE.refl, I⟩
 | some z =>
  cases z with
  | no => exact ⟨O, StE.refl, I⟩
  | val d' => exact ⟨O, StE.refl, I⟩
  | own ds =>
   simp only
   obtain ⟨a, xs, e1, m, e2, r⟩ := SlR.own I.sl q
   let N1 : Addr → Prop := fun b => NN g.F fa O b ∧ b ≠ a
   have c1 : Car K (NN g.F fa O) fa H N1 fa H := ⟨fun b ys n z => ⟨z, fun y => n y.1⟩, fun _ _ z => z, fun _ _ z => z, fun _ z => z⟩
   have S1 := SlR.go c1 (fun _ _ _ z => z) I.sl
   have R1 : Rep K N1 fa H (.lst ds) (.ref a) := by
    simp only [Rep]
    exact ⟨a, xs, rfl, fun z => z.2 rfl, e2, Reps.go c1 ds xs r⟩
   obtain ⟨P, hs, S2, hn⟩ := SlR.put i S1 R1
   have na : a ∉ P := hn I.nd a (by rw [q]; rfl) ⟨ds, q⟩ e1
   have eσ : σ.set i (some (V.ref a)) = σ := by
    apply List.ext_getElem?
    intro j
    by_cases hj : j = i
    ·subst hj
     rw [e1, List.getElem?_set_self (List.getElem?_eq_some_iff.mp e1).1]
    ·rw [List.getElem?_set_ne (Ne.symm hj)]
   rw [eσ] at S2
   have sub : ∀ b ∈ P, b ∈ O := fun b hb => hs.subset hb
   have a1 : StE fa O H fa P H := ⟨sub, .inl rfl, fun _ _ z _ => z, fun _ z => z⟩
   have c2 : Car K N1 fa H (NN g.F fa P) fa H := ⟨fun b ys n z => ⟨z, fun y => n ⟨by
     rcases y with y | y | y
     ·exact .inl y
     ·exact .inr (.inl (sub b y))
     ·exact .inr (.inr y), fun w => by
     subst w
     rcases y with y | y | y
     ·exact I.tr b y (I.fr b m)
     ·exact na y
     ·exact I.nf b y m⟩⟩, fun _ _ z => z, fun _ _ z => z, fun _ z => z⟩
   exact ⟨P, a1, hs.nodup I.nd, SlR.go c2 (fun _ _ _ z => z) S2, fun b hb => I.fr b (sub b hb), I.st, I.tr, I.ff, (I.fd.car c1 fun _ _ => rfl).car c2 fun _ _ => rfl, fun b z y => I.nf b z (sub b y)⟩
theorem a67 : ∀ (is : List Nat) {O : List Addr} {s : DS}, GI K g σ H fa O s → ∃ P, StE fa O H fa P H ∧ GI K g σ H fa P (a0d is s)
 | [], O, s, I => ⟨O, StE.refl, I⟩
 | i :: r, O, s, I => by
  obtain ⟨P, a, I1⟩ := b2E i I
  obtain ⟨P', a', I2⟩ := a67 r I1
  exact ⟨P', a.trans a', I2⟩
end
noncomputable def a0T (is : List Nat) (f : DA) : DA := fun s => f (a0d is s)
theorem a9F {X : Cx} {g : Gh} {e : Expr} {f : DA} (is : List Nat) (h : FO X g e f) : FO X g e (a0T is f) := FO.w h.pe fun σ H Q hQ => by
 refine hQ.elim fun fa O s d s' I q k => ?_
 obtain ⟨P, a, I1⟩ := a67 is I
 exact ⟨fa, P, a0d is s, d, s', I1, q, fun p xs H' f1 O1 a1 L e1 => k p xs H' f1 O1 (a.trans a1) L e1⟩
noncomputable def a08 : D → D → Option D
 | .bl a, .bl b => some (.bl (a == b))
 | _, _ => none
noncomputable def Z2 : D → D → Option D
 | .bl a, .bl b => some (.bl (!(a == b)))
 | _, _ => none
theorem a5y {X : Cx} : OpR X (compareOp .Is) (fun x y H Q => ∃ a b, x = .bl a ∧ y = .bl b ∧ Q (.bl (a == b)) H) := by
 intro pins s σ H x y v u Q I rx ry h
 obtain ⟨a, b, rfl, rfl, q⟩ := h
 cases rx
 cases ry
 exact PyProof.Rows.is_bool ⟨.bl _, H, I, rfl, q⟩
theorem a5A {X : Cx} : OpR X (compareOp .IsNot) (fun x y H Q => ∃ a b, x = .bl a ∧ y = .bl b ∧ Q (.bl (!(a == b))) H) := by
 intro pins s σ H x y v u Q I rx ry h
 obtain ⟨a, b, rfl, rfl, q⟩ := h
 cases rx
 cases ry
 exact PyProof.Rows.isnot_bool ⟨.bl _, H, I, rfl, q⟩
theorem a5L {K : PySem.W.Frag} : R2D K (fun x y H Q => ∃ a b, x = .bl a ∧ y = .bl b ∧ Q (.bl (a == b)) H) a08 := by
 intro g σ H fa O s x y d1 d2 d Q I r1 r2 e k
 cases d1 with
 | bl a =>
  cases d2 with
  | bl b =>
   cases e
   simp only [RepB, Rep] at r1 r2
   exact ⟨a, b, r1, r2, k _ H StE.refl I (by simp only [Rep])⟩
  | _ => cases e
 | _ => cases d2 <;> cases e
theorem a5V {K : PySem.W.Frag} : R2D K (fun x y H Q => ∃ a b, x = .bl a ∧ y = .bl b ∧ Q (.bl (!(a == b))) H) Z2 := by
 intro g σ H fa O s x y d1 d2 d Q I r1 r2 e k
 cases d1 with
 | bl a =>
  cases d2 with
  | bl b =>
   cases e
   simp only [RepB, Rep] at r1 r2
   exact ⟨a, b, r1, r2, k _ H StE.refl I (by simp only [Rep])⟩
  | _ => cases e
 | _ => cases d2 <;> cases e
end DL

namespace DL
open PySem PySem.Spec L2
noncomputable def mk2 (idx : List Nat) (sl : List Sl) : D → Option (List Sl)
 | .tup [a, b] => some (.val a :: .val b :: E9 idx sl)
 | _ => none
theorem a8X {idx : List Nat} {sl : List Sl} {d : D} {r : List Sl} (h : mk2 idx sl d = some r) : ∃ a b, d = .tup [a, b] ∧ r = .val a :: .val b :: E9 idx sl := by
 cases d with
 | tup ds =>
  match ds, h with
  | [a, b], h => cases h; exact ⟨a, b, rfl, rfl⟩
 | _ => cases h
noncomputable def Z5 (idx : List Nat) (fi : DA) (fc : DT) (fe : DE) : DA := fun s => (fi s).bind fun x => if x.1.length ≤ sizeLine then (C4 (mk2 idx x.2.sl) fc fe x.1 x.2.fs).map fun y => (y.1, { x.2 with fs := y.2 }) else none
section
variable {X : Cx} {g : Gh} {scope : Scope} {cl : List (Str × Addr)} {N' : List Str} {idx : List Nat} {iter elt tg : Expr} {ifs : List Expr} {pos : Pos} {fi : DA} {fc : DT} {fe : DE}
theorem b3l {G : TG} (k : CompOk X scope cl N' 2 idx)
  (hG : ∀ (a : Addr) (x y : V) (σ : L2.St) (H : Hp) (Q : L2.St → Hp → Prop), SqT X.K H a [x, y] → Q ((σ.set 0 (some x)).set 1 (some y)) H → G (.ref a) σ H Q) : ∀ σ H Q, liftF X.K g (Z5 idx fi fc fe) σ H Q → a0J 2 idx (liftI X.K g fi) G (fun σ H Q => ∃ g', liftT X.K g' fc σ H Q) (fun σ H Q => ∃ g', liftE X.K g' fe σ H Q) σ H Q :=
 a6Q (mk := mk2 idx) fun N fa sl d sl0 x σ H Q hm rx hc kk => by
  obtain ⟨da, db, rfl, rfl⟩ := a8X hm
  simp only [Rep, Reps] at rx
  obtain ⟨ad, xs0, rfl, hsq, u, ys0, rfl, ru, w, ys1, rfl, rw', rfl⟩ := rx
  refine hG ad u w _ _ _ hsq (kk _ ⟨by simp, fun j v hj => ?_⟩ ?_)
  ·cases j with
   | zero => simp [D2] at hj
   | succ j =>
    cases j with
    | zero => simp [D2] at hj
    | succ j => rw [List.getElem?_set_ne (by simp), List.getElem?_set_ne (by simp)]; exact hj
  ·have eb : ((D2 2 idx σ).set 0 (some u)).set 1 (some w) = some u :: some w :: idx.map fun i => (σ[i]?).join := by simp [D2]
   rw [eb]
   simp only [SlR]
   exact ⟨u, _, rfl, ru, w, _, rfl, rw', hc⟩
theorem a8x {G : TG} (hc : X.calm = true) (k : CompOk X scope cl N' 2 idx) (hi : IO X g tg iter fi) (hg : ∀ C s0 H0 ex, PG (blk X N' scope cl C s0 H0 ex) tg G)
  (hG : ∀ (a : Addr) (x y : V) (σ : L2.St) (H : Hp) (Q : L2.St → Hp → Prop), SqT X.K H a [x, y] → Q ((σ.set 0 (some x)).set 1 (some y)) H → G (.ref a) σ H Q)
  (ht : ∀ C s0 H0 ex g', a1h (blk X N' scope cl C s0 H0 ex) g' ifs fc) (he : ∀ C s0 H0 ex g', EO (blk X N' scope cl C s0 H0 ex) g' elt fe) (hs : ∀ x, foldedSetIterable iter X.env x = pure x := by intro _; rfl) :
  FO X g (.ListComp elt [⟨tg, iter, ifs, 0⟩] scope pos) (Z5 idx fi fc fe) := by
 exact FO.w (a6h (tc := fun σ H Q => ∃ g', liftT X.K g' fc σ H Q) (te := fun σ H Q => ∃ g', liftE X.K g' fe σ H Q) hc k hi.pe hg (fun C s0 H0 ex pins s σ H Q I ⟨g', h⟩ => ht C s0 H0 ex g' pins s σ H Q I h) (fun C s0 H0 ex pins s σ H Q I ⟨g', h⟩ => (he C s0 H0 ex g').pe pins s σ H Q I h) hs) (b3l k hG)
theorem a90 {X : Cx} {scope : Scope} {cl : List (Str × Addr)} {x y : Str} {caps : List Str} {idx : List Nat} (clos : closureFor scope X.env = pure cl) (sub : SubL X.env.cells cl) (cell : ∀ y ∈ scope.names, y.2 ≠ .cell) (kind : scope.kind = .function)
  (names : ∀ y ∈ scope.names, y.2 = .local → scope.names.lookup y.1 = some .local) (has : hasAll (relabel scope X.env).names cl = true) (cap : CapL X scope idx caps) : CompOk X scope cl (x :: y :: caps) 2 idx :=
 ⟨clos, fun y c e => sub.mem y c (a0Y e), cell, kind, names, a5F has, by rw [List.length_cons, List.length_cons, cap.len]; omega, fun j i y e1 e2 => cap.at j i y e1 (by
  rw [show 2 + j = j + 1 + 1 by omega] at e2; simpa using e2)⟩
end
end DL

namespace DL
open PySem PySem.Spec L2
noncomputable def RwIt (h : Heap) (i l : Addr) (xs : Array Value) (k : Nat) : Prop := (h.IsListIter i l k ∧ h.IsList l xs) ∨ (h.IsTupleIter i l k ∧ h.IsTuple l xs)
section
variable {h h' : Heap} {i l : Addr} {xs : Array Value} {k : Nat}
theorem RwIt.at (x : RwIt h i l xs k) (ei : ∀ o, h.get? i = some o → h'.get? i = some o) (el : ∀ o, h.get? l = some o → h'.get? l = some o) : RwIt h' i l xs k := by
 rcases x with ⟨⟨o, q, r⟩, ⟨p, u, v⟩⟩ | ⟨⟨o, q, r⟩, ⟨p, u, v⟩⟩
 ·exact .inl ⟨⟨o, ei o q, r⟩, ⟨p, el p u, v⟩⟩
 ·exact .inr ⟨⟨o, ei o q, r⟩, ⟨p, el p u, v⟩⟩
theorem RwIt.lt (x : RwIt h i l xs k) : i < h.objs.size := by
 rcases x with ⟨⟨o, q, r⟩, _⟩ | ⟨⟨o, q, r⟩, _⟩ <;> exact Heap.lt_size q
end
section
variable {prog : Program} {w : World} {A : Around} {E : Value → Shared → Prop} {s : Shared}
theorem b0N {it t : Addr} {i : Nat} {items : Array Value} {x : Value} {Q : Value → Shared → Prop} (hit : s.heap.IsTupleIter it t i) (ht : s.heap.IsTuple t items) (hx : items[i]? = some x)
  (hQ : ∀ h', h'.IsTupleIter it t (i + 1) → Heap.SameBut it s.heap h' → Q x { s with heap := h' }) : wpAny (model prog w) A (Builtin.SmallTypes.nextOf (.ref it)) Q E s := by
 obtain ⟨o, ho, hc, hd⟩ := id hit
 obtain ⟨ol, hol, _, nl, hdl⟩ := ht
 unfold Builtin.SmallTypes.nextOf
 refine wpAny_bind (wpAny_callSpecial?_slot (name := Str.ofString "__next__") hit.typeIs PySem.F.slot_tuple_iterator_next (wpAny_call_entry PySem.F.slot_tuple_iterator_next hit.typeIs PySem.F.entry_tuple_iterator_next ?_ (PySem.F.args_tuple_iterator_next_1 _)))
 show wpAny _ _ (field (.ref it) 0 >>= _) _ _ s
 refine wpAny_bind (wpAny_field ho hd (x := .ref t) rfl ?_)
 show wpAny _ _ (if (Value.ref t == Value.none) = true then _ else _) _ _ s
 rw [if_neg (show ¬ ((Value.ref t == Value.none) = true) from Bool.false_ne_true)]
 show wpAny _ _ (field (.ref it) 1 >>= _) _ _ s
 refine wpAny_bind (wpAny_field ho hd (x := .int i 0) rfl ?_)
 show wpAny _ _ (seqItems? (.ref t) >>= _) _ _ s
 refine wpAny_bind (wpAny_seqItems hol hdl ?_)
 simp only [Int.toNat_natCast, hx]
 refine wpAny_bind (wpAny_setField ho hd (by simp) (wpAny_pure ⟨x, rfl, wpAny_pure (hQ _ ?_ (Heap.SameBut.update ..))⟩))
 exact ⟨_, Heap.get?_update_self _ ho (Obj.isFreed_of_fields (Obj.data_mapFields hd _)), (Obj.cls_mapFields ..).trans hc, by rw [Obj.data_mapFields hd]; simp [rawInt]⟩
theorem b2N {it t : Addr} {i : Nat} {items : Array Value} {Q : Value → Shared → Prop} (hh : A.handled = none) (hit : s.heap.IsTupleIter it t i) (ht : s.heap.IsTuple t items) (hx : items[i]? = none)
  (hE : ∀ h' e, Heap.ExtBut it s.heap h' → (∃ o, h'.get? e = some o ∧ o.cls = .type "StopIteration") → E (.ref e) { s with heap := h' }) : wpAny (model prog w) A (Builtin.SmallTypes.nextOf (.ref it)) Q E s := by
 obtain ⟨o, ho, hc, hd⟩ := id hit
 obtain ⟨ol, hol, _, nl, hdl⟩ := ht
 unfold Builtin.SmallTypes.nextOf
 refine wpAny_bind (wpAny_callSpecial?_slot (name := Str.ofString "__next__") hit.typeIs PySem.F.slot_tuple_iterator_next (wpAny_call_entry PySem.F.slot_tuple_iterator_next hit.typeIs PySem.F.entry_tuple_iterator_next ?_ (PySem.F.args_tuple_iterator_next_1 _)))
 show wpAny _ _ (field (.ref it) 0 >>= _) _ _ s
 refine wpAny_bind (wpAny_field ho hd (x := .ref t) rfl ?_)
 show wpAny _ _ (if (Value.ref t == Value.none) = true then _ else _) _ _ s
 rw [if_neg (show ¬ ((Value.ref t == Value.none) = true) from Bool.false_ne_true)]
 show wpAny _ _ (field (.ref it) 1 >>= _) _ _ s
 refine wpAny_bind (wpAny_field ho hd (x := .int i 0) rfl ?_)
 show wpAny _ _ (seqItems? (.ref t) >>= _) _ _ s
 refine wpAny_bind (wpAny_seqItems hol hdl ?_)
 simp only [Int.toNat_natCast, hx]
 refine wpAny_bind (wpAny_rule (wpAny_bind (wpAny_setField ho hd (by simp) ?_)))
 show wpAny _ _ (newExc (.type "StopIteration") [] >>= _) _ _ _
 refine wpAny_bind ?_
 simp only [newExc, newTuple]
 refine wpAny_bind (wpAny_newObj_type ?_ (by size_fits))
 refine wpAny_bind (m := firstArgMember _ _) (wpAny_of_eq (a := Value.none) (by first | rfl | (simp only [firstArgMember]; rfl)) ?_)
 refine wpAny_newObj_type ?_ (by size_fits)
 simp only [raiseNew]
 refine wpAny_bind (wpAny_handled ?_)
 first | rw [show A.in1.handled = none from hh] | rw [hh]
 refine wpAny_bind (wpAny_pure (wpAny_throw ?_))
 exact hE _ _ (((Heap.SameBut.update ..).extBut.push _).push _) ⟨_, Heap.get?_push_size _ rfl, rfl⟩

theorem Y4 {it l : Addr} {i : Nat} {xs : Array Value} {x : Value} {Q : Value → Shared → Prop} (r : RwIt s.heap it l xs i) (hl : l ≠ it) (hx : xs[i]? = some x)
  (hQ : ∀ h', RwIt h' it l xs (i + 1) → Heap.SameBut it s.heap h' → Q x { s with heap := h' }) : wpAny (model prog w) A (Builtin.SmallTypes.nextOf (.ref it)) Q E s := by
 rcases r with ⟨a, b⟩ | ⟨a, b⟩
 ·exact wpAny_nextOf_list_item a b hx fun h' a' hs => hQ h' (.inl ⟨a', b.extBut hs.extBut hl⟩) hs
 ·exact b0N a b hx fun h' a' hs => hQ h' (.inr ⟨a', b.extBut hs.extBut hl⟩) hs
theorem a1T {it l : Addr} {i : Nat} {xs : Array Value} {Q : Value → Shared → Prop} (hh : A.handled = none) (r : RwIt s.heap it l xs i) (hx : xs[i]? = none)
  (hE : ∀ h' e, Heap.ExtBut it s.heap h' → (∃ o, h'.get? e = some o ∧ o.cls = .type "StopIteration") → E (.ref e) { s with heap := h' }) : wpAny (model prog w) A (Builtin.SmallTypes.nextOf (.ref it)) Q E s := by
 rcases r with ⟨a, b⟩ | ⟨a, b⟩
 ·exact wpAny_nextOf_list_end hh a b hx hE
 ·exact b2N hh a b hx hE

noncomputable abbrev E6 (h : Heap) (z TI TO : Addr) (f0 f1 : Value) : Prop := h.get? z = some { cls := .type "zip", dict := none, data := .fields #[f0, f1, .bool false, .ref TI, .ref TO], slots := #[] }
variable {z TI TO i1 i2 l1 l2 : Addr} {xs ys : Array Value} {k : Nat}

theorem a9G {x y a b : Value} {Q : Value → Shared → Prop} (D : ZipApart z TI TO i1 i2 l1 l2)
  (hz : E6 s.heap z TI TO .none (.bool false)) (hTI : IsPair s.heap TI (.ref i1) (.ref i2)) (hTO : IsPair s.heap TO a b) (h1 : RwIt s.heap i1 l1 xs k) (h2 : RwIt s.heap i2 l2 ys k) (hx : xs[k]? = some x) (hy : ys[k]? = some y)
  (hQ : ∀ h', E6 h' z TI TO (rawInt s.heap.objs.size) (.bool false) → RwIt h' i1 l1 xs (k + 1) → RwIt h' i2 l2 ys (k + 1) → IsPair h' s.heap.objs.size x y →
   (∀ c o, c ≠ z → c ≠ TO → c ≠ i1 → c ≠ i2 → s.heap.get? c = some o → h'.get? c = some o) → IsPair h' TO x y → Q (.ref s.heap.objs.size) { s with heap := h' }) :
  wpAny (model prog w) A (Builtin.«zip.__next__» ⟨[.ref z], []⟩) (fun fin s' => ∃ v, fin = .done (.ret v) ∧ Q v s') E s := by
 show wpAny _ _ (field (.ref z) 2 >>= _) _ _ _
 refine wpAny_bind (wpAny_field hz rfl (x := .bool false) rfl ?_)
 show wpAny _ _ (field (.ref z) 3 >>= _) _ _ _
 refine wpAny_bind (wpAny_field hz rfl (x := .ref TI) rfl ?_)
 refine wpAny_bind (wpAny_seqItems hTI rfl ?_)
 show wpAny _ _ (Builtin.SmallTypes.ownedTupleIsFree (.ref z) >>= _) _ _ _
 refine wpAny_bind ?_
 unfold Builtin.SmallTypes.ownedTupleIsFree
 refine wpAny_bind (wpAny_field hz rfl (x := .none) rfl (wpAny_pure ?_))
 simp only [if_true]
 refine wpAny_bind (wpAny_rule ?_)
 refine wpAny_bind (wpAny_field hz rfl (x := .ref TO) rfl ?_)
 refine wpAny_bind (wpAny_setField_rec hz (by simp) fun g1 z1 k1 => ?_)
 replace z1 : E6 g1 z TI TO .ellipsis (.bool false) := z1
 refine wpAny_bind ?_
 simp only [List.zipIdx_cons, List.zipIdx_nil, List.forIn_cons, List.forIn_nil]
 refine wpAny_bind (wpAny_bind (wpAny_onRaise ?_))
 show wpAny _ _ (Builtin.SmallTypes.nextOf (.ref i1) >>= _) _ _ _
 refine wpAny_bind (Y4 (h1.at (fun o e => k1.extBut _ o D.i1z e) fun o e => k1.extBut _ o D.l1z e) D.l1i1 hx fun g2 r2 k2 => wpAny_pure ?_)
 have o2 : IsPair g2 TO a b := k2.extBut _ _ D.TOi1 (k1.extBut _ _ D.TOz hTO)
 refine wpAny_bind (wpAny_seqItems o2 rfl ?_)
 refine wpAny_bind (wpAny_updateSeq_pair o2 fun g3 o3 k3 => ?_)
 replace o3 : IsPair g3 TO x b := o3
 refine wpAny_bind (wpAny_letGo (wpAny_pure ?_))
 refine wpAny_bind (wpAny_bind (wpAny_onRaise ?_))
 show wpAny _ _ (Builtin.SmallTypes.nextOf (.ref i2) >>= _) _ _ _
 refine wpAny_bind (Y4 (h2.at (fun o e => k3.extBut _ o D.TOi2.symm (k2.extBut _ o D.i12.symm (k1.extBut _ o D.i2z e))) fun o e => k3.extBut _ o D.l2TO (k2.extBut _ o D.l2i1 (k1.extBut _ o D.l2z e))) D.l2i2 hy fun g4 r4 k4 => wpAny_pure ?_)
 have o4 : IsPair g4 TO x b := k4.extBut _ _ D.TOi2 o3
 refine wpAny_bind (wpAny_seqItems o4 rfl ?_)
 refine wpAny_bind (wpAny_updateSeq_pair o4 fun g5 o5 k5 => ?_)
 replace o5 : IsPair g5 TO x y := o5
 refine wpAny_bind (wpAny_letGo (wpAny_pure (wpAny_pure ?_)))
 refine wpAny_bind (wpAny_seqItems o5 rfl ?_)
 refine wpAny_bind (wpAny_newTuple ?_)
 have sz : g5.objs.size = s.heap.objs.size := by rw [k5.1, k4.1, k3.1, k2.1, k1.1]
 have z5 : E6 g5 z TI TO .ellipsis (.bool false) := k5.extBut _ _ D.TOz.symm (k4.extBut _ _ D.i2z.symm (k3.extBut _ _ D.TOz.symm (k2.extBut _ _ D.i1z.symm z1)))
 have q5 : ∀ c o, c ≠ z → c ≠ TO → c ≠ i1 → c ≠ i2 → s.heap.get? c = some o → g5.get? c = some o := fun c o c1 c2 c3 c4 e =>
  k5.extBut _ _ c2 (k4.extBut _ _ c4 (k3.extBut _ _ c2 (k2.extBut _ _ c3 (k1.extBut _ _ c1 e))))
 have p1 : RwIt g5 i1 l1 xs (k + 1) := r2.at (fun o e => k5.extBut _ o D.TOi1.symm (k4.extBut _ o D.i12 (k3.extBut _ o D.TOi1.symm e))) fun o e => k5.extBut _ o D.l1TO (k4.extBut _ o D.l1i2 (k3.extBut _ o D.l1TO e))
 have p2 : RwIt g5 i2 l2 ys (k + 1) := r4.at (fun o e => k5.extBut _ o D.TOi2.symm e) fun o e => k5.extBut _ o D.l2TO e
 have zl : z < g5.objs.size := Heap.lt_size z5
 show wpAny _ _ (Builtin.SmallTypes.ownedTupleHandOut (.ref z) (.ref g5.objs.size) >>= _) _ _ _
 refine wpAny_bind ?_
 unfold Builtin.SmallTypes.ownedTupleHandOut
 have z6 : E6 (g5.push { cls := .type "tuple", data := .seq #[x, y] }) z TI TO .ellipsis (.bool false) := Heap.get?_push_of_some _ z5
 refine wpAny_bind (wpAny_setField_rec z6 (by simp) fun g7 z7 k7 => ?_)
 replace z7 : E6 g7 z TI TO (rawInt g5.objs.size) (.bool false) := z7
 refine wpAny_setField_rec z7 (by simp) fun g8 z8 k8 => ?_
 replace z8 : E6 g8 z TI TO (rawInt g5.objs.size) (.bool false) := z8
 have up : ∀ c o, c ≠ z → g5.get? c = some o → g8.get? c = some o := fun c o c1 e => k8.extBut _ _ c1 (k7.extBut _ _ c1 (Heap.get?_push_of_some _ e))
 have t8 : IsPair g8 g5.objs.size x y := k8.extBut _ _ (Nat.ne_of_gt zl) (k7.extBut _ _ (Nat.ne_of_gt zl) (Heap.get?_push_size _ rfl))
 rw [sz] at z8 t8
 refine wpAny_pure ⟨_, rfl, ?_⟩
 show Q (.ref g5.objs.size) _
 rw [sz]
 exact hQ g8 z8 (p1.at (fun o e => up _ o D.i1z e) fun o e => up _ o D.l1z e) (p2.at (fun o e => up _ o D.i2z e) fun o e => up _ o D.l2z e) t8 (fun c o c1 c2 c3 c4 e => up c o c1 (q5 c o c1 c2 c3 c4 e)) (up _ _ D.TOz o5)

theorem b2v {a b : Value} {Q : Fin → Shared → Prop} (hh : A.handled = none) (D : ZipApart z TI TO i1 i2 l1 l2)
  (hz : E6 s.heap z TI TO .none (.bool false)) (hTI : IsPair s.heap TI (.ref i1) (.ref i2)) (hTO : IsPair s.heap TO a b) (h1 : RwIt s.heap i1 l1 xs k) (h2 : RwIt s.heap i2 l2 ys k) (hend : xs[k]? = none ∨ ys[k]? = none)
  (hE : ∀ h' e, (∀ c o, c ≠ z → c ≠ TO → c ≠ i1 → c ≠ i2 → s.heap.get? c = some o → h'.get? c = some o) → (∃ o, h'.get? e = some o ∧ o.cls = .type "StopIteration") → E (.ref e) { s with heap := h' }) :
  wpAny (model prog w) A (Builtin.«zip.__next__» ⟨[.ref z], []⟩) Q E s := by
 show wpAny _ _ (field (.ref z) 2 >>= _) _ _ _
 refine wpAny_bind (wpAny_field hz rfl (x := .bool false) rfl ?_)
 show wpAny _ _ (field (.ref z) 3 >>= _) _ _ _
 refine wpAny_bind (wpAny_field hz rfl (x := .ref TI) rfl ?_)
 refine wpAny_bind (wpAny_seqItems hTI rfl ?_)
 show wpAny _ _ (Builtin.SmallTypes.ownedTupleIsFree (.ref z) >>= _) _ _ _
 refine wpAny_bind ?_
 unfold Builtin.SmallTypes.ownedTupleIsFree
 refine wpAny_bind (wpAny_field hz rfl (x := .none) rfl (wpAny_pure ?_))
 simp only [if_true]
 refine wpAny_bind (wpAny_rule ?_)
 refine wpAny_bind (wpAny_field hz rfl (x := .ref TO) rfl ?_)
 refine wpAny_bind (wpAny_setField_rec hz (by simp) fun g1 z1 k1 => ?_)
 replace z1 : E6 g1 z TI TO .ellipsis (.bool false) := z1
 refine wpAny_bind ?_
 simp only [List.zipIdx_cons, List.zipIdx_nil, List.forIn_cons, List.forIn_nil]
 refine wpAny_bind (wpAny_bind (wpAny_onRaise ?_))
 show wpAny _ _ (Builtin.SmallTypes.nextOf (.ref i1) >>= _) _ _ _
 cases hx : xs[k]? with
 | none =>
  refine wpAny_bind (a1T hh (h1.at (fun o e => k1.extBut _ o D.i1z e) fun o e => k1.extBut _ o D.l1z e) hx fun g2 e k2 he => ?_)
  obtain ⟨oe, hoe, hce⟩ := he
  have z2 : E6 g2 z TI TO .ellipsis (.bool false) := k2 _ _ D.i1z.symm z1
  have hez : e ≠ z := fun x => by subst x; rw [z2] at hoe; cases hoe; simp at hce
  exact wpAny_setField_rec z2 (by simp) fun g3 _ k3 => hE g3 e (fun c o c1 _ c3 _ x => k3.extBut _ _ c1 (k2 _ _ c3 (k1.extBut _ _ c1 x))) ⟨oe, k3.extBut _ _ hez hoe, hce⟩
 | some x =>
  have hy : ys[k]? = none := by
   rcases hend with h | h
   ·rw [hx] at h; cases h
   ·exact h
  refine wpAny_bind (Y4 (h1.at (fun o e => k1.extBut _ o D.i1z e) fun o e => k1.extBut _ o D.l1z e) D.l1i1 hx fun g2 r2 k2 => wpAny_pure ?_)
  have o2 : IsPair g2 TO a b := k2.extBut _ _ D.TOi1 (k1.extBut _ _ D.TOz hTO)
  refine wpAny_bind (wpAny_seqItems o2 rfl ?_)
  refine wpAny_bind (wpAny_updateSeq_pair o2 fun g3 o3 k3 => ?_)
  refine wpAny_bind (wpAny_letGo (wpAny_pure ?_))
  refine wpAny_bind (wpAny_bind (wpAny_onRaise ?_))
  show wpAny _ _ (Builtin.SmallTypes.nextOf (.ref i2) >>= _) _ _ _
  refine wpAny_bind (a1T hh (h2.at (fun o e => k3.extBut _ o D.TOi2.symm (k2.extBut _ o D.i12.symm (k1.extBut _ o D.i2z e))) fun o e => k3.extBut _ o D.l2TO (k2.extBut _ o D.l2i1 (k1.extBut _ o D.l2z e))) hy fun g4 e k4 he => ?_)
  obtain ⟨oe, hoe, hce⟩ := he
  have z4 : E6 g4 z TI TO .ellipsis (.bool false) := k4 _ _ D.i2z.symm (k3.extBut _ _ D.TOz.symm (k2.extBut _ _ D.i1z.symm z1))
  have hez : e ≠ z := fun x => by subst x; rw [z4] at hoe; cases hoe; simp at hce
  exact wpAny_setField_rec z4 (by simp) fun g5 _ k5 => hE g5 e (fun c o c1 c2 c3 c4 x => k5.extBut _ _ c1 (k4 _ _ c4 (k3.extBut _ _ c2 (k2.extBut _ _ c3 (k1.extBut _ _ c1 x))))) ⟨oe, k5.extBut _ _ hez hoe, hce⟩
end
end DL

namespace DL
open PySem PySem.Spec L2
section
variable {prog : Program} {w : World} {A : Around} {E : Value → Shared → Prop} {s : Shared}
variable {z TI TO i1 i2 l1 l2 : Addr} {xs ys : Array Value} {k : Nat}
theorem a8I {a : Addr} {o : Obj} {Q : Option Obj → Shared → Prop} (ho : s.heap.get? a = some o) (h : Q (some o) s) : wpAny (model prog w) A (loadIfAlive a) Q E s := by
 have h' : Q (s.heap.get? a) s := by rw [ho]; exact h
 exact fun _ _ _ => h'
theorem a6j {T : Addr} {f : Bool} {oT : Obj} {Q : Bool → Shared → Prop} (hz : E6 s.heap z TI TO (rawInt T) (.bool f)) (hT : s.heap.get? T = some oT)
  (hQ : ∀ h', E6 h' z TI TO (rawInt T) (.bool true) → Heap.SameBut z s.heap h' → Q false { s with heap := h' }) : wpAny (model prog w) A (Builtin.SmallTypes.ownedTupleIsFree (.ref z)) Q E s := by
 unfold Builtin.SmallTypes.ownedTupleIsFree
 refine wpAny_bind (wpAny_field hz rfl (x := rawInt T) rfl ?_)
 show wpAny _ _ (loadIfAlive ((T : Int).toNat) >>= _) _ _ _
 rw [Int.toNat_natCast]
 refine wpAny_bind (a8I hT ?_)
 simp only [Option.isNone_some, Bool.false_eq_true, if_false]
 refine wpAny_bind (wpAny_field hz rfl (x := .bool f) rfl ?_)
 cases f with
 | true =>
  rw [if_neg (show ¬ ((Value.bool true != Value.bool true) = true) from Bool.false_ne_true)]
  exact wpAny_pure (hQ s.heap hz (Heap.SameBut.refl _ _))
 | false =>
  rw [if_pos (show (Value.bool false != Value.bool true) = true from rfl)]
  exact wpAny_bind (wpAny_setField_rec hz (by simp) fun g gz gk => wpAny_pure (hQ g gz gk))

theorem a70 {x y : Value} {T : Addr} {f : Bool} {oT : Obj} {Q : Value → Shared → Prop} (D : ZipApart z TI TO i1 i2 l1 l2)
  (hz : E6 s.heap z TI TO (rawInt T) (.bool f)) (hT : s.heap.get? T = some oT) (hTI : IsPair s.heap TI (.ref i1) (.ref i2)) (h1 : RwIt s.heap i1 l1 xs k) (h2 : RwIt s.heap i2 l2 ys k) (hx : xs[k]? = some x) (hy : ys[k]? = some y)
  (hQ : ∀ h', E6 h' z TI TO (rawInt T) (.bool true) → RwIt h' i1 l1 xs (k + 1) → RwIt h' i2 l2 ys (k + 1) → IsPair h' s.heap.objs.size x y →
   (∀ c o, c ≠ z → c ≠ TO → c ≠ i1 → c ≠ i2 → s.heap.get? c = some o → h'.get? c = some o) → Q (.ref s.heap.objs.size) { s with heap := h' }) :
  wpAny (model prog w) A (Builtin.«zip.__next__» ⟨[.ref z], []⟩) (fun fin s' => ∃ v, fin = .done (.ret v) ∧ Q v s') E s := by
 show wpAny _ _ (field (.ref z) 2 >>= _) _ _ _
 refine wpAny_bind (wpAny_field hz rfl (x := .bool false) rfl ?_)
 show wpAny _ _ (field (.ref z) 3 >>= _) _ _ _
 refine wpAny_bind (wpAny_field hz rfl (x := .ref TI) rfl ?_)
 refine wpAny_bind (wpAny_seqItems hTI rfl ?_)
 show wpAny _ _ (Builtin.SmallTypes.ownedTupleIsFree (.ref z) >>= _) _ _ _
 refine wpAny_bind (a6j hz hT fun g1 z1 k1 => ?_)
 simp only [Bool.false_eq_true, if_false]
 simp only [List.forIn_toArray, List.forIn_cons, List.forIn_nil]
 refine wpAny_bind (wpAny_bind (wpAny_bind (wpAny_holding ?_)))
 show wpAny _ _ (Builtin.SmallTypes.nextOf (.ref i1) >>= _) _ _ _
 refine wpAny_bind (Y4 (h1.at (fun o e => k1.extBut _ o D.i1z e) fun o e => k1.extBut _ o D.l1z e) D.l1i1 hx fun g2 r2 k2 => wpAny_pure ?_)
 refine wpAny_pure ?_
 refine wpAny_bind (wpAny_bind (wpAny_holding ?_))
 show wpAny _ _ (Builtin.SmallTypes.nextOf (.ref i2) >>= _) _ _ _
 refine wpAny_bind (Y4 (h2.at (fun o e => k2.extBut _ o D.i12.symm (k1.extBut _ o D.i2z e)) fun o e => k2.extBut _ o D.l2i1 (k1.extBut _ o D.l2z e)) D.l2i2 hy fun g4 r4 k4 => wpAny_pure ?_)
 refine wpAny_pure (wpAny_pure ?_)
 show wpAny _ _ (newTuple [x, y] >>= _) _ _ _
 refine wpAny_bind (wpAny_newTuple (items := [x, y]) ?_ (show 2 ≤ sizeLine by decide))
 have sz : g4.objs.size = s.heap.objs.size := by rw [k4.1, k2.1, k1.1]
 have q4 : ∀ c o, c ≠ z → c ≠ i1 → c ≠ i2 → s.heap.get? c = some o → g4.get? c = some o := fun c o c1 c3 c4 e => k4.extBut _ _ c4 (k2.extBut _ _ c3 (k1.extBut _ _ c1 e))
 refine wpAny_pure ⟨_, rfl, ?_⟩
 show Q (.ref g4.objs.size) _
 rw [sz]
 refine hQ _ (Heap.get?_push_of_some _ (k4.extBut _ _ D.i2z.symm (k2.extBut _ _ D.i1z.symm z1)))
  (r2.at (fun o e => Heap.get?_push_of_some _ (k4.extBut _ o D.i12 e)) fun o e => Heap.get?_push_of_some _ (k4.extBut _ o D.l1i2 e))
  (r4.at (fun o e => Heap.get?_push_of_some _ e) fun o e => Heap.get?_push_of_some _ e) ?_ fun c o c1 c2 c3 c4 e => Heap.get?_push_of_some _ (q4 c o c1 c3 c4 e)
 rw [← sz]
 exact Heap.get?_push_size _ rfl

theorem b3h {T : Addr} {f : Bool} {oT : Obj} {Q : Fin → Shared → Prop} (hh : A.handled = none) (D : ZipApart z TI TO i1 i2 l1 l2)
  (hz : E6 s.heap z TI TO (rawInt T) (.bool f)) (hT : s.heap.get? T = some oT) (hTI : IsPair s.heap TI (.ref i1) (.ref i2)) (h1 : RwIt s.heap i1 l1 xs k) (h2 : RwIt s.heap i2 l2 ys k) (hend : xs[k]? = none ∨ ys[k]? = none)
  (hE : ∀ h' e, (∀ c o, c ≠ z → c ≠ TO → c ≠ i1 → c ≠ i2 → s.heap.get? c = some o → h'.get? c = some o) → (∃ o, h'.get? e = some o ∧ o.cls = .type "StopIteration") → E (.ref e) { s with heap := h' }) :
  wpAny (model prog w) A (Builtin.«zip.__next__» ⟨[.ref z], []⟩) Q E s := by
 show wpAny _ _ (field (.ref z) 2 >>= _) _ _ _
 refine wpAny_bind (wpAny_field hz rfl (x := .bool false) rfl ?_)
 show wpAny _ _ (field (.ref z) 3 >>= _) _ _ _
 refine wpAny_bind (wpAny_field hz rfl (x := .ref TI) rfl ?_)
 refine wpAny_bind (wpAny_seqItems hTI rfl ?_)
 show wpAny _ _ (Builtin.SmallTypes.ownedTupleIsFree (.ref z) >>= _) _ _ _
 refine wpAny_bind (a6j hz hT fun g1 z1 k1 => ?_)
 simp only [Bool.false_eq_true, if_false]
 simp only [List.forIn_toArray, List.forIn_cons, List.forIn_nil]
 refine wpAny_bind (wpAny_bind (wpAny_bind (wpAny_holding ?_)))
 show wpAny _ _ (Builtin.SmallTypes.nextOf (.ref i1) >>= _) _ _ _
 cases hx : xs[k]? with
 | none =>
  refine wpAny_bind (a1T hh (h1.at (fun o e => k1.extBut _ o D.i1z e) fun o e => k1.extBut _ o D.l1z e) hx fun g2 e k2 he => ?_)
  exact hE g2 e (fun c o c1 _ c3 _ x => k2 _ _ c3 (k1.extBut _ _ c1 x)) he
 | some x =>
  have hy : ys[k]? = none := by
   rcases hend with h | h
   ·rw [hx] at h; cases h
   ·exact h
  refine wpAny_bind (Y4 (h1.at (fun o e => k1.extBut _ o D.i1z e) fun o e => k1.extBut _ o D.l1z e) D.l1i1 hx fun g2 r2 k2 => wpAny_pure ?_)
  refine wpAny_pure ?_
  refine wpAny_bind (wpAny_bind (wpAny_holding ?_))
  show wpAny _ _ (Builtin.SmallTypes.nextOf (.ref i2) >>= _) _ _ _
  refine wpAny_bind (a1T hh (h2.at (fun o e => k2.extBut _ o D.i12.symm (k1.extBut _ o D.i2z e)) fun o e => k2.extBut _ o D.l2i1 (k1.extBut _ o D.l2z e)) hy fun g4 e k4 he => ?_)
  exact hE g4 e (fun c o c1 c2 c3 c4 x => k4 _ _ c4 (k2.extBut _ _ c3 (k1.extBut _ _ c1 x))) he

structure ZSt (h : Heap) (z TI TO i1 i2 l1 l2 S : Addr) (xs ys : Array Value) (k : Nat) : Prop where
 ti : IsPair h TI (.ref i1) (.ref i2)
 r1 : RwIt h i1 l1 xs k
 r2 : RwIt h i2 l2 ys k
 zz : (E6 h z TI TO .none (.bool false) ∧ ∃ a b, IsPair h TO a b) ∨ ∃ (T : Addr) (f : Bool) (oT : Obj), E6 h z TI TO (rawInt T) (.bool f) ∧ h.get? T = some oT ∧ T ≠ z ∧ T ≠ TO ∧ T ≠ i1 ∧ T ≠ i2 ∧ T ≠ S
theorem b0L {S : Addr} {x y : Value} {Q : Option Value → Shared → Prop} (D : ZipApart z TI TO i1 i2 l1 l2) (st : ZSt s.heap z TI TO i1 i2 l1 l2 S xs ys k) (hS : S < s.heap.objs.size) (hTO : TO < s.heap.objs.size) (hx : xs[k]? = some x) (hy : ys[k]? = some y)
  (hQ : ∀ h', ZSt h' z TI TO i1 i2 l1 l2 S xs ys (k + 1) → IsPair h' s.heap.objs.size x y → (∀ c o, c ∉ [z, TO, i1, i2] → s.heap.get? c = some o → h'.get? c = some o) → Q (some (.ref s.heap.objs.size)) { s with heap := h' }) :
  wpAny (model prog w) A (pyNext (.ref z)) Q E s := by
 obtain ⟨ti, r1, r2, zz⟩ := st
 have K : ∀ {h' : Heap}, (∀ c o, c ≠ z → c ≠ TO → c ≠ i1 → c ≠ i2 → s.heap.get? c = some o → h'.get? c = some o) → ∀ c o, c ∉ [z, TO, i1, i2] → s.heap.get? c = some o → h'.get? c = some o := fun k c o hc e => by
  simp only [List.mem_cons, List.not_mem_nil, or_false, not_or] at hc
  exact k c o hc.1 hc.2.1 hc.2.2.1 hc.2.2.2 e
 unfold pyNext
 rcases zz with ⟨hz, a, b, ho⟩ | ⟨T, f, oT, hz, hT, t1, t2, t3, t4, t5⟩
 ·have tz : s.TypeIs (.ref z) "zip" := ⟨_, hz, rfl⟩
  exact wpAny_bind (wpAny_attempt (wpAny_callSpecial?_slot (name := Str.ofString "__next__") tz PySem.F.slot_zip_next (wpAny_call_entry PySem.F.slot_zip_next tz PySem.F.entry_zip_next
   (a9G D hz ti ho r1 r2 hx hy fun h' a1 a2 a3 a4 a5 _ => wpAny_pure (hQ h' ⟨a5 _ _ D.TIz D.TITO D.TIi1 D.TIi2 ti, a2, a3, .inr ⟨_, _, _, a1, a4, Nat.ne_of_gt (Heap.lt_size hz), Nat.ne_of_gt hTO, Nat.ne_of_gt r1.lt, Nat.ne_of_gt r2.lt, Nat.ne_of_gt hS⟩⟩ a4 (K a5))) (PySem.F.args_zip_next_1 _))))
 ·have tz : s.TypeIs (.ref z) "zip" := ⟨_, hz, rfl⟩
  exact wpAny_bind (wpAny_attempt (wpAny_callSpecial?_slot (name := Str.ofString "__next__") tz PySem.F.slot_zip_next (wpAny_call_entry PySem.F.slot_zip_next tz PySem.F.entry_zip_next
   (a70 D hz hT ti r1 r2 hx hy fun h' a1 a2 a3 a4 a5 => wpAny_pure (hQ h' ⟨a5 _ _ D.TIz D.TITO D.TIi1 D.TIi2 ti, a2, a3, .inr ⟨T, true, oT, a1, a5 _ _ t1 t2 t3 t4 hT, t1, t2, t3, t4, t5⟩⟩ a4 (K a5))) (PySem.F.args_zip_next_1 _))))
theorem b0T {S : Addr} {Q : Option Value → Shared → Prop} (hh : A.handled = none) (D : ZipApart z TI TO i1 i2 l1 l2) (st : ZSt s.heap z TI TO i1 i2 l1 l2 S xs ys k) (hend : xs[k]? = none ∨ ys[k]? = none)
  (hQ : ∀ h', (∀ c o, c ∉ [z, TO, i1, i2] → s.heap.get? c = some o → h'.get? c = some o) → Q none { s with heap := h' }) : wpAny (model prog w) A (pyNext (.ref z)) Q E s := by
 obtain ⟨ti, r1, r2, zz⟩ := st
 have K : ∀ {h' : Heap}, (∀ c o, c ≠ z → c ≠ TO → c ≠ i1 → c ≠ i2 → s.heap.get? c = some o → h'.get? c = some o) → ∀ c o, c ∉ [z, TO, i1, i2] → s.heap.get? c = some o → h'.get? c = some o := fun k c o hc e => by
  simp only [List.mem_cons, List.not_mem_nil, or_false, not_or] at hc
  exact k c o hc.1 hc.2.1 hc.2.2.1 hc.2.2.2 e
 unfold pyNext
 rcases zz with ⟨hz, a, b, ho⟩ | ⟨T, f, oT, hz, hT, t1, t2, t3, t4, t5⟩
 ·have tz : s.TypeIs (.ref z) "zip" := ⟨_, hz, rfl⟩
  refine wpAny_bind (wpAny_attempt (wpAny_callSpecial?_slot (name := Str.ofString "__next__") tz PySem.F.slot_zip_next (wpAny_call_entry PySem.F.slot_zip_next tz PySem.F.entry_zip_next (b2v hh D hz ti ho r1 r2 hend fun h' e hk he => ?_) (PySem.F.args_zip_next_1 _))))
  obtain ⟨o, ho, hc⟩ := he
  refine wpAny_bind (wpAny_isInstance (T := "StopIteration") (b := true) ⟨o, ho, hc⟩ isSubtype_stop ?_)
  exact wpAny_pure (hQ _ (K hk))
 ·have tz : s.TypeIs (.ref z) "zip" := ⟨_, hz, rfl⟩
  refine wpAny_bind (wpAny_attempt (wpAny_callSpecial?_slot (name := Str.ofString "__next__") tz PySem.F.slot_zip_next (wpAny_call_entry PySem.F.slot_zip_next tz PySem.F.entry_zip_next (b3h hh D hz hT ti r1 r2 hend fun h' e hk he => ?_) (PySem.F.args_zip_next_1 _))))
  obtain ⟨o, ho, hc⟩ := he
  refine wpAny_bind (wpAny_isInstance (T := "StopIteration") (b := true) ⟨o, ho, hc⟩ isSubtype_stop ?_)
  exact wpAny_pure (hQ _ (K hk))
end
end DL

namespace DL
open PySem PySem.Spec L2
structure LW (prog : Program) (w : World) (A : Around) (I S : Addr) (wr : List Addr) (n : Nat) (P : Nat → Value → Heap → Prop) (St : Nat → Heap → Prop) : Prop where
 item : ∀ (i : Nat) (s : Shared) (Q : Option Value → Shared → Prop) (E : Value → Shared → Prop), i < n → St i s.heap → S < s.heap.objs.size →
  (∀ v h', P i v h' → St (i + 1) h' → (∀ j u, P j u s.heap → u ≠ v) → (∀ b o, b ∉ wr → s.heap.get? b = some o → h'.get? b = some o) → Q (some v) { s with heap := h' }) → wpAny (model prog w) A (pyNext (.ref I)) Q E s
 done : ∀ (s : Shared) (Q : Option Value → Shared → Prop) (E : Value → Shared → Prop), St n s.heap → (∀ h', (∀ b o, b ∉ wr → s.heap.get? b = some o → h'.get? b = some o) → Q none { s with heap := h' }) → wpAny (model prog w) A (pyNext (.ref I)) Q E s
 stay : ∀ i h h', St i h → (∀ b o, b ≠ S → h.get? b = some o → h'.get? b = some o) → St i h'
 pay : ∀ i v h h', P i v h → (∀ b o, b ≠ S → b ∉ wr → h.get? b = some o → h'.get? b = some o) → P i v h'
 self : ∀ (A : Around) (s : Shared) (Q : Value → Shared → Prop) (E : Value → Shared → Prop), St 0 s.heap → Q (.ref I) s → wpAny (model prog w) A (pyIter (.ref I)) Q E s
 out : S ∉ wr
section
variable {prog : Program} {w : World} {A : Around} {I S : Addr} {wr : List Addr} {n : Nat} {P : Nat → Value → Heap → Prop} {St : Nat → Heap → Prop} {s : Shared} {R : Result → Shared → Prop}
noncomputable def Got (P : Nat → Value → Heap → Prop) (h : Heap) (acc : Array Value) (i : Nat) : Prop := acc.size = i ∧ (∀ j v, acc[j]? = some v → P j v h) ∧ acc.toList.Nodup
noncomputable abbrev T5 (h : Heap) (S : Addr) (acc : Array Value) (c : Nat) : Prop := h.get? S = some { cls := .type "list", dict := none, data := .seq acc c, slots := #[] }
theorem a7s (W : LW prog w A.in1 I S wr n P St) (hn : n ≤ sizeLine) (res : Value) {h₁ : Heap}
  (hR : ∀ h' acc c, (∀ b o, b ≠ S → b ∉ wr → h₁.get? b = some o → h'.get? b = some o) → T5 h' S acc c → Got P h' acc n → R (.ok (.ret res)) { s with heap := h' }) :
  ∀ (k i : Nat) (h : Heap) (c : Nat) (acc : Array Value), n - i = k → i ≤ n → St i h → (∀ b o, b ≠ S → b ∉ wr → h₁.get? b = some o → h.get? b = some o) → T5 h S acc c → Got P h acc i →
   codeAny (model prog w) A (.builtin "list.extend.loop" ⟨[.ref S, .ref I, res], []⟩) R { s with heap := h } := by
 intro k
 induction k with
 | zero =>
  intro i h c acc hk hi hst kp hS hG
  have e : i = n := by omega
  subst e
  refine codeAny_builtin PySem.F.entry_extend_loop ?_
  rw [Around.under_plainId PySem.F.plain_extend_loop _]
  show wpAny _ A.in1 (pyNext (.ref I) >>= _) _ _ _
  refine wpAny_bind (W.done { s with heap := h } _ _ hst fun h' he => ?_)
  exact wpAny_pure (hR h' acc c (fun b o h1 h2 e => he b o h2 (kp b o h1 h2 e)) (he S _ W.out hS) ⟨hG.1, fun j v e => W.pay j v h h' (hG.2.1 j v e) fun b o _ h2 e => he b o h2 e, hG.2.2⟩)
 | succ k ih =>
  intro i h c acc hk hi hst kp hS hG
  have hlt : i < n := by omega
  refine codeAny_builtin PySem.F.entry_extend_loop ?_
  rw [Around.under_plainId PySem.F.plain_extend_loop _]
  show wpAny _ A.in1 (pyNext (.ref I) >>= _) _ _ _
  refine wpAny_bind (W.item i { s with heap := h } _ _ hlt hst (Heap.lt_size hS) fun v h' hP hst' hne he => ?_)
  dsimp only at he hne ⊢
  have hS' : T5 h' S acc c := he S _ W.out hS
  have up : ∀ b o, b ≠ S → h'.get? b = some o → (h'.update S (Obj.mapSeq (·.push v))).get? b = some o := fun b o hb e => (Heap.get?_update_other _ _ (Ne.symm hb)).trans e
  show wpAny _ A.in1 (updateSeq S (·.push v) >>= _) _ _ _
  refine wpAny_bind ?_
  have hsz := hG.1
  refine wpAny_updateSeq hS' rfl (wpAny_pure ⟨plainId_quiet PySem.F.plain_extend_loop _, ih (i + 1) _ _ (acc.push v) (by omega) hlt (W.stay _ h' _ hst' up)
   (fun b o h1 h2 e => up b o h1 (he b o h2 (kp b o h1 h2 e))) (Heap.get?_update_self _ hS' rfl) ⟨by rw [Array.size_push, hsz], fun j x hj => ?_, ?_⟩⟩) (by rw [hsz]; omega) (by show (acc.push v).size ≤ sizeLine + 1; rw [Array.size_push, hsz]; omega)
  ·rw [Array.getElem?_push] at hj
   split at hj
   ·rename_i e
    cases hj
    rw [e, hsz]
    exact W.pay i v h' _ hP fun b o h1 _ e => up b o h1 e
   ·exact W.pay j x h _ (hG.2.1 j x hj) fun b o h1 h2 e => up b o h1 (he b o h2 e)
  ·rw [Array.toList_push]
   refine List.nodup_append.mpr ⟨hG.2.2, by simp, fun a ha b hb => ?_⟩
   have e : b = v := by simpa using hb
   subst e
   obtain ⟨j, hj⟩ := List.mem_iff_getElem?.mp ha
   exact hne j a (hG.2.1 j a (by simpa using hj))

theorem b1q {T : String} (W : LW prog w A.in1 I S wr n P St) (hn : n ≤ sizeLine) (hT : s.TypeIs (.ref I) T) (hl : (Value.type T == Value.type "list") = false) (ht : (Value.type T == Value.type "tuple") = false)
  (nl : typeLookup (.type T) "__len__" = pure none) (nh : typeLookup (.type T) "__length_hint__" = pure none) (hst : St 0 s.heap) (hSI : S ≠ I) (res : Value) (c₀ : Nat) (hS : T5 s.heap S #[] c₀)
  (hR : ∀ h' acc c, (∀ b o, b ≠ S → b ∉ wr → s.heap.get? b = some o → h'.get? b = some o) → T5 h' S acc c → Got P h' acc n → R (.ok (.ret res)) { s with heap := h' }) :
  wpAny (model prog w) A.in1 (Builtin.List.listExtendWith (.ref S) (.ref I) res)
   (fun fin s' => match fin with | .done f => R (.ok f) s' | .again c' => c'.quiet = true ∧ codeAny (model prog w) A c' R s') (fun e s' => R (.error e) s') s := by
 have key : ∀ (h : Heap) (c₁ : Nat), (∀ b o, b ≠ S → s.heap.get? b = some o → h.get? b = some o) → T5 h S #[] c₁ →
   codeAny (model prog w) A (.builtin "list.extend.loop" ⟨[.ref S, .ref I, res], []⟩) R { s with heap := h } := fun h c₁ hk hS₁ =>
  a7s (h₁ := s.heap) W hn res hR n 0 h c₁ #[] (Nat.sub_zero _) (Nat.zero_le _) (W.stay 0 _ h hst hk) (fun b o h1 _ e => hk b o h1 e) hS₁ ⟨rfl, fun j v e => by simp at e, by simp⟩
 unfold Builtin.List.listExtendWith
 refine wpAny_bind (wpAny_typeOf hT ?_)
 have h1 : Builtin.List.listSameRef (.ref S) (.ref I) = false := by simp [Builtin.List.listSameRef, hSI]
 simp only [h1, hl, ht, Bool.or_false, Bool.false_eq_true, if_false]
 refine wpAny_bind (W.self _ _ _ _ hst ?_)
 refine wpAny_bind (wpAny_holding ?_)
 unfold Builtin.List.listLengthHint
 refine wpAny_bind (wpAny_specialOf hT nl ?_)
 show wpAny _ A.in1 (specialOf (Value.ref I) (Str.ofString "__length_hint__") >>= _) _ _ _
 refine wpAny_bind (wpAny_specialOf hT nh ?_)
 refine wpAny_pure ?_
 show wpAny _ A.in1 (rule "list.extend.makes-room" >>= fun _ => Builtin.List.listTouch (.ref S) >>= fun _ =>
  again (.builtin "list.extend.loop" ⟨[.ref S, .ref I, res], []⟩)) _ _ _
 refine wpAny_bind (wpAny_rule ?_)
 refine wpAny_bind ?_
 show wpAny _ A.in1 (updateSeq S (·.push .none) >>= fun _ => updateSeq S (·.pop)) _ _ _
 refine wpAny_bind (wpAny_updateSeq hS rfl ?_)
 have hS₂ := Heap.get?_update_self (Obj.mapSeq (·.push Value.none)) hS rfl
 refine wpAny_updateSeq (hz := by seq_fits) hS₂ rfl ?_
 have hS₃ := Heap.get?_update_self (Obj.mapSeq (·.pop)) hS₂ rfl
 refine wpAny_pure ⟨plainId_quiet PySem.F.plain_extend_loop _, key _ _ (fun b o hb e => ?_) hS₃⟩
 exact (Heap.get?_update_other _ _ (Ne.symm hb)).trans ((Heap.get?_update_other _ _ (Ne.symm hb)).trans e)

theorem b0W {T : String} {E : Value → Shared → Prop} {Q : Value → Shared → Prop} (W : LW prog w A.in1.in1 I s.heap.objs.size wr n P St) (hn : n ≤ sizeLine) (hT : s.TypeIs (.ref I) T) (hl : (Value.type T == Value.type "list") = false) (ht : (Value.type T == Value.type "tuple") = false)
  (nl : typeLookup (.type T) "__len__" = pure none) (nh : typeLookup (.type T) "__length_hint__" = pure none) (hst : St 0 s.heap)
  (hQ : ∀ h' acc c, (∀ b o, b ∉ wr → s.heap.get? b = some o → h'.get? b = some o) → T5 h' s.heap.objs.size acc c → Got P h' acc n → Q (.ref s.heap.objs.size) { s with heap := h' }) :
  wpAny (model prog w) A (call (.type "list") [.ref I]) Q E s := by
 refine callType_codes (Q₁ := fun obj s₁ => obj = .ref s.heap.objs.size ∧ s₁ = { s with heap := s.heap.push { cls := .type "list", data := .seq #[] } }) PySem.F.called_list (PySem.F.typeCall_list_1 _) PySem.F.entry_list_init
  (code_list_new _ ⟨rfl, rfl⟩) fun obj s₁ h₁ => ?_
 obtain ⟨rfl, rfl⟩ := h₁
 have hS : (s.heap.push { cls := .type "list", data := .seq #[] }).get? s.heap.objs.size = some { cls := .type "list", data := .seq #[] } := Heap.get?_push_size _ rfl
 obtain ⟨oI, hoI, hcI⟩ := id hT
 have hI : I < s.heap.objs.size := Heap.lt_size hoI
 refine ⟨⟨_, hS, rfl⟩, PySem.F.args_list_init_2 _ _, ?_⟩
 show wpAny _ _ (do let old ← Builtin.List.listItems (.ref s.heap.objs.size); Builtin.List.listUpdate (.ref s.heap.objs.size) (fun _ => #[]); letGo old.toList.reverse; Builtin.List.listExtendWith (.ref s.heap.objs.size) (.ref I) .none) _ _ _
 refine wpAny_bind ?_
 unfold Builtin.List.listItems
 refine wpAny_bind (wpAny_seqItems hS rfl (wpAny_pure ?_))
 show wpAny _ _ (updateSeq s.heap.objs.size (fun _ => #[]) >>= fun _ => letGo (#[] : Array Value).toList.reverse >>= fun _ => Builtin.List.listExtendWith (.ref s.heap.objs.size) (.ref I) .none) _ _ _
 refine wpAny_bind (wpAny_updateSeq hS rfl ?_)
 have hS₂ := Heap.get?_update_self (Obj.mapSeq (fun _ => (#[] : Array Value))) hS rfl
 have oth : ∀ b o, b ≠ s.heap.objs.size → s.heap.get? b = some o → ((s.heap.push { cls := .type "list", data := .seq #[] }).update s.heap.objs.size (Obj.mapSeq (fun _ => (#[] : Array Value)))).get? b = some o :=
  fun b o hb e => (Heap.get?_update_other _ _ (Ne.symm hb)).trans (Heap.get?_push_of_some _ e)
 refine wpAny_bind (wpAny_letGo ?_)
 refine b1q (A := A.in1) W hn ⟨oI, oth I _ (Nat.ne_of_lt hI) hoI, hcI⟩ hl ht nl nh (W.stay 0 s.heap _ hst oth) (Nat.ne_of_gt hI) .none _ hS₂ fun h' acc c hk hS' hG => ?_
 exact ⟨rfl, hQ h' acc c (fun b o h2 e => hk b o (Nat.ne_of_lt (Heap.lt_size e)) h2 (oth b o (Nat.ne_of_lt (Heap.lt_size e)) e)) hS' hG⟩
end
theorem a85 : typeLookup (.type "zip") "__len__" = pure none := by rw [typeLookup_type, builtinLookup_eq_fast]; kernel_rfl
theorem b1U : typeLookup (.type "zip") "__length_hint__" = pure none := by rw [typeLookup_type, builtinLookup_eq_fast]; kernel_rfl

theorem b20 {prog : Program} {w : World} {A : Around} {z TI TO i1 i2 l1 l2 S : Addr} {xs ys : Array Value} (hh : A.handled = none) (D : ZipApart z TI TO i1 i2 l1 l2) (hTO : TO < S) (hS : S ∉ [z, TI, TO, i1, i2, l1, l2]) (top : ∀ b ∈ [z, TO, i1, i2], b < S) :
  LW prog w A z S [z, TO, i1, i2] (min xs.size ys.size) (fun j v h => ∃ a x y, v = .ref a ∧ S ≤ a ∧ a ≠ S ∧ xs[j]? = some x ∧ ys[j]? = some y ∧ IsPair h a x y) (fun k h => ZSt h z TI TO i1 i2 l1 l2 S xs ys k) where
 item := fun i s Q E hi st hs hQ => by
  have hix : i < xs.size := Nat.lt_of_lt_of_le hi (Nat.min_le_left ..)
  have hiy : i < ys.size := Nat.lt_of_lt_of_le hi (Nat.min_le_right ..)
  exact b0L D st hs (Nat.lt_trans hTO hs) (Array.getElem?_eq_getElem hix) (Array.getElem?_eq_getElem hiy) fun h' a1 a2 a3 => hQ _ h' ⟨_, _, _, rfl, Nat.le_of_lt hs, Nat.ne_of_gt hs, Array.getElem?_eq_getElem hix, Array.getElem?_eq_getElem hiy, a2⟩ a1 (fun j u ⟨a, x, y, e, _, _, _, _, q⟩ z => by
   rw [e] at z; cases z; exact absurd (Heap.lt_size q) (Nat.lt_irrefl _)) a3
 done := fun s Q E st hQ => by
  have hend : xs[min xs.size ys.size]? = none ∨ ys[min xs.size ys.size]? = none := by
   rcases Nat.le_total xs.size ys.size with h | h
   ·exact .inl (by rw [Nat.min_eq_left h]; exact Array.getElem?_eq_none (Nat.le_refl _))
   ·exact .inr (by rw [Nat.min_eq_right h]; exact Array.getElem?_eq_none (Nat.le_refl _))
  exact b0T hh D st hend hQ
 stay := fun i h h' st k => by
  simp only [List.mem_cons, List.not_mem_nil, or_false, not_or] at hS
  obtain ⟨n1, n2, n3, n4, n5, n6, n7⟩ := hS
  obtain ⟨ti, r1, r2, zz⟩ := st
  refine ⟨k _ _ (Ne.symm n2) ti, r1.at (fun o e => k _ o (Ne.symm n4) e) (fun o e => k _ o (Ne.symm n6) e), r2.at (fun o e => k _ o (Ne.symm n5) e) (fun o e => k _ o (Ne.symm n7) e), ?_⟩
  rcases zz with ⟨hz, a, b, ho⟩ | ⟨T, f, oT, hz, hT, t1, t2, t3, t4, t5⟩
  ·exact .inl ⟨k _ _ (Ne.symm n1) hz, a, b, k _ _ (Ne.symm n3) ho⟩
  ·exact .inr ⟨T, f, oT, k _ _ (Ne.symm n1) hz, k _ _ t5 hT, t1, t2, t3, t4, t5⟩
 pay := fun i v h h' p k => by
  obtain ⟨a, x, y, e, ha, na, hx, hy, q⟩ := p
  refine ⟨a, x, y, e, ha, na, hx, hy, k _ _ na (fun hb => ?_) q⟩
  exact absurd (Nat.lt_of_lt_of_le (top a hb) ha) (Nat.lt_irrefl _)
 self := fun A s Q E st hQ => by
  have tz : s.TypeIs (.ref z) "zip" := by
   rcases st.zz with ⟨hz, _⟩ | ⟨T, f, oT, hz, _⟩ <;> exact ⟨_, hz, rfl⟩
  refine wpAny_pyIter_slot tz PySem.F.slot_zip_iter (wpAny_call_entry PySem.F.slot_zip_iter tz PySem.F.entry_zip_iter ?_ (PySem.F.args_zip_iter_1 _))
  show wpAny _ _ (ret (.ref z)) _ _ s
  exact wpAny_pure ⟨_, rfl, "zip", _, tz, PySem.F.slot_zip_next.lookup, hQ⟩
 out := fun h => hS (by
  simp only [List.mem_cons, List.not_mem_nil, or_false] at h ⊢
  rcases h with h | h | h | h <;> simp [h])
end DL

namespace DL
open PySem PySem.Spec L2
noncomputable def O0 (t : Bool) (l : Addr) : Obj := { cls := .type (if t then "tuple_iterator" else "list_iterator"), data := .fields #[.ref l, .int 0 0] }
noncomputable def RwB (t : Bool) (h : Heap) (l : Addr) (xs : Array Value) : Prop := if t then h.IsTuple l xs else h.IsList l xs
section
variable {prog : Program} {w : World} {A : Around} {E : Value → Shared → Prop} {s : Shared}
theorem a4t {t : Bool} {l : Addr} {xs : Array Value} {Q : Value → Shared → Prop} (h : RwB t s.heap l xs) (hQ : Q (.ref s.heap.objs.size) { s with heap := s.heap.push (O0 t l) }) : wpAny (model prog w) A (pyIter (.ref l)) Q E s := by
 cases t with
 | true => exact wpAny_pyIter_tuple h hQ
 | false => exact wpAny_pyIter_list h hQ
end
noncomputable abbrev zq1 (h : Heap) (t1 : Bool) (l1 : Addr) : Heap := h.push (O0 t1 l1)
noncomputable abbrev zq2 (h : Heap) (t1 t2 : Bool) (l1 l2 : Addr) : Heap := (zq1 h t1 l1).push (O0 t2 l2)
noncomputable abbrev zq3 (h : Heap) (t1 t2 : Bool) (l1 l2 : Addr) : Heap := (zq2 h t1 t2 l1 l2).push { cls := .type "tuple", data := .seq #[.ref h.objs.size, .ref (zq1 h t1 l1).objs.size] }
noncomputable abbrev zq4 (h : Heap) (t1 t2 : Bool) (l1 l2 : Addr) : Heap := (zq3 h t1 t2 l1 l2).push { cls := .type "tuple", data := .seq #[.none, .none] }
noncomputable abbrev zq5 (h : Heap) (t1 t2 : Bool) (l1 l2 : Addr) : Heap := (zq4 h t1 t2 l1 l2).push { cls := .type "zip", data := .fields #[.none, .bool false, .bool false, .ref (zq2 h t1 t2 l1 l2).objs.size, .ref (zq3 h t1 t2 l1 l2).objs.size] }
theorem RwB.push {t : Bool} {h : Heap} {l : Addr} {xs : Array Value} (x : RwB t h l xs) (o : Obj) : RwB t (h.push o) l xs := by
 cases t with
 | true => exact Heap.IsTuple.push x o
 | false => exact Heap.IsList.push x o
theorem b1p (t1 t2 : Bool) (l1 l2 : Addr) (xs ys : Array Value) :
  Meets (Builtin.«zip.__new__» ⟨[.type "zip", .ref l1, .ref l2], []⟩) (fun _ R s => RwB t1 s.heap l1 xs ∧ RwB t2 s.heap l2 ys ∧
   R (.ok (.ret (.ref (zq4 s.heap t1 t2 l1 l2).objs.size))) { s with heap := zq5 s.heap t1 t2 l1 l2 }) :=
 .of_wp fun prog w A R s h => by
  obtain ⟨hp, g, d, tk, os⟩ := s; obtain ⟨hl1, hl2, h⟩ := h
  have hsub := sub_zip
  have hL1 : RwB t1 (Shared.heap ⟨hp, g, d, tk, os⟩) l1 xs := hl1
  have hL2 : RwB t2 (Shared.heap ⟨hp.push (O0 t1 l1), g, d, tk, os⟩) l2 ys := RwB.push hl2 _
  wp_walk using a4t hL1, a4t hL2
  exact ⟨_, rfl, h⟩
section
variable {prog : Program} {w : World} {A : Around} {E : Value → Shared → Prop} {s : Shared}
theorem RwB.it {t : Bool} {h : Heap} {i l : Addr} {xs : Array Value} (x : RwB t h l xs) (e : h.get? i = some (O0 t l)) : RwIt h i l xs 0 := by
 cases t with
 | true => exact .inr ⟨⟨_, e, rfl, rfl⟩, x⟩
 | false => exact .inl ⟨⟨_, e, rfl, rfl⟩, x⟩
theorem RwB.at {t : Bool} {h h' : Heap} {l : Addr} {xs : Array Value} (x : RwB t h l xs) (e : ∀ o, h.get? l = some o → h'.get? l = some o) : RwB t h' l xs := by
 cases t with
 | true => obtain ⟨o, q, r⟩ := x; exact ⟨o, e o q, r⟩
 | false => obtain ⟨o, q, r⟩ := x; exact ⟨o, e o q, r⟩
theorem RwB.lt {t : Bool} {h : Heap} {l : Addr} {xs : Array Value} (x : RwB t h l xs) : l < h.objs.size := by
 cases t with
 | true => obtain ⟨o, q, r⟩ := x; exact Heap.lt_size q
 | false => obtain ⟨o, q, r⟩ := x; exact Heap.lt_size q
noncomputable def a6A (h : Heap) (m : Nat) (xs ys : Array Value) : Prop := ∃ l1 l2, ZipApart (m + 4) (m + 2) (m + 3) m (m + 1) l1 l2 ∧ l1 < m ∧ l2 < m ∧ h.objs.size = m + 5 ∧ ∀ S, m + 5 ≤ S → ZSt h (m + 4) (m + 2) (m + 3) m (m + 1) l1 l2 S xs ys 0
noncomputable def b2K (h : Heap) (m : Nat) (t1 t2 : Bool) (l1 l2 : Addr) : Prop := ZipApart (m + 4) (m + 2) (m + 3) m (m + 1) l1 l2 ∧ h.get? m = some (O0 t1 l1) ∧ h.get? (m + 1) = some (O0 t2 l2) ∧ IsPair h (m + 2) (.ref m) (.ref (m + 1)) ∧ E6 h (m + 4) (m + 2) (m + 3) .none (.bool false) ∧ ∃ a b, IsPair h (m + 3) a b
theorem a8H {t1 t2 : Bool} {l1 l2 : Addr} {xs ys : Array Value} {Q : Value → Shared → Prop} (h1 : RwB t1 s.heap l1 xs) (h2 : RwB t2 s.heap l2 ys)
  (h : ∀ h', a6A h' s.heap.objs.size xs ys → (∀ c o, s.heap.get? c = some o → h'.get? c = some o) → b2K h' s.heap.objs.size t1 t2 l1 l2 → Q (.ref (s.heap.objs.size + 4)) { s with heap := h' }) :
  wpAny (model prog w) A (call (.type "zip") [.ref l1, .ref l2]) Q E s := by
 refine callType_new PySem.F.called_zip (by decide) (PySem.F.typeCall_zip_2 _ _) (PySem.F.newCall_zip_2 _ _) (fun obj => PySem.F.args_object_init_3 obj _ _) PySem.F.entry_zip_new
  (b1p t1 t2 l1 l2 xs ys) ⟨h1, h2, ?_⟩
 have z1 : (zq1 s.heap t1 l1).objs.size = s.heap.objs.size + 1 := Heap.size_push ..
 have z2 : (zq2 s.heap t1 t2 l1 l2).objs.size = s.heap.objs.size + 2 := by rw [Heap.size_push, z1]
 have z3 : (zq3 s.heap t1 t2 l1 l2).objs.size = s.heap.objs.size + 3 := by rw [Heap.size_push, z2]
 have z4 : (zq4 s.heap t1 t2 l1 l2).objs.size = s.heap.objs.size + 4 := by rw [Heap.size_push, z3]
 have z5 : (zq5 s.heap t1 t2 l1 l2).objs.size = s.heap.objs.size + 5 := by rw [Heap.size_push, z4]
 have fr : ∀ t l, (O0 t l).isFreed = false := fun t l => rfl
 have g5 : (zq5 s.heap t1 t2 l1 l2).get? (zq4 s.heap t1 t2 l1 l2).objs.size = some _ := Heap.get?_push_size _ rfl
 have g4 : (zq5 s.heap t1 t2 l1 l2).get? (zq3 s.heap t1 t2 l1 l2).objs.size = some _ := Heap.get?_push_of_some _ (Heap.get?_push_size _ rfl)
 have g3 : (zq5 s.heap t1 t2 l1 l2).get? (zq2 s.heap t1 t2 l1 l2).objs.size = some _ := Heap.get?_push_of_some _ (Heap.get?_push_of_some _ (Heap.get?_push_size _ rfl))
 have g2 : (zq5 s.heap t1 t2 l1 l2).get? (zq1 s.heap t1 l1).objs.size = some (O0 t2 l2) := Heap.get?_push_of_some _ (Heap.get?_push_of_some _ (Heap.get?_push_of_some _ (Heap.get?_push_size _ (fr _ _))))
 have g1 : (zq5 s.heap t1 t2 l1 l2).get? s.heap.objs.size = some (O0 t1 l1) := Heap.get?_push_of_some _ (Heap.get?_push_of_some _ (Heap.get?_push_of_some _ (Heap.get?_push_of_some _ (Heap.get?_push_size _ (fr _ _)))))
 show _ ∧ _
 rw [z2, z3, z4] at g5
 rw [z1, z2] at g3
 rw [z3] at g4
 rw [z1] at g2
 rw [z4]
 have up : ∀ c o, s.heap.get? c = some o → (zq5 s.heap t1 t2 l1 l2).get? c = some o := fun c o x =>
  Heap.get?_push_of_some _ (Heap.get?_push_of_some _ (Heap.get?_push_of_some _ (Heap.get?_push_of_some _ (Heap.get?_push_of_some _ x))))
 refine ⟨⟨_, g5, rfl⟩, h _ ⟨l1, l2, PyProof.Rows.zipApart_new h1.lt h2.lt, h1.lt, h2.lt, z5, fun S hS => ⟨g3, (h1.at fun o e => up _ o e).it g1, (h2.at fun o e => up _ o e).it g2, .inl ⟨g5, _, _, g4⟩⟩⟩ up ⟨PyProof.Rows.zipApart_new h1.lt h2.lt, g1, g2, g3, g5, _, _, g4⟩⟩

structure LZ (h h' : Heap) (S : Addr) (xs ys : Array Value) (as : List Addr) (c : Nat) : Prop where
 keep : ∀ b o, h.get? b = some o → h'.get? b = some o
 low : h.objs.size ≤ S
 lst : T5 h' S (as.map Value.ref).toArray c
 len : as.length = min xs.size ys.size
 new : ∀ a ∈ as, h.objs.size ≤ a ∧ a ≠ S
 nd : as.Nodup
 at' : ∀ (j : Nat) a, as[j]? = some a → ∃ x y, xs[j]? = some x ∧ ys[j]? = some y ∧ IsPair h' a x y
theorem a9u {P : Nat → Value → Heap → Prop} {h : Heap} {acc : Array Value} {n : Nat} (g : Got P h acc n) (hp : ∀ j v, P j v h → ∃ a, v = .ref a) : ∃ as : List Addr, acc = (as.map Value.ref).toArray := by
 have : ∀ l : List Value, (∀ v ∈ l, ∃ a, v = Value.ref a) → ∃ as : List Addr, l = as.map Value.ref := by
  intro l
  induction l with
  | nil => exact fun _ => ⟨[], rfl⟩
  | cons v r ih =>
   intro hv
   obtain ⟨a, e⟩ := hv v (.head _)
   obtain ⟨as, e'⟩ := ih fun u hu => hv u (.tail _ hu)
   exact ⟨a :: as, by rw [e, e']; rfl⟩
 obtain ⟨as, e⟩ := this acc.toList fun v hv => by
  obtain ⟨j, hj⟩ := List.mem_iff_getElem?.mp hv
  exact hp j v (g.2.1 j v (by simpa using hj))
 exact ⟨as, by rw [← e, Array.toArray_toList]⟩
theorem b0Z {m : Nat} {h₀ : Heap} {xs ys : Array Value} {Q : Value → Shared → Prop} (hh : A.handled = none) (Z : a6A s.heap m xs ys) (k₀ : ∀ c o, h₀.get? c = some o → s.heap.get? c = some o) (hm : h₀.objs.size = m) (hn : xs.size ≤ sizeLine)
  (hQ : ∀ S h' as c, LZ h₀ h' S xs ys as c → Q (.ref S) { s with heap := h' }) : wpAny (model prog w) A (call (.type "list") [.ref (m + 4)]) Q E s := by
 obtain ⟨l1, l2, D, b1, b2, sz, st⟩ := Z
 have st0 := st s.heap.objs.size (by omega)
 have tz : s.TypeIs (.ref (m + 4)) "zip" := by
  rcases st0.zz with ⟨hz, _⟩ | ⟨T, f, oT, hz, _⟩ <;> exact ⟨_, hz, rfl⟩
 refine b0W (T := "zip") (b20 (A := A.in1.in1) hh D (show (m + 3 : Nat) < s.heap.objs.size by omega) (by
  simp only [List.mem_cons, List.not_mem_nil, or_false, not_or]
  have ms : m ≤ s.heap.objs.size := by omega
  exact ⟨show (s.heap.objs.size : Nat) ≠ m + 4 by omega, show (s.heap.objs.size : Nat) ≠ m + 2 by omega, show (s.heap.objs.size : Nat) ≠ m + 3 by omega, show (s.heap.objs.size : Nat) ≠ m by omega, show (s.heap.objs.size : Nat) ≠ m + 1 by omega,
   Nat.ne_of_gt (Nat.lt_of_lt_of_le b1 ms), Nat.ne_of_gt (Nat.lt_of_lt_of_le b2 ms)⟩) (by
  simp only [List.mem_cons, List.not_mem_nil, or_false]
  intro b hb
  have ml : ∀ j, j ≤ 4 → m + j < s.heap.objs.size := fun j _ => by omega
  rcases hb with e | e | e | e
  ·rw [e]; exact ml 4 (by omega)
  ·rw [e]; exact ml 3 (by omega)
  ·rw [e]; exact ml 0 (by omega)
  ·rw [e]; exact ml 1 (by omega))) (Nat.le_trans (Nat.min_le_left ..) hn) tz (by decide) (by decide) a85 b1U st0 fun h' acc c k l g => ?_
 obtain ⟨as, ea⟩ := a9u g fun j v ⟨a, _, _, e, _⟩ => ⟨a, e⟩
 subst ea
 refine hQ _ h' as c ⟨fun b o e => k b o (fun hb => ?_) (k₀ b o e), by omega, l, by simpa using g.1, fun a ha => ?_, ?_, fun j a e => ?_⟩
 ·have hl : b < m := hm ▸ Heap.lt_size e
  simp only [List.mem_cons, List.not_mem_nil, or_false] at hb
  have up : ∀ j : Nat, ¬ (m + j < m) := fun j => by omega
  rcases hb with e | e | e | e
  ·exact up 4 (e ▸ hl)
  ·exact up 3 (e ▸ hl)
  ·exact up 0 (e ▸ hl)
  ·exact up 1 (e ▸ hl)
 ·obtain ⟨j, hj⟩ := List.mem_iff_getElem?.mp ha
  obtain ⟨a', x, y, e, q1, q2, _⟩ := g.2.1 j (.ref a) (by simp [hj])
  cases e
  exact ⟨Nat.le_trans (show (h₀.objs.size : Nat) ≤ s.heap.objs.size by omega) q1, q2⟩
 ·have nd := g.2.2
  simp only [List.toList_toArray] at nd
  exact (List.pairwise_map.mp nd).imp fun h e => h (by rw [e])
 ·obtain ⟨a', x, y, e', q1, q2, q3, q4, q5⟩ := g.2.1 j (.ref a) (by simp [e])
  cases e'
  exact ⟨x, y, q3, q4, q5⟩
end
end DL

namespace DL
open PySem PySem.Spec L2
noncomputable def J6 (H : Hp) : List (Addr × List V) → Hp
 | [] => H
 | (a, p) :: r => upd (J6 H r) a (.tup p)
section
variable {H : Hp}
theorem a0l : ∀ {ps : List (Addr × List V)} {b : Addr}, (∀ q ∈ ps, q.1 ≠ b) → J6 H ps b = H b
 | [], b, h => rfl
 | (a, p) :: r, b, h => by
  show upd (J6 H r) a (.tup p) b = H b
  rw [u5 (Ne.symm (h _ (.head _)))]
  exact a0l fun q hq => h q (.tail _ hq)
theorem a6z : ∀ {ps : List (Addr × List V)} {b : Addr} {u : HO}, J6 H ps b = some u → (∃ p, (b, p) ∈ ps ∧ u = .tup p) ∨ H b = some u
 | [], b, u, h => .inr h
 | (a, p) :: r, b, u, h => by
  replace h : upd (J6 H r) a (.tup p) b = some u := h
  by_cases hb : b = a
  ·subst hb; rw [C9] at h; cases h; exact .inl ⟨p, .head _, rfl⟩
  ·rw [u5 hb] at h
   rcases a6z h with ⟨p', q, e⟩ | e
   ·exact .inl ⟨p', .tail _ q, e⟩
   ·exact .inr e
theorem a4U : ∀ {ps : List (Addr × List V)} {b : Addr} {p : List V}, (ps.map (·.1)).Nodup → (b, p) ∈ ps → J6 H ps b = some (.tup p)
 | (a, p') :: r, b, p, nd, h => by
  show upd (J6 H r) a (.tup p') b = _
  rcases List.mem_cons.mp h with e | h
  ·cases e; exact C9
  ·have nd' := List.nodup_cons.mp nd
   have hb : b ≠ a := fun e => nd'.1 (e ▸ List.mem_map.mpr ⟨(b, p), h, rfl⟩)
   rw [u5 hb]
   exact a4U nd'.2 h
end
theorem a7V {fs ex : List Addr} {H H' : Hp} {h h' : Heap} (k : ∀ b u, h.get? b = some u → h'.get? b = some u) (hn : ∀ b, b < h.objs.size → H' b = H b) (hs : ∀ b u, H b = some u → H' b = some u) : Un fs ex H H' h h' where
 keep := fun b u q _ _ _ => k b u q
 slot := fun b u q _ _ _ => ⟨u.slots, k b u q⟩
 free := fun b u q n _ => by rw [hn b (Heap.lt_size q)]; exact n
 there := fun b u q _ => ⟨u, k b u q⟩
 tups := fun b xs q => hs b _ q
 frzs := fun b u xs q => hs b _ q
 tbls := fun b ps q => ⟨#[], by rw [hs b _ q]; simp⟩
noncomputable def prs (xs ys : List V) : List (List V) := List.zipWith (fun x y => [x, y]) xs ys
theorem a9l {xs ys : List V} {j : Nat} {p : List V} (e : (prs xs ys)[j]? = some p) : ∃ x y, xs[j]? = some x ∧ ys[j]? = some y ∧ p = [x, y] := by
 unfold prs at e
 rw [List.getElem?_zipWith] at e
 cases hx : xs[j]? with
 | none => rw [hx] at e; simp at e
 | some x =>
  cases hy : ys[j]? with
  | none => rw [hx, hy] at e; simp at e
  | some y => rw [hx, hy] at e; simp at e; exact ⟨x, y, rfl, rfl, e.symm⟩
noncomputable def Sq (K : PySem.W.Frag) (H : Hp) (a : Addr) (xs : List V) : Prop := SqL K H a xs ∨ SqT K H a xs
noncomputable def rLZ (K : PySem.W.Frag) : List V → Hp → VK → Prop := fun vs H Q => ∃ p q xs ys, vs = [.ref p, .ref q] ∧ Sq K H p xs ∧ Sq K H q ys ∧
 ∀ S as, (S :: as).Nodup → (∀ a ∈ S :: as, H a = none) → as.length = (prs xs ys).length → Q (.ref S) (upd (J6 H (as.zip (prs xs ys))) S (.lst (as.map V.ref)))
section
variable {X : Cx} {pins : List (Addr × Obj)} {σ : St} {H : Hp} {s : Shared}
theorem a5I (I : Inv X pins σ H s) {p : Addr} {xs : List V} (h : Sq X.K H p xs) : ∃ (t : Bool) (its : List Value), Vals xs its ∧ RwB t s.heap p its.toArray ∧ xs.length ≤ sizeLine := by
 rcases h with h | h
 ·obtain ⟨its, r, ⟨o, n, e, c, _, d⟩, z⟩ := I.list h
  exact ⟨false, its, r, ⟨o, e, c, n, d⟩, z⟩
 ·obtain ⟨its, r, ⟨o, e, c, n, d⟩, z⟩ := I.tuple h
  exact ⟨true, its, r, ⟨o, e, c, n, d⟩, z⟩
theorem a7f {as : List Addr} {ps : List (List V)} (h : as.length = ps.length) : (as.zip ps).map (·.1) = as := by
 rw [List.map_fst_zip (by omega)]
theorem Inv.lz {xs ys : List V} {it jt : List Value} {S : Addr} {h' : Heap} {as : List Addr} {c : Nat} (I : Inv X pins σ H s) (rx : Vals xs it) (ry : Vals ys jt) (zx : xs.length ≤ sizeLine) (Z : LZ s.heap h' S it.toArray jt.toArray as c) :
  (S :: as).Nodup ∧ (∀ a ∈ S :: as, H a = none) ∧ as.length = (prs xs ys).length ∧ Inv X pins σ (upd (J6 H (as.zip (prs xs ys))) S (.lst (as.map V.ref))) { s with heap := h' } := by
 have hl : as.length = (prs xs ys).length := by
  have e := Z.len
  simp only [List.size_toArray] at e
  rw [e, prs, List.length_zipWith, rx.length, ry.length]
 have fr : ∀ a ∈ S :: as, s.heap.objs.size ≤ a := fun a ha => by
  rcases List.mem_cons.mp ha with e | e
  ·rw [e]; exact Z.low
  ·exact (Z.new a e).1
 have nn : ∀ a ∈ S :: as, H a = none := fun a ha => I.hok.fresh (fr a ha)
 have nd : (S :: as).Nodup := List.nodup_cons.mpr ⟨fun h => (Z.new S h).2 rfl, Z.nd⟩
 have ky := a7f hl
 have ndz : ((as.zip (prs xs ys)).map (·.1)).Nodup := by rw [ky]; exact Z.nd
 have kin : ∀ q ∈ as.zip (prs xs ys), q.1 ∈ as := fun q hq => (List.of_mem_zip hq).1
 refine ⟨nd, nn, hl, ?_⟩
 have hs : ∀ b u, H b = some u → upd (J6 H (as.zip (prs xs ys))) S (.lst (as.map V.ref)) b = some u := fun b u e => by
  have n : ∀ a ∈ S :: as, a ≠ b := fun a ha z => by rw [z] at ha; rw [nn b ha] at e; cases e
  rw [u5 (Ne.symm (n S (.head _))), a0l fun q hq => n _ (.tail _ (kin q hq))]
  exact e
 refine I.un (t' := s.toks) (a7V Z.keep (fun b hb => ?_) hs) fun b u e => ?_
 ·have n : ∀ a ∈ S :: as, a ≠ b := fun a ha z => absurd (Nat.lt_of_lt_of_le hb (z ▸ fr a ha)) (Nat.lt_irrefl _)
  rw [u5 (Ne.symm (n S (.head _))), a0l fun q hq => n _ (.tail _ (kin q hq))]
 ·by_cases hb : b = S
  ·subst hb
   rw [C9] at e; cases e
   refine ⟨?_, as.map Value.ref, c, ?_, Z.lst⟩
   ·rw [List.length_map, hl, prs, List.length_zipWith]
    exact Nat.le_trans (Nat.min_le_left ..) zx
   ·have : ∀ l : List Addr, Vals (l.map V.ref) (l.map Value.ref) := fun l => by
     induction l with
     | nil => exact .nil
     | cons a r ih => exact .cons rfl ih
    exact this as
  ·rw [u5 hb] at e
   rcases a6z e with ⟨p, hp, rfl⟩ | e0
   ·obtain ⟨j, hj⟩ := List.mem_iff_getElem?.mp hp
    obtain ⟨ha, hpj⟩ := List.getElem?_zip_eq_some.mp hj
    obtain ⟨x, y, ex, ey, rfl⟩ := a9l hpj
    obtain ⟨x', y', ex', ey', q⟩ := Z.at' j b ha
    obtain ⟨u1, f1, g1⟩ := rx.get ex
    obtain ⟨u2, f2, g2⟩ := ry.get ey
    have e1 : u1 = x' := by simpa [f1] using ex'
    have e2 : u2 = y' := by simpa [f2] using ey'
    subst e1; subst e2
    exact ⟨show 2 ≤ sizeLine by decide, [u1, u2], .cons g1 (.cons g2 .nil), ⟨_, q, rfl, _, rfl⟩⟩
   ·exact (I.hok b u e0).stay (fun c v _ q => Z.keep c v q) (fun c q => hs c _ q) fun c xs q => hs c _ q
end
section
variable {X : Cx} {p p' pos pos' : Pos} {e : Expr} {es : List Expr} {t : TA}
theorem a9M (hc : X.calm = true) (hgl : Gl X "list") (hml : X.mg "list" = none) (hgz : Gl X "zip") (hmz : X.mg "zip" = none) (ha : PA X (e :: es) t)
  (he : starEach (e :: es) X.env = (false, eval e X.env) :: starEach es X.env := by rfl) (hpl : (backTo pos' (starEach es X.env)).any (·.1) = false := by rfl)
  (he2 : starEach [.Call (.Name "zip" p') (e :: es) [] pos'] X.env = [(false, eval (.Call (.Name "zip" p') (e :: es) [] pos') X.env)] := by rfl) :
  PE X (.Call (.Name "list" p) [.Call (.Name "zip" p') (e :: es) [] pos'] [] pos) (tCB (rLZ X.K) t) := by
 intro pins s σ H Q I h
 refine wpAny_Call_Name_kw (W7 I hgl hml (show bootBuiltins ("list" : Str) = some (.type "list") by decide +kernel) ?_ (by decide) (by decide))
 refine PyProof.Rows.callWith_type1 ?_ he2 rfl
 rw [he2]
 show wpAny _ _ (spliced [(false, eval (.Call (.Name "zip" p') (e :: es) [] pos') X.env)]) _ _ s
 refine Calls.spliced_cons ?_
 refine wpAny_Call_Name_kw (W7 I hgz hmz (show bootBuiltins ("zip" : Str) = some (.type "zip") by decide +kernel) ?_ (by decide) (by decide))
 refine PyProof.Rows.callWith_type1 (thn (ha pos' pins s σ H _ I h) fun us s1 ⟨vs, H1, I1, r1, q1⟩ => ?_) he hpl
 obtain ⟨a, b, xs, ys, rfl, qa, qb, k⟩ := q1
 obtain ⟨u1, u2, rfl, e1, e2⟩ : ∃ u1 u2, us = [u1, u2] ∧ u1 = Value.ref a ∧ u2 = Value.ref b := by
  cases r1 with
  | cons h1 r1 =>
   cases r1 with
   | cons h2 r1 => cases r1; exact ⟨_, _, rfl, h1, h2⟩
 subst e1; subst e2
 obtain ⟨ta, it, rx, wa, za⟩ := a5I I1 qa
 obtain ⟨tb, jt, ry, wb, zb⟩ := a5I I1 qb
 refine a8H wa wb fun h1 Z1 k1 _ => ?_
 refine Calls.spliced_nil ?_
 refine b0Z (h₀ := s1.heap) (I.ok.hd hc) Z1 k1 rfl (by simpa [← rx.length] using za) fun S h2 as c Z => ?_
 obtain ⟨nd, nn, hl, I2⟩ := Inv.lz I1 rx ry za Z
 exact ⟨.ref S, _, I2, rfl, k S as nd nn hl⟩
end
end DL

namespace DL
open PySem PySem.Spec L2
noncomputable def W2 : D → Option (List D)
 | .tup ds => some ds
 | .lst ds => some ds
 | _ => none
noncomputable def a0x (x y : D) : D := .tup [x, y]
noncomputable def X8 : List D → Option (List D)
 | [a, b] => (W2 a).bind fun xs => (W2 b).map fun ys => List.zipWith a0x xs ys
 | _ => none
theorem a6U {g : Gh} {K : PySem.W.Frag} {σ : L2.St} {H : Hp} {fa : Option Addr} {O : List Addr} {s : DS} (I : GI K g σ H fa O s) : ∀ (ps : List (Addr × List V)), (ps.map (·.1)).Nodup → (∀ q ∈ ps, H q.1 = none) → GI K g σ (J6 H ps) fa O s ∧ StE fa O H fa O (J6 H ps)
 | [], _, _ => ⟨I, StE.refl⟩
 | (a, p) :: r, nd, h => by
  have nd' := List.nodup_cons.mp nd
  obtain ⟨I1, s1⟩ := a6U I r nd'.2 fun q hq => h q (.tail _ hq)
  have hn : J6 H r a = none := by
   rw [a0l fun q hq z => nd'.1 (List.mem_map.mpr ⟨q, hq, z⟩)]
   exact h _ (.head _)
  exact ⟨I1.new hn, s1.trans (E8 hn)⟩
theorem a47 {K : PySem.W.Frag} {N : Addr → Prop} {fa : Option Addr} {H : Hp} : ∀ {ds es : List D} {xs ys : List V} {as : List Addr}, Reps K N fa H ds xs → Reps K N fa H es ys → as.length = (prs xs ys).length → (∀ q ∈ as.zip (prs xs ys), H q.1 = some (.tup q.2)) →
  Reps K N fa H (List.zipWith a0x ds es) (as.map V.ref)
 | [], es, xs, ys, as, h, q, l, k => by
  simp only [Reps] at h; subst h
  simp only [prs, List.zipWith_nil_left, List.length_nil] at l
  rw [List.eq_nil_of_length_eq_zero l]
  simp only [List.zipWith_nil_left, List.map_nil, Reps]
 | d :: r, [], xs, ys, as, h, q, l, k => by
  simp only [Reps] at q; subst q
  simp only [prs, List.zipWith_nil_right, List.length_nil] at l
  rw [List.eq_nil_of_length_eq_zero l]
  simp only [List.zipWith_nil_right, List.map_nil, Reps]
 | d :: r, e :: f, xs, ys, as, h, q, l, k => by
  simp only [Reps] at h q
  obtain ⟨x, xs', rfl, h1, h2⟩ := h
  obtain ⟨y, ys', rfl, q1, q2⟩ := q
  cases as with
  | nil => simp [prs] at l
  | cons a as =>
   have hz : (a :: as).zip (prs (x :: xs') (y :: ys')) = (a, [x, y]) :: as.zip (prs xs' ys') := rfl
   rw [hz] at k
   simp only [List.zipWith_cons_cons, List.map_cons, Reps]
   refine ⟨_, _, rfl, ?_, a47 h2 q2 (by simpa [prs] using l) fun q hq => k q (.tail _ hq)⟩
   simp only [a0x, Rep, Reps]
   exact ⟨a, [x, y], rfl, SqT.of (k _ (.head _)), x, [y], rfl, h1, y, [], rfl, q1, rfl⟩
theorem a5q {K : PySem.W.Frag} {N : Addr → Prop} {fa : Option Addr} {H : Hp} {d : D} {v : V} {ds : List D} (r : RepB K N fa H d v) (e : W2 d = some ds) : ∃ a xs, v = .ref a ∧ Sq K H a xs ∧ Reps K N fa H ds xs := by
 cases d with
 | tup es =>
  cases e
  simp only [RepB, Rep] at r
  obtain ⟨a, ys, rfl, q, w⟩ := r
  exact ⟨a, ys, rfl, .inr q, w⟩
 | lst es =>
  cases e
  obtain ⟨a, ys, rfl, _, q, w⟩ := r
  exact ⟨a, ys, rfl, .inl (SqL.of q), w⟩
 | _ => cases e
theorem a7L {K : PySem.W.Frag} : RCF K (rLZ K) X8 := by
 intro g σ H fa O s xs ds es Q I rs e k
 match ds, e with
 | [d1, d2], e =>
  refine R8 (show (W2 d1).bind (fun xs => (W2 d2).map fun ys => List.zipWith a0x xs ys) = some es from e) fun xs1 e1 e => ?_
  refine J3 e fun ys1 e2 e => ?_
  subst e
  simp only [P6] at rs
  obtain ⟨x, zs, rfl, r1, y, zs', rfl, r2, rfl⟩ := rs
  obtain ⟨a, vs, rfl, q1, w1⟩ := a5q r1 e1
  obtain ⟨b, us, rfl, q2, w2⟩ := a5q r2 e2
  refine ⟨a, b, vs, us, rfl, q1, q2, fun S as nd nn hl => ?_⟩
  have nd' := List.nodup_cons.mp nd
  have ky := a7f hl
  have kin : ∀ q ∈ as.zip (prs vs us), q.1 ∈ as := fun q hq => (List.of_mem_zip hq).1
  have ndz : ((as.zip (prs vs us)).map (·.1)).Nodup := by rw [ky]; exact nd'.2
  obtain ⟨I1, s1⟩ := a6U I (as.zip (prs vs us)) ndz fun q hq => nn _ (.tail _ (kin q hq))
  have hS : J6 H (as.zip (prs vs us)) S = none := by
   rw [a0l fun q hq (z : q.1 = S) => nd'.1 (by rw [← z]; exact kin q hq)]
   exact nn S (.head _)
  have rp := a47 (Reps.stp I s1.stp w1) (Reps.stp I s1.stp w2) hl fun q hq => a4U (b := q.1) (p := q.2) ndz hq
  exact k S (as.map V.ref) _ (s1.trans (E8 hS)) (T7 I1 hS rp) (nn S (.head _))
section
variable {X : Cx} {g : Gh} {p p' pos pos' : Pos} {e : Expr} {es : List Expr} {t : DA}
theorem a6E (hc : X.calm = true) (hgl : Gl X "list") (hml : X.mg "list" = none) (hgz : Gl X "zip") (hmz : X.mg "zip" = none) (ha : BAO X g (e :: es) t)
  (he : starEach (e :: es) X.env = (false, eval e X.env) :: starEach es X.env := by rfl) (hpl : (backTo pos' (starEach es X.env)).any (·.1) = false := by rfl)
  (he2 : starEach [.Call (.Name "zip" p') (e :: es) [] pos'] X.env = [(false, eval (.Call (.Name "zip" p') (e :: es) [] pos') X.env)] := by rfl) :
  FO X g (.Call (.Name "list" p) [.Call (.Name "zip" p') (e :: es) [] pos'] [] pos) (dCF X8 t) :=
 FO.w (a9M hc hgl hml hgz hmz ha.pe he hpl he2) (a5v a7L)
end
end DL

namespace DL
open PySem PySem.Spec L2
section
variable {X : Cx} {g : Gh} {scope : Scope} {cl : List (Str × Addr)} {idx : List Nat} {iter elt : Expr} {ifs : List Expr} {pos : Pos} {fi : DA} {fc : DT} {fe : DE} {x y : Str} {px py pp : Pos} {kt : Nat} {caps : List Str}
theorem b2p (hc : X.calm = true) (k : CompOk X scope cl (x :: y :: caps) 2 idx) (hi : IO X g (.Tuple [.Name x px, .Name y py] kt pp) iter fi) (nd : (x :: y :: caps).Nodup)
  (hx : ∀ C s0 H0 ex, (blk X (x :: y :: caps) scope cl C s0 H0 ex).env.scope.names.lookup x = some .local) (hy : ∀ C s0 H0 ex, (blk X (x :: y :: caps) scope cl C s0 H0 ex).env.scope.names.lookup y = some .local)
  (ht : ∀ C s0 H0 ex g', a1h (blk X (x :: y :: caps) scope cl C s0 H0 ex) g' ifs fc) (he : ∀ C s0 H0 ex g', EO (blk X (x :: y :: caps) scope cl C s0 H0 ex) g' elt fe) (hs : ∀ x, foldedSetIterable iter X.env x = pure x := by intro _; rfl) :
  FO X g (.ListComp elt [⟨.Tuple [.Name x px, .Name y py] kt pp, iter, ifs, 0⟩] scope pos) (Z5 idx fi fc fe) :=
 a8x (G := a5B X.K 2 (a4h (V1 0) (a4h (V1 1) a6N))) hc k hi (fun C s0 H0 ex => a5H (X := blk X (x :: y :: caps) scope cl C s0 H0 ex) (n := 2) hc (a4a (X := blk X (x :: y :: caps) scope cl C s0 H0 ex) (A3 (X := blk X (x :: y :: caps) scope cl C s0 H0 ex) (i := 0) nd rfl (Or.inl (hx C s0 H0 ex)) (Or.inr (hx C s0 H0 ex))) (a4a (X := blk X (x :: y :: caps) scope cl C s0 H0 ex) (A3 (X := blk X (x :: y :: caps) scope cl C s0 H0 ex) (i := 1) nd rfl (Or.inl (hy C s0 H0 ex)) (Or.inr (hy C s0 H0 ex))) a5x)))
  (fun a x y σ H Q h q => ⟨a, [x, y], rfl, h, rfl, x, [y], rfl, y, [], rfl, rfl, q⟩) ht he hs
end
end DL

namespace DL
open PySem PySem.Spec L2
section
variable {X : Cx} {g : Gh} {scope : Scope} {cl : List (Str × Addr)} {N' : List Str} {idx : List Nat} {iter elt tg : Expr} {ifs : List Expr} {pos : Pos} {fi : DA} {fc : DT} {fe : DE}
end
section
variable {X : Cx} {g : Gh} {scope : Scope} {cl : List (Str × Addr)} {idx : List Nat} {iter elt : Expr} {ifs : List Expr} {pos : Pos} {fi : DA} {fc : DT} {fe : DE} {x y : Str} {px py pp : Pos} {kt : Nat} {caps : List Str}
end
end DL

namespace DL
open PySem PySem.Spec L2
section
variable {X : Cx} {g : Gh}
end
end DL

namespace DL
open PySem PySem.Spec L2 PyProof.Rows
section
variable {X : Cx} {g : Gh} {a st : Expr} {fa fs : DE} {pos p2 : Pos}
end
end DL

namespace DL
open PySem PySem.Spec L2 PyProof.Rows
section
variable {X : Cx} {K : PySem.W.Frag}
end
end DL

namespace DL
open PySem PySem.Spec L2 PyProof.Rows
section
variable {X : Cx} {g : Gh}
end
end DL

namespace L2
open PySem PySem.Spec PyProof.Rows
section
variable {X : Cx} {pins : List (Addr × Obj)} {σ : List (Option V)} {H : Hp} {s : Shared} {h' : Heap}
end
section
variable {X : Cx}
end
end L2
namespace L2
open PySem PySem.Spec PyProof.Rows
section
variable {X : Cx}
end
end L2
namespace DL
open PySem PySem.Spec L2 PyProof.Rows
section
variable {X : Cx} {g : Gh} {e : Expr} {body : List Stmt} {f : DA} {t : D → DS → Option DS} {b : DM} {pos p1 p2 pt : Pos} {elts : List Expr} {x1 : Nat}
end
end DL

namespace L2
open PySem PySem.Spec PyProof.Rows
section
variable {X : Cx} {pins : List (Addr × Obj)} {σ : List (Option V)} {H : Hp} {s : Shared} {h' : Heap}
end
end L2
namespace DL
open PySem PySem.Spec L2 PyProof.Rows
section
variable {prog : Program} {w : World} {A : Around} {E : Value → Shared → Prop} {s : Shared} {z TI TO i1 i2 l1 l2 : Addr} {xs ys : Array Value} {k : Nat}
end
section
variable {X : Cx}
end
section
variable {X : Cx} {g : Gh} {e : Expr} {es : List Expr} {body : List Stmt} {f : DA} {t : D → DS → Option DS} {b : DM} {pos p1 p2 pt : Pos} {elts : List Expr} {x1 : Nat}
end
end DL

namespace DL
open PySem PySem.Spec L2
theorem on1 {α : Type _} {P : List α → Prop} (h : ∀ a1 : α, P [a1]) : ∀ us : List α, us.length = 1 → P us := by
 intro us e
 match us, e with | [a1], _ => exact h a1
theorem on2 {α : Type _} {P : List α → Prop} (h : ∀ a1 a2 : α, P [a1, a2]) : ∀ us : List α, us.length = 2 → P us := by
 intro us e
 match us, e with | [a1, a2], _ => exact h a1 a2
theorem on3 {α : Type _} {P : List α → Prop} (h : ∀ a1 a2 a3 : α, P [a1, a2, a3]) : ∀ us : List α, us.length = 3 → P us := by
 intro us e
 match us, e with | [a1, a2, a3], _ => exact h a1 a2 a3
structure GF (K : PySem.W.Frag) (mg : Str → Option Value) (n : Str) (st : Stmt) (f : Addr) (fd : FuncData) : Prop where
 F : Fun K n n st f fd
 m : mg n = some (.ref f)
section
variable {K : PySem.W.Frag} {h : Heap} {mg : Str → Option Value} {n : Str} {st : Stmt} {f : Addr} {fd : FuncData}
theorem gf_mk (X : K.In h) (G : h.Ns mainGlobals mg) {oc : Value} {od an : Option Addr} {osl : Array (Option Value)} {kV doc pm cdv ct : Value} (a : PySem.W.nsIn K mainGlobals n = some (some (.ref f))) (l : K.lookup f = some ⟨oc, od, .func (PySem.W.fnOf n n (S7 st) (K8 st) (t9 st) .none kV doc pm an cdv ct), osl⟩)
  (c : PySem.W.codeIn K cdv n = true) (k : PySem.W.keepIn K (.ref f) = true) : GF K mg n st f (PySem.W.fnOf n n (S7 st) (K8 st) (t9 st) .none kV doc pm an cdv ct) := ⟨b0Y l c k, PySem.W.mg_of X G a⟩
theorem a9E {x : Str} (F : Fun K n n st f fd) (q : ∀ (kV doc pm : Value) (an : Option Addr) (cdv ct : Value) (s : Shared) (v : Value), BindsTo s (PySem.W.fnOf n n (S7 st) (K8 st) (t9 st) .none kV doc pm an cdv ct) ⟨[v], []⟩ [(x, v)]) : ∀ (s : Shared) (v : Value), BindsTo s fd ⟨[v], []⟩ [(x, v)] := by
 obtain ⟨oc, od, kV, doc, pm, an, cdv, ct, osl, rfl, lk, hcd⟩ := F.ex
 exact fun s v => q kV doc pm an cdv ct s v
theorem blt_mk (X : K.In h) (G : h.Ns mainGlobals mg) (z0 : PySem.W.nsIn K mainGlobals "len" = some none) (z1 : PySem.W.nsIn K mainGlobals "range" = some none) (z2 : PySem.W.nsIn K mainGlobals "abs" = some none) (z3 : PySem.W.nsIn K mainGlobals "tuple" = some none) (z4 : PySem.W.nsIn K mainGlobals "list" = some none) (z5 : PySem.W.nsIn K mainGlobals "int" = some none) (z6 : PySem.W.nsIn K mainGlobals "bool" = some none) (z7 : PySem.W.nsIn K mainGlobals "str" = some none) (z8 : PySem.W.nsIn K mainGlobals "repr" = some none) (z9 : PySem.W.nsIn K mainGlobals "all" = some none) (z10 : PySem.W.nsIn K mainGlobals "isinstance" = some none) (z11 : PySem.W.nsIn K mainGlobals "zip" = some none) (z12 : PySem.W.nsIn K mainGlobals "enumerate" = some none) (z13 : PySem.W.nsIn K mainGlobals "min" = some none) (z14 : PySem.W.nsIn K mainGlobals "max" = some none) (z15 : PySem.W.nsIn K mainGlobals "reversed" = some none) (z16 : PySem.W.nsIn K mainGlobals "any" = some none) (z17 : PySem.W.nsIn K mainGlobals "sum" = some none) (z18 : PySem.W.nsIn K mainGlobals "sorted" = some none) : Blt mg := ⟨PySem.W.mg_none_of X G z0, PySem.W.mg_none_of X G z1, PySem.W.mg_none_of X G z2, PySem.W.mg_none_of X G z3, PySem.W.mg_none_of X G z4, PySem.W.mg_none_of X G z5, PySem.W.mg_none_of X G z6, PySem.W.mg_none_of X G z7, PySem.W.mg_none_of X G z8, PySem.W.mg_none_of X G z9, PySem.W.mg_none_of X G z10, PySem.W.mg_none_of X G z11, PySem.W.mg_none_of X G z12, PySem.W.mg_none_of X G z13, PySem.W.mg_none_of X G z14, PySem.W.mg_none_of X G z15, PySem.W.mg_none_of X G z16, PySem.W.mg_none_of X G z17, PySem.W.mg_none_of X G z18⟩
theorem w9 {P : Program} {w : World} {base : Heap} {N ps : List Str} {k : Nat} {b : DM} (F : GF K mg n st f fd) (q : ∀ (kV doc pm : Value) (an : Option Addr) (cdv ct : Value) (us : List Value), us.length = ps.length → bindArgs (PySem.W.fnOf n n (S7 st) (K8 st) (t9 st) .none kV doc pm an cdv ct) ⟨us, []⟩ = pure (ps.zip us)) (S : FnScope N ps (t9 st))
  (hbody : ∀ (cdv : Value) (A : Around) (outer : List Env) (s : Shared) (H : Hp) (E : XK) (g : Gh), Room k (A.deeper (PyProof.Rows.envOfC n (t9 st) s.heap.objs.size f cdv)) → SSO (P5 CX0 P w K mg base N n (t9 st) f cdv A outer s H E).nox g (K8 st) b) :
  Cal P w K mg base (k + 1) n ps (mFn N.length b) := a9H F.F F.m (F.F.binds q) S hbody
end
end DL

namespace T
open PySem PySem.Spec L2 DL
noncomputable def a2v : DM := (i3 (dFN 0))
noncomputable def Q3 : DFn := mFn 1 (a2v)
noncomputable def V0 : DM := (c5 (e8 (dOp i6 (dFG 0 "turn") (dC (.int 1))) (c6 2)) (c5 (dFP 0 "turn" (dV 2)) (c5 (i4 (dB (dOp (j3 (fun i j => decide (j < i))) (dFG 0 "left") (dC (.int 0)))) (c5 (e8 (dOp v8 (dFG 0 "left") (dL 1)) (c6 3)) (c5 (dFP 0 "left" (dOp C2 (dFG 0 "left") (dL 1))) (i3 (dV 3)))) i5) (c5 (e8 (dFG 0 "cells") (c6 4)) (c5 (e8 (dIf (dB (dOp (j3 (fun i j => decide (j < i))) (dCB (one j5) (a6 (dL 4) a7)) (dC (.int 0)))) (dOp pIx (dL 4) (dOp v8 (dFG 0 "at") (dCB (one j5) (a6 (dL 4) a7)))) (dC (.int 0))) (c6 5)) (c5 (dFP 0 "at" (dOp i6 (dFG 0 "at") (dC (.int 1)))) (c5 (i4 (k9 (dB (dOp (j3 (fun i j => decide (j ≤ i))) (dL 5) (dOp U5 (dC (.int 10)) (dC (.int 18))))) (dB (dOp (j3 (fun i j => decide (i ≤ j))) (dFG 0 "at") (dCB (one j5) (a6 (dL 4) a7))))) (c5 (dFP 0 "left" (dOp C2 (dL 5) (dL 1))) (i3 (dOp v8 (dL 5) (dL 1)))) i5) (c5 (e8 (dOp v8 (dOp r8 (dOp i6 (dOp i6 (dOp i6 (dOp v8 (dL 5) (dC (.int 1000003))) (dOp r8 (dOp r8 (dC (.int 31)) (dL 2)) (dL 2))) (dOp r8 (dC (.int 7)) (dL 2))) (dC (.int 11))) (dC (.int 48271))) (dC (.int 2147483647))) (c6 6)) (c5 (e8 (dOp v8 (dOp i6 (dOp r8 (dOp C2 (dL 6) (dC (.int 64))) (dC (.int 69621))) (dOp r8 (dC (.int 7919)) (dL 2))) (dC (.int 2147483587))) (c6 6)) (i3 (dOp v8 (dOp C2 (dL 6) (dC (.int 64))) (dL 1))))))))))))
noncomputable def u9 : DFn := mFn 7 (V0)
noncomputable abbrev a9T : DM := (c5 (e8 (dOp v8 (dL 2) (dL 3)) (c6 4)) (c5 (e8 (dV 3) (c6 2)) (e8 (dV 4) (c6 3))))
noncomputable def a3X : DM := (c5 (e8 (dCB (one P2) (a6 (dL 0) a7)) (c6 2)) (c5 (e8 (dCB (one P2) (a6 (dL 1) a7)) (c6 3)) (c5 (L3 (dB (dOp pNe (dL 3) (dC (.int 0)))) (a9T)) (i3 (dV 2)))))
noncomputable def J5 : DFn := mFn 5 (a3X)
noncomputable abbrev a0N (m_divisor_of_two : DFn) : DM := (e8 (a9 m_divisor_of_two (a6 (dV 1) (a6 (dV 2) a7))) (c6 1))
noncomputable def a2I (m_divisor_of_two : DFn) : DM := (c5 (e8 (dC (.int 0)) (c6 1)) (c5 (J8 (dV 0) (c6 2) (a0N m_divisor_of_two)) (i3 (dV 1))))
noncomputable def S8 (m_divisor_of_two : DFn) : DFn := mFn 3 (a2I m_divisor_of_two)
noncomputable abbrev b3k : DM := (l5 2 3 (a6 (dV 3) (a6 (dOp v8 (dL 2) (dL 3)) a7)))
noncomputable def a3G : DM := (c5 (e8 (dCB (one P2) (a6 (dL 0) a7)) (c6 2)) (c5 (e8 (dCB (one P2) (a6 (dL 1) a7)) (c6 3)) (c5 (L3 (dB (dOp (j3 (fun i j => decide (j < i))) (dL 3) (dC (.int 0)))) (b3k)) (c5 (i4 (dB (dOp (j3 (fun i j => decide (i < j))) (dL 1) (dC (.int 0)))) (e8 (dOp k6 (dC (.int 0)) (dL 2)) (c6 2)) i5) (i3 (d0 (a6 (dOp C2 (dL 0) (dL 2)) (a6 (dOp C2 (dL 1) (dL 2)) a7))))))))
noncomputable def B5 : DFn := mFn 4 (a3G)
noncomputable def a2f (m_law_fraction : DFn) : DM := (c5 (e8 (dOp i6 (dOp r8 (dOp pIx (dL 0) (dC (.int 0))) (dOp pIx (dL 1) (dC (.int 1)))) (dOp r8 (dOp pIx (dL 1) (dC (.int 0))) (dOp pIx (dL 0) (dC (.int 1))))) (c6 2)) (i3 (a9 m_law_fraction (a6 (dV 2) (a6 (dOp r8 (dOp pIx (dL 0) (dC (.int 1))) (dOp pIx (dL 1) (dC (.int 1)))) a7)))))
noncomputable def X4 (m_law_fraction : DFn) : DFn := mFn 3 (a2f m_law_fraction)
noncomputable def a2p : DM := (i3 (d0 (a6 (dOp k6 (dC (.int 0)) (dOp pIx (dL 0) (dC (.int 0)))) (a6 (dOp pIx (dL 0) (dC (.int 1))) a7))))
noncomputable def R4 : DFn := mFn 1 (a2p)
noncomputable def a3l (m_law_draw : DFn) : DM := (c5 (D0 1 (i8 (a6 (dC .non) (a6 (dC (.bl true)) (a6 (dC (.bl false)) (a6 (dUn k0 (dC (.int 1))) (a6 (dC (.int 0)) (a6 (dC (.int 1)) (a6 (dC (.int 2)) (a6 (dC (.int 5)) (a6 (dOp U5 (dC (.int 10)) (dC (.int 39))) (a6 (dC (.str "")) (a6 (dC (.str "both")) (a6 (dC (.str "cut")) (a6 (dC (.str "in")) (a6 (dC (.str "1/2")) (a6 (d0 a7) (a6 (i7 (i8 a7)) a7)))))))))))))))))) (i3 (dOp pIx (i7 (Y5 W6 (dL 1) (i7 (i8 (a6 (i7 (i8 (a6 (dC (.int 0)) (a6 (dC (.int 1)) a7)))) (a6 (d0 (a6 (dC (.int 0)) (a6 (dC (.int 1)) a7))) (a6 (d0 (a6 (dC (.int 0)) (a6 (dC (.int 0)) (a6 (dC (.int 1)) a7)))) a7))))))) (a9 m_law_draw (a6 (dV 0) (a6 (dC (.int 19)) a7))))))
noncomputable def a36 (m_law_draw : DFn) : DFn := mFn 2 (a3l m_law_draw)
noncomputable def J7 (m_law_odd : DFn) (m_law_draw : DFn) (m_law_bent : DFn) : DM := (c5 (i4 (k9 (dTr (dUn (A6 "tuple") (dL 1))) (k9 (dB (dOp pNe (dL 1) (d0 a7))) (dB (dOp (j3 (fun i j => decide (j < i))) (a9 m_law_draw (a6 (dV 0) (a6 (dC (.int 5)) a7))) (dC (.int 0)))))) (c5 (e8 (a9 m_law_draw (a6 (dV 0) (a6 (dCB (one j5) (a6 (dL 1) a7)) a7))) (c6 2)) (i3 (dOp i6 (dOp i6 (dSl (dL 1) dNo (dAt (dL 2))) (d0 (a6 (a9 m_law_bent (a6 (dV 0) (a6 (dOp pIx (dL 1) (dL 2)) a7))) a7))) (dSl (dL 1) (dAt (dOp i6 (dL 2) (dC (.int 1)))) dNo)))) i5) (c5 (i4 (dTr (dUn (A6 "tuple") (dL 1))) (c5 (D0 3 (i8 (a6 (i7 (dCF (one a1x) (a6 (dL 1) a7))) (a6 (dSl (dL 1) (dAt (dC (.int 1))) dNo) (a6 (dOp i6 (dL 1) (dSl (dL 1) (dAt (dUn k0 (dC (.int 1)))) dNo)) (a6 (a1O (dL 1) (dUn k0 (dC (.int 1)))) (a6 (dOp i6 (dL 1) (d0 (a6 (dC (.int 0)) a7))) (a6 (d0 a7) (a6 (d0 (a6 (dV 1) a7)) (a6 (a9 m_law_odd (a6 (dV 0) a7)) a7)))))))))) (i3 (dOp pIx (dL 3) (a9 m_law_draw (a6 (dV 0) (a6 (dC (.int 8)) a7)))))) i5) (c5 (i4 (dTr (dUn (A6 "bool") (dL 1))) (i3 (dOp pIx (i7 (i8 (a6 (m7 (dV 1)) (a6 (dCB (one U9) (a6 (dL 1) a7)) (a6 (a9 m_law_odd (a6 (dV 0) a7)) a7))))) (a9 m_law_draw (a6 (dV 0) (a6 (dC (.int 3)) a7))))) i5) (c5 (i4 (dTr (dUn (A6 "int") (dL 1))) (c5 (D0 3 (i8 (a6 (dOp i6 (dL 1) (dC (.int 1))) (a6 (dOp k6 (dL 1) (dC (.int 1))) (a6 (dOp r8 (dC (.int 2)) (dL 1)) (a6 (dUn k0 (dL 1)) (a6 (dOp pEq (dL 1) (dC (.int 1))) (a6 (dCB (one a0e) (a6 (dL 1) a7)) (a6 (dC (.int 0)) (a6 (a9 m_law_odd (a6 (dV 0) a7)) a7)))))))))) (i3 (dOp pIx (dL 3) (a9 m_law_draw (a6 (dV 0) (a6 (dC (.int 8)) a7)))))) i5) (c5 (i4 (dTr (dUn (A6 "str") (dL 1))) (c5 (D0 3 (i8 (a6 (dC (.str "both")) (a6 (dC (.str "left")) (a6 (dC (.str "right")) (a6 (dC (.str "cut")) (a6 (dC (.str "square")) (a6 (dC (.str "round")) (a6 (dC (.str "pointed")) (a6 (dOp i6 (dL 1) (dC (.str "x"))) (a6 (dUn pUp (dL 1)) a7))))))))))) (i3 (dOp pIx (i7 (Y5 W6 (dL 3) (i7 (i8 (a6 (a9 m_law_odd (a6 (dV 0) a7)) a7))))) (a9 m_law_draw (a6 (dV 0) (a6 (dC (.int 10)) a7)))))) i5) (i3 (a9 m_law_odd (a6 (dV 0) a7))))))))
noncomputable def a0U (m_law_odd : DFn) (m_law_draw : DFn) : Nat → DFn
 | 0 => fun _ _ => none
 | n + 1 => mFn 4 (J7 m_law_odd m_law_draw (a0U m_law_odd m_law_draw n))
noncomputable def a2i : DM := (i3 (l6 (dUn (A6 "int") (dL 0)) (m7 (dUn (A6 "bool") (dL 0)))))
noncomputable def R9 : DFn := mFn 1 (a2i)
noncomputable def a0s (m_divisor : DFn) (m_is_whole : DFn) : DM := (c5 (i4 (dOr (j8 (dTr (dUn (A6 "tuple") (dL 0)))) (dB (dOp pNe (dCB (one j5) (a6 (dL 0) a7)) (dL 1)))) (i3 (dC (.bl false))) i5) (c5 (i4 (j8 (dTr (dCB (one M8) (a6 (i7 (C7 [] (G7 (dV 0)) B0 (a9 m_is_whole (a6 (dV 0) a7)))) a7)))) (i3 (dC (.bl false))) i5) (i3 (l6 (dOp (j3 (fun i j => decide (j ≤ i))) (dOp pIx (dL 0) (dUn k0 (dC (.int 1)))) (dC (.int 1))) (dOp pEq (a9 m_divisor (a6 (dV 0) a7)) (dC (.int 1)))))))
noncomputable def a1I (m_divisor : DFn) (m_is_whole : DFn) : DFn := mFn 2 (a0s m_divisor m_is_whole)
noncomputable def a2E (m_law_fraction : DFn) : DM := (i3 (a9 m_law_fraction (a6 (dOp r8 (dOp pIx (dL 0) (dC (.int 0))) (dOp pIx (dL 1) (dC (.int 0)))) (a6 (dOp r8 (dOp pIx (dL 0) (dC (.int 1))) (dOp pIx (dL 1) (dC (.int 1)))) a7))))
noncomputable def U4 (m_law_fraction : DFn) : DFn := mFn 2 (a2E m_law_fraction)
noncomputable abbrev a4z (m_law_fraction : DFn) : DM := (i4 (dOr (j8 (dTr (dUn (A6 "int") (dL 1)))) (dTr (dUn (A6 "bool") (dL 1)))) (i3 (dC (.bl false))) i5)
noncomputable def a3K (m_law_fraction : DFn) (m_law_draw : DFn) : DM := (c5 (e8 (a9 m_law_draw (a6 (dV 0) (a6 (dOp pIx (i7 (i8 (a6 (dC (.int 7)) (a6 (dC (.int 13)) (a6 (dC (.int 30)) a7))))) (a9 m_law_draw (a6 (dV 0) (a6 (dC (.int 3)) a7)))) a7))) (c6 1)) (c5 (e8 (dOp pIx (i7 (i8 (a6 (dC (.int 1)) (a6 (dC (.int 1)) (a6 (dC (.int 1)) (a6 (dC (.int 2)) (a6 (dC (.int 3)) (a6 (dC (.int 4)) a7)))))))) (a9 m_law_draw (a6 (dV 0) (a6 (dC (.int 6)) a7)))) (c6 2)) (i3 (a9 m_law_fraction (a6 (dOp r8 (dL 1) (dOp k6 (dC (.int 1)) (dOp r8 (dC (.int 2)) (a9 m_law_draw (a6 (dV 0) (a6 (dC (.int 2)) a7)))))) (a6 (dV 2) a7))))))
noncomputable def a0F (m_law_fraction : DFn) (m_law_draw : DFn) : DFn := mFn 3 (a3K m_law_fraction m_law_draw)
noncomputable def a2l (m_is_lowest : DFn) : DM := (i3 (a9 m_is_lowest (a6 (dV 0) (a6 (dC (.int 3)) a7))))
noncomputable def a05 (m_is_lowest : DFn) : DFn := mFn 1 (a2l m_is_lowest)
noncomputable def a3i (m_law_fraction : DFn) : DM := (c5 (e8 (dOp r8 (dOp pIx (dL 0) (dC (.int 1))) (dOp pIx (dL 1) (dC (.int 1)))) (c6 2)) (c5 (e8 (a9 m_law_fraction (a6 (dOp r8 (dOp pIx (dL 0) (dC (.int 0))) (dOp pIx (dL 1) (dC (.int 1)))) (a6 (dV 2) a7))) (c6 3)) (c5 (e8 (a9 m_law_fraction (a6 (dOp r8 (dOp pIx (dL 1) (dC (.int 0))) (dOp pIx (dL 0) (dC (.int 1)))) (a6 (dV 2) a7))) (c6 4)) (c5 (e8 (a9 m_law_fraction (a6 (dOp pIx (dL 3) (dC (.int 1))) (a6 (dOp pIx (dL 4) (dC (.int 1))) a7))) (c6 5)) (c5 (e8 (dOp r8 (dOp pIx (dL 3) (dC (.int 1))) (dOp pIx (dL 5) (dC (.int 1)))) (c6 2)) (i3 (d0 (a6 (dOp r8 (dOp pIx (dL 3) (dC (.int 0))) (dOp C2 (dL 2) (dOp pIx (dL 3) (dC (.int 1))))) (a6 (dOp r8 (dOp pIx (dL 4) (dC (.int 0))) (dOp C2 (dL 2) (dOp pIx (dL 4) (dC (.int 1))))) (a6 (dV 2) a7))))))))))
noncomputable def Q0 (m_law_fraction : DFn) : DFn := mFn 6 (a3i m_law_fraction)
noncomputable def a2T (m_law_at : DFn) (m_law_number : DFn) : DM := (i3 (a9 m_law_at (a6 (a9 m_law_number (a6 (dV 0) a7)) (a6 (a9 m_law_number (a6 (dV 0) a7)) a7))))
noncomputable def a0K (m_law_at : DFn) (m_law_number : DFn) : DFn := mFn 1 (a2T m_law_at m_law_number)
noncomputable def a1g : DM := (c5 (e8 (dOp r8 (dOp pIx (dL 0) (dC (.int 0))) (dOp pIx (dL 1) (dC (.int 2)))) (c6 2)) (c5 (e8 (dOp r8 (dOp pIx (dL 1) (dC (.int 0))) (dOp pIx (dL 0) (dC (.int 2)))) (c6 3)) (c5 (i4 (dB (dOp pNe (dL 2) (dL 3))) (i3 (dOp (j3 (fun i j => decide (i < j))) (dL 2) (dL 3))) i5) (i3 (dOp (j3 (fun i j => decide (i < j))) (dOp r8 (dOp pIx (dL 0) (dC (.int 1))) (dOp pIx (dL 1) (dC (.int 2)))) (dOp r8 (dOp pIx (dL 1) (dC (.int 1))) (dOp pIx (dL 0) (dC (.int 2)))))))))
noncomputable def X5 : DFn := mFn 4 (a1g)
noncomputable abbrev a2Z (m_law_at : DFn) (m_law_fraction : DFn) : DM := (i4 (dOr (j8 (dTr (dUn (A6 "int") (dL 1)))) (dTr (dUn (A6 "bool") (dL 1)))) (i3 (dC (.bl false))) i5)
noncomputable def U3 (m_law_at : DFn) (m_law_fraction : DFn) : DM := (c5 (i4 (dOr (j8 (dTr (dUn (A6 "tuple") (dL 0)))) (dB (dOp pNe (dCB (one j5) (a6 (dL 0) a7)) (dC (.int 3))))) (i3 (dC (.bl false))) i5) (c5 (J8 (dV 0) (c6 1) (a2Z m_law_at m_law_fraction)) (c5 (i4 (dB (dOp (j3 (fun i j => decide (i < j))) (dOp pIx (dL 0) (dC (.int 2))) (dC (.int 1)))) (i3 (dC (.bl false))) i5) (i3 (dOp pEq (a9 m_law_at (a6 (a9 m_law_fraction (a6 (dOp pIx (dL 0) (dC (.int 0))) (a6 (dOp pIx (dL 0) (dC (.int 2))) a7))) (a6 (a9 m_law_fraction (a6 (dOp pIx (dL 0) (dC (.int 1))) (a6 (dOp pIx (dL 0) (dC (.int 2))) a7))) a7))) (dL 0))))))
noncomputable def b1X (m_law_at : DFn) (m_law_fraction : DFn) : DFn := mFn 2 (U3 m_law_at m_law_fraction)
noncomputable def a3d (m_law_fraction : DFn) : DM := (i3 (d0 (a6 (a9 m_law_fraction (a6 (dOp pIx (dL 0) (dC (.int 0))) (a6 (dOp pIx (dL 0) (dC (.int 2))) a7))) (a6 (a9 m_law_fraction (a6 (dOp pIx (dL 0) (dC (.int 1))) (a6 (dOp pIx (dL 0) (dC (.int 2))) a7))) a7))))
noncomputable def a0w (m_law_fraction : DFn) : DFn := mFn 1 (a3d m_law_fraction)
noncomputable def a16 (m_law_at : DFn) (m_law_sum : DFn) (m_law_xy : DFn) : DM := (c5 (e8 (a9 m_law_xy (a6 (dV 0) a7)) (l0 2 (j9 (c6 3) (j9 (c6 4) l4)))) (i3 (a9 m_law_at (a6 (a9 m_law_sum (a6 (dV 3) (a6 (dV 1) a7))) (a6 (a9 m_law_sum (a6 (dV 4) (a6 (dV 2) a7))) a7)))))
noncomputable def a0P (m_law_at : DFn) (m_law_sum : DFn) (m_law_xy : DFn) : DFn := mFn 5 (a16 m_law_at m_law_sum m_law_xy)
noncomputable def a0D : DM := (c5 (i4 (dB (dOp (j3 (fun i j => decide (j < i))) (dL 0) (dC (.int 0)))) (i3 (dC (.int 1))) i5) (c5 (i4 (dB (dOp (j3 (fun i j => decide (i < j))) (dL 0) (dC (.int 0)))) (i3 (dUn k0 (dC (.int 1)))) i5) (i3 (dC (.int 0)))))
noncomputable def Y1 : DFn := mFn 1 (a0D)
noncomputable def a3V (m_sign : DFn) : DM := (c5 (e8 (dOp r8 (dOp pIx (dL 0) (dC (.int 0))) (dOp k6 (dOp r8 (dOp pIx (dL 1) (dC (.int 1))) (dOp pIx (dL 2) (dC (.int 2)))) (dOp r8 (dOp pIx (dL 2) (dC (.int 1))) (dOp pIx (dL 1) (dC (.int 2)))))) (c6 3)) (c5 (e8 (dOp k6 (dL 3) (dOp r8 (dOp pIx (dL 0) (dC (.int 1))) (dOp k6 (dOp r8 (dOp pIx (dL 1) (dC (.int 0))) (dOp pIx (dL 2) (dC (.int 2)))) (dOp r8 (dOp pIx (dL 2) (dC (.int 0))) (dOp pIx (dL 1) (dC (.int 2))))))) (c6 3)) (c5 (e8 (dOp i6 (dL 3) (dOp r8 (dOp pIx (dL 0) (dC (.int 2))) (dOp k6 (dOp r8 (dOp pIx (dL 1) (dC (.int 0))) (dOp pIx (dL 2) (dC (.int 1)))) (dOp r8 (dOp pIx (dL 2) (dC (.int 0))) (dOp pIx (dL 1) (dC (.int 1))))))) (c6 3)) (i3 (a9 m_sign (a6 (dV 3) a7))))))
noncomputable def a1d (m_sign : DFn) : DFn := mFn 4 (a3V m_sign)
end T

namespace T
open PySem PySem.Spec L2 DL
end T

namespace T
open PySem PySem.Spec L2 DL
noncomputable def a1B (m_is_place : DFn) : DM := (c5 (i4 (j8 (dTr (dUn (A6 "tuple") (dOp pIx (dL 0) (dC (.int 1)))))) (i3 (dC (.bl false))) i5) (c5 (e8 (dIf (dTr (dOp pIx (dL 0) (dC (.int 0)))) (dC (.int 3)) (dC (.int 2))) (c6 1)) (c5 (e8 (dIf (dTr (dOp pIx (dL 0) (dC (.int 0)))) (dC (.int 8)) (dC (.int 9))) (c6 2)) (c5 (i4 (dOr (dB (dOp (j3 (fun i j => decide (i < j))) (dCB (one j5) (a6 (dOp pIx (dL 0) (dC (.int 1))) a7)) (dL 1))) (dB (dOp (j3 (fun i j => decide (j < i))) (dCB (one j5) (a6 (dOp pIx (dL 0) (dC (.int 1))) a7)) (dL 2)))) (i3 (dC (.bl false))) i5) (i3 (dCB (one M8) (a6 (i7 (C7 [] (G7 (dOp pIx (dL 0) (dC (.int 1)))) B0 (a9 m_is_place (a6 (dV 0) a7)))) a7)))))))
noncomputable def a1R (m_is_place : DFn) : DFn := mFn 3 (a1B m_is_place)
noncomputable def a1e : DM := (c5 (i4 (dTr (dL 1)) (i3 (i7 (dCF X8 (a6 (dL 0) (a6 (dOp i6 (dSl (dL 0) (dAt (dC (.int 1))) dNo) (dSl (dL 0) dNo (dAt (dC (.int 1))))) a7))))) i5) (i3 (i7 (dCF X8 (a6 (dL 0) (a6 (dSl (dL 0) (dAt (dC (.int 1))) dNo) a7))))))
noncomputable def G3 : DFn := mFn 2 (a1e)
noncomputable def a3t (m_neighbours : DFn) : DM := (i3 (dCB (one L6) (a6 (a9 m_neighbours (a6 (dOp pIx (dL 0) (dC (.int 1))) (a6 (dOp pIx (dL 0) (dC (.int 0))) a7))) a7)))
noncomputable def X2 (m_neighbours : DFn) : DFn := mFn 1 (a3t m_neighbours)
noncomputable def a3I (m_pieces : DFn) : DM := (i3 (dCB (one M8) (a6 (i7 (Z5 [] (G7 (a9 m_pieces (a6 (dV 0) a7))) B0 (dOp pNe (dL 0) (dL 1)))) a7)))
noncomputable def a1o (m_pieces : DFn) : DFn := mFn 1 (a3I m_pieces)
noncomputable def a1Q (m_is_lesser : DFn) (m_turn : DFn) : DM := (i3 (l6 (dOp pEq (a9 m_turn (a6 (dV 0) (a6 (dV 1) (a6 (dV 2) a7)))) (dC (.int 0))) (dOp pEq (a9 m_is_lesser (a6 (dV 0) (a6 (dV 1) a7))) (a9 m_is_lesser (a6 (dV 1) (a6 (dV 2) a7))))))
noncomputable def a1v (m_is_lesser : DFn) (m_turn : DFn) : DFn := mFn 3 (a1Q m_is_lesser m_turn)
noncomputable abbrev a0V (m_goes_on : DFn) (m_neighbours : DFn) (m_pieces : DFn) : DM := (i4 (dTr (a9 m_goes_on (a6 (dOp pIx (dL 1) (dC (.int 0))) (a6 (dOp pIx (dL 1) (dC (.int 1))) (a6 (dOp pIx (dL 2) (dC (.int 1))) a7))))) (i3 (dC (.bl false))) i5)
noncomputable def a25 (m_goes_on : DFn) (m_neighbours : DFn) (m_pieces : DFn) : DM := (c5 (J8 (a9 m_neighbours (a6 (a9 m_pieces (a6 (dV 0) a7)) (a6 (dOp pIx (dL 0) (dC (.int 0))) a7))) (l0 2 (j9 (c6 1) (j9 (c6 2) l4))) (a0V m_goes_on m_neighbours m_pieces)) (i3 (dC (.bl true))))
noncomputable def a1z (m_goes_on : DFn) (m_neighbours : DFn) (m_pieces : DFn) : DFn := mFn 3 (a25 m_goes_on m_neighbours m_pieces)
noncomputable def V3 (m_turns_everywhere : DFn) (m_goes_somewhere : DFn) (m_are_places : DFn) : DM := (c5 (i4 (dOr (j8 (dTr (dUn (A6 "tuple") (dL 0)))) (dOr (dB (dOp pNe (dCB (one j5) (a6 (dL 0) a7)) (dC (.int 2)))) (j8 (dTr (dUn (A6 "bool") (dOp pIx (dL 0) (dC (.int 0)))))))) (i3 (dC (.bl false))) i5) (i3 (l6 (a9 m_are_places (a6 (dV 0) a7)) (l6 (a9 m_goes_somewhere (a6 (dV 0) a7)) (a9 m_turns_everywhere (a6 (dV 0) a7))))))
noncomputable def a0Z (m_turns_everywhere : DFn) (m_goes_somewhere : DFn) (m_are_places : DFn) : DFn := mFn 1 (V3 m_turns_everywhere m_goes_somewhere m_are_places)
noncomputable abbrev a2e : DM := (c5 (l5 4 5 (a6 (dOp pIx (dL 2) (dL 3)) (a6 (dOp pIx (dL 2) (dOp v8 (dOp i6 (dL 3) (dC (.int 1))) (dCB (one j5) (a6 (dL 2) a7)))) a7))) (G5 1 (d0 (a6 (dOp k6 (dOp r8 (dOp pIx (dL 5) (dC (.int 0))) (dOp pIx (dL 4) (dC (.int 2)))) (dOp r8 (dOp pIx (dL 4) (dC (.int 0))) (dOp pIx (dL 5) (dC (.int 2))))) (a6 (dOp k6 (dOp r8 (dOp pIx (dL 5) (dC (.int 1))) (dOp pIx (dL 4) (dC (.int 2)))) (dOp r8 (dOp pIx (dL 4) (dC (.int 1))) (dOp pIx (dL 5) (dC (.int 2))))) a7)))))
noncomputable def a4c : DM := (c5 (D0 1 (i8 a7)) (c5 (e8 (dOp pIx (dL 0) (dC (.int 1))) (c6 2)) (c5 (Q7 (a6 (dOp i6 (dOp k6 (dCB (one j5) (a6 (dL 2) a7)) (dC (.int 1))) (dCB (one U9) (a6 (dOp pIx (dL 0) (dC (.int 0))) a7))) a7) (c6 3) (a2e)) (i3 (dV 1)))))
noncomputable def V7 : DFn := mFn 6 (a4c)
noncomputable abbrev b2b (m_law_at : DFn) (m_law_fraction : DFn) : DM := (i4 (dOr (j8 (dTr (dUn (A6 "int") (dL 1)))) (dTr (dUn (A6 "bool") (dL 1)))) (i3 (dC (.bl false))) i5)
noncomputable def b2r (m_law_at : DFn) (m_law_fraction : DFn) : DM := (c5 (i4 (dOr (j8 (dTr (dUn (A6 "tuple") (dL 0)))) (dB (dOp pNe (dCB (one j5) (a6 (dL 0) a7)) (dC (.int 3))))) (i3 (dC (.bl false))) i5) (c5 (J8 (dV 0) (c6 1) (b2b m_law_at m_law_fraction)) (c5 (i4 (dB (dOp (j3 (fun i j => decide (i < j))) (dOp pIx (dL 0) (dC (.int 2))) (dC (.int 1)))) (i3 (dC (.bl false))) i5) (i3 (dOp pEq (a9 m_law_at (a6 (a9 m_law_fraction (a6 (dOp pIx (dL 0) (dC (.int 0))) (a6 (dOp pIx (dL 0) (dC (.int 2))) a7))) (a6 (a9 m_law_fraction (a6 (dOp pIx (dL 0) (dC (.int 1))) (a6 (dOp pIx (dL 0) (dC (.int 2))) a7))) a7))) (dL 0))))))
noncomputable def a2L (m_law_at : DFn) (m_law_fraction : DFn) : DFn := mFn 2 (b2r m_law_at m_law_fraction)
noncomputable abbrev L1 (m_law_ways : DFn) (m_law_is_place : DFn) : DM := (c5 (l5 5 6 (a6 (dOp pIx (dL 3) (dOp k6 (dL 4) (dC (.int 1)))) (a6 (dOp pIx (dL 3) (dL 4)) a7))) (c5 (i4 (dB (dOp pEq (dL 6) (d0 (a6 (dC (.int 0)) (a6 (dC (.int 0)) a7))))) (i3 (dC (.bl false))) i5) (c5 (e8 (l6 (dOp pEq (dOp r8 (dOp pIx (dL 5) (dC (.int 0))) (dOp pIx (dL 6) (dC (.int 1)))) (dOp r8 (dOp pIx (dL 5) (dC (.int 1))) (dOp pIx (dL 6) (dC (.int 0))))) (dOp (j3 (fun i j => decide (j < i))) (dOp i6 (dOp r8 (dOp pIx (dL 5) (dC (.int 0))) (dOp pIx (dL 6) (dC (.int 0)))) (dOp r8 (dOp pIx (dL 5) (dC (.int 1))) (dOp pIx (dL 6) (dC (.int 1))))) (dC (.int 0)))) (c6 7)) (i4 (k9 (dOr (dB (dOp (j3 (fun i j => decide (j < i))) (dL 4) (dC (.int 0)))) (dTr (dOp pIx (dL 0) (dC (.int 0))))) (dTr (dL 7))) (i3 (dC (.bl false))) i5))))
noncomputable def W8 (m_law_ways : DFn) (m_law_is_place : DFn) : DM := (c5 (i4 (dOr (j8 (dTr (dUn (A6 "tuple") (dL 0)))) (dOr (dB (dOp pNe (dCB (one j5) (a6 (dL 0) a7)) (dC (.int 2)))) (j8 (dTr (dUn (A6 "bool") (dOp pIx (dL 0) (dC (.int 0)))))))) (i3 (dC (.bl false))) i5) (c5 (e8 (dIf (dTr (dOp pIx (dL 0) (dC (.int 0)))) (d0 (a6 (dC (.int 3)) (a6 (dC (.int 8)) a7))) (d0 (a6 (dC (.int 2)) (a6 (dC (.int 9)) a7)))) (l0 2 (j9 (c6 1) (j9 (c6 2) l4)))) (c5 (i4 (dOr (j8 (dTr (dUn (A6 "tuple") (dOp pIx (dL 0) (dC (.int 1)))))) (j8 (dB (Y6 (j3 (fun i j => decide (i ≤ j))) (j3 (fun i j => decide (i ≤ j))) (dL 1) (dCB (one j5) (a6 (dOp pIx (dL 0) (dC (.int 1))) a7)) (dL 2))))) (i3 (dC (.bl false))) i5) (c5 (i4 (dB (dOp pIn (dC (.bl false)) (i7 (C7 [] (G7 (dOp pIx (dL 0) (dC (.int 1)))) B0 (a9 m_law_is_place (a6 (dV 0) a7)))))) (i3 (dC (.bl false))) i5) (c5 (e8 (a9 m_law_ways (a6 (dV 0) a7)) (c6 3)) (c5 (Q7 (a6 (dCB (one j5) (a6 (dL 3) a7)) a7) (c6 4) (L1 m_law_ways m_law_is_place)) (i3 (dC (.bl true)))))))))
noncomputable def a2P (m_law_ways : DFn) (m_law_is_place : DFn) : DFn := mFn 8 (W8 m_law_ways m_law_is_place)
noncomputable def a19 (m_is_line : DFn) (m_law_due : DFn) : DM := (c5 (e8 (dCB (one Q8) (a6 (dL 0) a7)) (c6 1)) (i3 (l6 (dOp pEq (dCB (one Q8) (a6 (a9 m_is_line (a6 (dV 0) a7)) a7)) (dCB (one Q8) (a6 (a9 m_law_due (a6 (dV 0) a7)) a7))) (dOp pEq (dCB (one Q8) (a6 (dL 0) a7)) (dL 1)))))
noncomputable def a3E (m_is_line : DFn) (m_law_due : DFn) : DFn := mFn 2 (a19 m_is_line m_law_due)
noncomputable def a30 (m_law_product : DFn) (m_law_fraction : DFn) (m_law_draw : DFn) : DM := (c5 (e8 (dOp pIx (i7 (i8 (a6 (d0 (a6 (dC (.int 1)) (a6 (dC (.int 0)) (a6 (dC (.int 1)) a7)))) (a6 (d0 (a6 (dC (.int 1)) (a6 (dC (.int 0)) (a6 (dC (.int 1)) a7)))) (a6 (d0 (a6 (dC (.int 3)) (a6 (dC (.int 4)) (a6 (dC (.int 5)) a7)))) (a6 (d0 (a6 (dC (.int 4)) (a6 (dC (.int 3)) (a6 (dC (.int 5)) a7)))) (a6 (d0 (a6 (dC (.int 5)) (a6 (dC (.int 12)) (a6 (dC (.int 13)) a7)))) (a6 (d0 (a6 (dC (.int 8)) (a6 (dC (.int 15)) (a6 (dC (.int 17)) a7)))) a7)))))))) (a9 m_law_draw (a6 (dV 0) (a6 (dC (.int 6)) a7)))) (l0 3 (j9 (c6 1) (j9 (c6 2) (j9 (c6 3) l4))))) (c5 (i4 (dB (dOp pEq (a9 m_law_draw (a6 (dV 0) (a6 (dC (.int 2)) a7))) (dC (.int 0)))) (l5 1 2 (a6 (dV 2) (a6 (dV 1) a7))) i5) (c5 (e8 (dOp r8 (dL 1) (dOp k6 (dC (.int 1)) (dOp r8 (dC (.int 2)) (a9 m_law_draw (a6 (dV 0) (a6 (dC (.int 2)) a7)))))) (c6 1)) (c5 (e8 (dOp r8 (dL 2) (dOp k6 (dC (.int 1)) (dOp r8 (dC (.int 2)) (a9 m_law_draw (a6 (dV 0) (a6 (dC (.int 2)) a7)))))) (c6 2)) (c5 (e8 (dOp r8 (dOp pIx (i7 (i8 (a6 (dC (.int 1)) (a6 (dC (.int 2)) (a6 (dC (.int 3)) (a6 (dC (.int 4)) (a6 (dC (.int 6)) a7))))))) (a9 m_law_draw (a6 (dV 0) (a6 (dC (.int 5)) a7)))) (dOp pIx (i7 (i8 (a6 (dC (.int 1)) (a6 (dV 3) a7)))) (a9 m_law_draw (a6 (dV 0) (a6 (dC (.int 2)) a7))))) (c6 4)) (c5 (e8 (a9 m_law_fraction (a6 (dV 4) (a6 (dOp pIx (i7 (i8 (a6 (dC (.int 1)) (a6 (dV 3) (a6 (dOp r8 (dC (.int 2)) (dL 3)) a7))))) (a9 m_law_draw (a6 (dV 0) (a6 (dC (.int 3)) a7)))) a7))) (c6 4)) (i3 (i7 (C7 [4] (G7 (d0 (a6 (dV 1) (a6 (dV 2) (a6 (dV 3) a7))))) B0 (a9 m_law_product (a6 (d0 (a6 (dV 0) (a6 (dC (.int 1)) a7))) (a6 (dV 1) a7))))))))))))
noncomputable def a0i (m_law_product : DFn) (m_law_fraction : DFn) (m_law_draw : DFn) : DFn := mFn 5 (a30 m_law_product m_law_fraction m_law_draw)
noncomputable def a0H (m_law_draw : DFn) (m_law_gone : DFn) (m_law_product : DFn) (m_law_fraction : DFn) (m_law_way : DFn) (m_law_place : DFn) : DM := (c5 (e8 (a9 m_law_way (a6 (dV 0) a7)) (c6 1)) (c5 (e8 (a9 m_law_place (a6 (dV 0) a7)) (c6 2)) (c5 (i4 (dB (dOp pEq (a9 m_law_draw (a6 (dV 0) (a6 (dC (.int 2)) a7))) (dC (.int 0)))) (c5 (e8 (a9 m_law_way (a6 (dV 0) a7)) (c6 3)) (i4 (dB (dOp pNe (a9 m_law_product (a6 (dOp pIx (dL 1) (dC (.int 0))) (a6 (dOp pIx (dL 3) (dC (.int 1))) a7))) (a9 m_law_product (a6 (dOp pIx (dL 1) (dC (.int 1))) (a6 (dOp pIx (dL 3) (dC (.int 0))) a7))))) (c5 (e8 (a9 m_law_gone (a6 (dV 2) (a6 (dOp pIx (dL 1) (dC (.int 0))) (a6 (dOp pIx (dL 1) (dC (.int 1))) a7)))) (c6 4)) (c5 (e8 (a9 m_law_gone (a6 (dV 2) (a6 (dOp pIx (dL 3) (dC (.int 0))) (a6 (dOp pIx (dL 3) (dC (.int 1))) a7)))) (c6 5)) (i3 (d0 (a6 (dC (.bl true)) (a6 (d0 (a6 (dV 2) (a6 (dV 4) (a6 (a9 m_law_gone (a6 (dV 4) (a6 (dOp pIx (dL 3) (dC (.int 0))) (a6 (dOp pIx (dL 3) (dC (.int 1))) a7)))) (a6 (dV 5) a7))))) a7)))))) i5)) i5) (c5 (e8 (a9 m_law_fraction (a6 (dOp i6 (dC (.int 1)) (a9 m_law_draw (a6 (dV 0) (a6 (dC (.int 3)) a7)))) (a6 (dOp i6 (dC (.int 1)) (a9 m_law_draw (a6 (dV 0) (a6 (dC (.int 2)) a7)))) a7))) (c6 6)) (c5 (l5 7 8 (a6 (a9 m_law_product (a6 (dV 6) (a6 (d0 (a6 (dC (.int 3)) (a6 (dC (.int 1)) a7))) a7))) (a6 (a9 m_law_product (a6 (dV 6) (a6 (d0 (a6 (dC (.int 4)) (a6 (dC (.int 1)) a7))) a7))) a7))) (c5 (D0 9 (i8 (a6 (dV 2) (a6 (a9 m_law_gone (a6 (dV 2) (a6 (dV 7) (a6 (d0 (a6 (dC (.int 0)) (a6 (dC (.int 1)) a7))) a7)))) (a6 (a9 m_law_gone (a6 (dV 2) (a6 (dV 7) (a6 (dV 8) a7)))) (a6 (a9 m_law_gone (a6 (dV 2) (a6 (d0 (a6 (dC (.int 0)) (a6 (dC (.int 1)) a7))) (a6 (dV 8) a7)))) a7)))))) (c5 (e8 (dOp pIx (i7 (i8 (a6 (d0 (a6 (dC (.int 0)) (a6 (dC (.int 1)) (a6 (dC (.int 2)) a7)))) (a6 (d0 (a6 (dC (.int 0)) (a6 (dC (.int 2)) (a6 (dC (.int 1)) a7)))) (a6 (d0 (a6 (dC (.int 0)) (a6 (dC (.int 2)) (a6 (dC (.int 1)) (a6 (dC (.int 3)) a7))))) (a6 (d0 (a6 (dC (.int 0)) (a6 (dC (.int 1)) (a6 (dC (.int 3)) (a6 (dC (.int 2)) a7))))) (a6 (d0 (a6 (dC (.int 3)) (a6 (dC (.int 1)) (a6 (dC (.int 0)) a7)))) a7))))))) (a9 m_law_draw (a6 (dV 0) (a6 (dC (.int 5)) a7)))) (c6 10)) (i3 (d0 (a6 (dC (.bl true)) (a6 (dCB (one L6) (a6 (i7 (a0T [9] (C7 [9] (G7 (dV 10)) B0 (dOp pIx (dL 1) (dL 0))))) a7)) a7)))))))))))
noncomputable def a2m (m_law_draw : DFn) (m_law_gone : DFn) (m_law_product : DFn) (m_law_fraction : DFn) (m_law_way : DFn) (m_law_place : DFn) : DFn := mFn 11 (a0H m_law_draw m_law_gone m_law_product m_law_fraction m_law_way m_law_place)
noncomputable def a17 (m_law_sum : DFn) (m_law_product : DFn) : DM := (c5 (e8 (a9 m_law_product (a6 (dOp pIx (dL 0) (dC (.int 0))) (a6 (dOp pIx (dL 1) (dC (.int 1))) a7))) (c6 2)) (c5 (e8 (a9 m_law_product (a6 (dOp pIx (dL 0) (dC (.int 1))) (a6 (dOp pIx (dL 1) (dC (.int 0))) a7))) (c6 3)) (c5 (e8 (a9 m_law_sum (a6 (a9 m_law_product (a6 (dOp pIx (dL 0) (dC (.int 0))) (a6 (dOp pIx (dL 1) (dC (.int 0))) a7))) (a6 (a9 m_law_product (a6 (dOp pIx (dL 0) (dC (.int 1))) (a6 (dOp pIx (dL 1) (dC (.int 1))) a7))) a7))) (c6 4)) (i3 (l6 (dOp pEq (dL 2) (dL 3)) (dOp (j3 (fun i j => decide (j < i))) (dOp pIx (dL 4) (dC (.int 0))) (dC (.int 0))))))))
noncomputable def a3Z (m_law_sum : DFn) (m_law_product : DFn) : DFn := mFn 5 (a17 m_law_sum m_law_product)
noncomputable abbrev a2b (m_law_goes_on : DFn) (m_law_gone : DFn) (m_law_draw : DFn) (m_law_minus : DFn) (m_law_way : DFn) (m_law_place : DFn) : DM := (c5 (e8 (a9 m_law_way (a6 (dV 0) a7)) (c6 5)) (c5 (i4 (k9 (dB (dOp pNe (dL 3) (i7 (i8 a7)))) (dB (dOp pEq (a9 m_law_draw (a6 (dV 0) (a6 (dC (.int 8)) a7))) (dC (.int 0))))) (D0 5 (i8 (a6 (a9 m_law_minus (a6 (dOp pIx (dOp pIx (dL 3) (dUn k0 (dC (.int 1)))) (dC (.int 0))) a7)) (a6 (a9 m_law_minus (a6 (dOp pIx (dOp pIx (dL 3) (dUn k0 (dC (.int 1)))) (dC (.int 1))) a7)) (a6 (dOp pIx (dOp pIx (dL 3) (dUn k0 (dC (.int 1)))) (dC (.int 2))) a7))))) i5) (i4 (dOr (dB (dOp pEq (dL 3) (i7 (i8 a7)))) (j8 (dTr (a9 m_law_goes_on (a6 (dOp pIx (dL 3) (dUn k0 (dC (.int 1)))) (a6 (dV 5) a7)))))) (c5 (G5 3 (dV 5)) (G5 2 (a9 m_law_gone (a6 (dOp pIx (dL 2) (dUn k0 (dC (.int 1)))) (a6 (dOp pIx (dL 5) (dC (.int 0))) (a6 (dOp pIx (dL 5) (dC (.int 1))) a7)))))) i5)))
noncomputable def a3Q (m_law_goes_on : DFn) (m_law_gone : DFn) (m_law_draw : DFn) (m_law_minus : DFn) (m_law_way : DFn) (m_law_place : DFn) : DM := (c5 (D0 2 (i8 (a6 (a9 m_law_place (a6 (dV 0) a7)) a7))) (c5 (D0 3 (i8 a7)) (c5 (Q7 (a6 (dOp i6 (dC (.int 1)) (a9 m_law_draw (a6 (dV 0) (a6 (dOp k6 (dL 1) (dC (.int 1))) a7)))) a7) (c6 4) (a2b m_law_goes_on m_law_gone m_law_draw m_law_minus m_law_way m_law_place)) (i3 (d0 (a6 (dC (.bl false)) (a6 (dCB (one L6) (a6 (dL 2) a7)) a7)))))))
noncomputable def a28 (m_law_goes_on : DFn) (m_law_gone : DFn) (m_law_draw : DFn) (m_law_minus : DFn) (m_law_way : DFn) (m_law_place : DFn) : DFn := mFn 6 (a3Q m_law_goes_on m_law_gone m_law_draw m_law_minus m_law_way m_law_place)
noncomputable def a24 (m_law_draw : DFn) (m_law_closed_line : DFn) (m_law_open_line : DFn) : DM := (i3 (dIf (dB (dOp pEq (a9 m_law_draw (a6 (dV 0) (a6 (dC (.int 4)) a7))) (dC (.int 0)))) (a9 m_law_closed_line (a6 (dV 0) a7)) (a9 m_law_open_line (a6 (dV 0) (a6 (dV 1) a7)))))
noncomputable def a2X (m_law_draw : DFn) (m_law_closed_line : DFn) (m_law_open_line : DFn) : DFn := mFn 2 (a24 m_law_draw m_law_closed_line m_law_open_line)
noncomputable def a39 : DM := (i3 (dCB (one L6) (a6 (i7 (C7 [] (O7 (a6 (dV 0) a7)) B0 (d0 (a6 (dOp i6 (dOp C2 (dL 0) (dC (.int 2))) (dOp v8 (dL 0) (dC (.int 2)))) (a6 (dOp C2 (dL 0) (dC (.int 2))) (a6 (dC (.int 1)) a7)))))) a7)))
noncomputable def L4 : DFn := mFn 1 (a39)
noncomputable def a2U (m_law_at : DFn) (m_law_product : DFn) (m_law_sum : DFn) (m_law_xy : DFn) : DM := (c5 (e8 (a9 m_law_xy (a6 (dV 0) a7)) (l0 2 (j9 (c6 2) (j9 (c6 3) l4)))) (c5 (e8 (a9 m_law_xy (a6 (dV 1) a7)) (l0 2 (j9 (c6 4) (j9 (c6 5) l4)))) (c5 (l5 2 3 (a6 (a9 m_law_sum (a6 (dV 2) (a6 (dV 4) a7))) (a6 (a9 m_law_sum (a6 (dV 3) (a6 (dV 5) a7))) a7))) (i3 (a9 m_law_at (a6 (a9 m_law_product (a6 (dV 2) (a6 (d0 (a6 (dC (.int 1)) (a6 (dC (.int 2)) a7))) a7))) (a6 (a9 m_law_product (a6 (dV 3) (a6 (d0 (a6 (dC (.int 1)) (a6 (dC (.int 2)) a7))) a7))) a7)))))))
noncomputable def a2O (m_law_at : DFn) (m_law_product : DFn) (m_law_sum : DFn) (m_law_xy : DFn) : DFn := mFn 6 (a2U m_law_at m_law_product m_law_sum m_law_xy)
noncomputable abbrev a3q (m_is_line : DFn) (m_law_right : DFn) (m_law_stepped : DFn) (m_law_bent : DFn) (m_law_draw : DFn) (m_law_half_way : DFn) (m_law_place : DFn) (m_law_line : DFn) (m_law_feed : DFn) : DM := (e8 (a9 m_law_bent (a6 (dV 1) (a6 (dV 7) a7))) (c6 7))
noncomputable abbrev a1f (m_is_line : DFn) (m_law_right : DFn) (m_law_stepped : DFn) (m_law_bent : DFn) (m_law_draw : DFn) (m_law_half_way : DFn) (m_law_place : DFn) (m_law_line : DFn) (m_law_feed : DFn) : DM := (c5 (e8 (a9 m_law_bent (a6 (dV 1) (a6 (dV 3) a7))) (c6 7)) (c5 (Q7 (a6 (dOp pIx (i7 (i8 (a6 (dC (.int 0)) (a6 (dC (.int 0)) (a6 (dC (.int 1)) (a6 (dC (.int 2)) a7)))))) (a9 m_law_draw (a6 (dV 1) (a6 (dC (.int 4)) a7)))) a7) (c6 8) (a3q m_is_line m_law_right m_law_stepped m_law_bent m_law_draw m_law_half_way m_law_place m_law_line m_law_feed)) (i4 (j8 (dTr (a9 m_law_right (a6 (dV 7) a7)))) (i3 (dC (.bl false))) i5)))
noncomputable abbrev a0o (m_is_line : DFn) (m_law_right : DFn) (m_law_stepped : DFn) (m_law_bent : DFn) (m_law_draw : DFn) (m_law_half_way : DFn) (m_law_place : DFn) (m_law_line : DFn) (m_law_feed : DFn) : DM := (c5 (e8 (dOp pIx (i7 (i8 (a6 (a9 m_law_line (a6 (dV 1) (a6 (dC (.int 6)) a7))) (a6 (d0 (a6 (dC (.bl false)) (a6 (dCB (one L6) (a6 (i7 (C7 [1] (O7 (a6 (dOp i6 (dC (.int 2)) (a9 m_law_draw (a6 (dV 1) (a6 (dC (.int 7)) a7)))) a7)) B0 (a9 m_law_place (a6 (dV 1) a7)))) a7)) a7))) a7)))) (dOp v8 (dL 2) (dC (.int 2)))) (c6 3)) (c5 (i4 (dOr (j8 (dTr (a9 m_law_right (a6 (dV 3) a7)))) (k9 (dB (dOp pEq (dOp v8 (dL 2) (dC (.int 2))) (dC (.int 0)))) (dB (dOp Z2 (a9 m_is_line (a6 (dV 3) a7)) (dC (.bl true)))))) (i3 (dC (.bl false))) i5) (c5 (e8 (dSl (dOp pIx (dL 3) (dC (.int 1))) dNo (dAt (dC (.int 2)))) (l0 2 (j9 (c6 4) (j9 (c6 5) l4)))) (c5 (i4 (j8 (dTr (a9 m_law_right (a6 (d0 (a6 (dOp pIx (dL 3) (dC (.int 0))) (a6 (dOp i6 (dOp i6 (dSl (dOp pIx (dL 3) (dC (.int 1))) dNo (dAt (dC (.int 1)))) (d0 (a6 (a9 m_law_half_way (a6 (dV 4) (a6 (dV 5) a7))) a7))) (dSl (dOp pIx (dL 3) (dC (.int 1))) (dAt (dC (.int 1))) dNo)) a7))) a7)))) (i3 (dC (.bl false))) i5) (Q7 (a6 (dC (.int 5)) a7) (c6 6) (a1f m_is_line m_law_right m_law_stepped m_law_bent m_law_draw m_law_half_way m_law_place m_law_line m_law_feed))))))
noncomputable abbrev W1 (m_is_line : DFn) (m_law_right : DFn) (m_law_stepped : DFn) (m_law_bent : DFn) (m_law_draw : DFn) (m_law_half_way : DFn) (m_law_place : DFn) (m_law_line : DFn) (m_law_feed : DFn) : DM := (i4 (dOr (j8 (dTr (a9 m_law_right (a6 (d0 (a6 (dC (.bl false)) (a6 (a9 m_law_stepped (a6 (dV 9) a7)) a7))) a7)))) (j8 (dTr (a9 m_law_right (a6 (d0 (a6 (dC (.bl true)) (a6 (a9 m_law_stepped (a6 (dV 9) a7)) a7))) a7))))) (i3 (dC (.bl false))) i5)
noncomputable abbrev Y9 (m_is_line : DFn) (m_law_right : DFn) (m_law_stepped : DFn) (m_law_bent : DFn) (m_law_draw : DFn) (m_law_half_way : DFn) (m_law_place : DFn) (m_law_line : DFn) (m_law_feed : DFn) : DM := (i4 (dB (dOp Z2 (a9 m_is_line (a6 (dV 7) a7)) (dC (.bl false)))) (i3 (dC (.bl false))) i5)
noncomputable def a2R (m_is_line : DFn) (m_law_right : DFn) (m_law_stepped : DFn) (m_law_bent : DFn) (m_law_draw : DFn) (m_law_half_way : DFn) (m_law_place : DFn) (m_law_line : DFn) (m_law_feed : DFn) : DM := (c5 (e8 (a9 m_law_feed (a6 (dV 0) a7)) (c6 1)) (c5 (Q7 (a6 (dC (.int 6)) a7) (c6 2) (a0o m_is_line m_law_right m_law_stepped m_law_bent m_law_draw m_law_half_way m_law_place m_law_line m_law_feed)) (c5 (J8 (d0 (a6 (dC (.int 1)) (a6 (dC (.int 2)) (a6 (dC (.int 3)) (a6 (dC (.int 8)) (a6 (dC (.int 9)) (a6 (dC (.int 10)) a7))))))) (c6 9) (W1 m_is_line m_law_right m_law_stepped m_law_bent m_law_draw m_law_half_way m_law_place m_law_line m_law_feed)) (c5 (e8 (d0 (a6 (d0 (a6 (dC (.int 0)) (a6 (dC (.int 0)) (a6 (dC (.int 1)) a7)))) (a6 (d0 (a6 (dC (.int 1)) (a6 (dC (.int 0)) (a6 (dC (.int 1)) a7)))) a7))) (l0 2 (j9 (c6 10) (j9 (c6 11) l4)))) (c5 (D0 12 (i8 (a6 (d0 (a6 (dC (.bl false)) (a6 (i7 (i8 (a6 (dV 10) (a6 (dV 11) a7)))) a7))) (a6 (i7 (i8 (a6 (dC (.bl false)) (a6 (d0 (a6 (dV 10) (a6 (dV 11) a7))) a7)))) (a6 (d0 (a6 (dC (.int 0)) (a6 (d0 (a6 (dV 10) (a6 (dV 11) a7))) a7))) (a6 (d0 (a6 (dC (.bl false)) (a6 (d0 (a6 (dV 10) (a6 (dV 10) a7))) a7))) (a6 (dC .non) (a6 (d0 a7) (a6 (d0 (a6 (dC (.bl false)) a7)) a7))))))))) (c5 (J8 (dV 12) (c6 7) (Y9 m_is_line m_law_right m_law_stepped m_law_bent m_law_draw m_law_half_way m_law_place m_law_line m_law_feed)) (i3 (l6 (dOp a08 (a9 m_is_line (a6 (d0 (a6 (dC (.bl false)) (a6 (d0 (a6 (dV 10) (a6 (dV 11) (a6 (dV 10) a7)))) a7))) a7)) (dC (.bl true))) (dOp a08 (a9 m_is_line (a6 (d0 (a6 (dC (.bl true)) (a6 (d0 (a6 (dV 10) (a6 (dV 11) (a6 (dV 10) a7)))) a7))) a7)) (dC (.bl false)))))))))))
noncomputable def a1i (m_is_line : DFn) (m_law_right : DFn) (m_law_stepped : DFn) (m_law_bent : DFn) (m_law_draw : DFn) (m_law_half_way : DFn) (m_law_place : DFn) (m_law_line : DFn) (m_law_feed : DFn) : DFn := mFn 13 (a2R m_is_line m_law_right m_law_stepped m_law_bent m_law_draw m_law_half_way m_law_place m_law_line m_law_feed)
end T

namespace DL
open PySem L2
theorem W9 {n k : Nat} (hk : 0 < k) (h : n < 2 ^ k) : n.log2 < k := by
 by_cases h0 : n = 0
 ·subst h0; simpa using hk
 ·exact (Nat.log2_lt h0).mpr h
theorem Z6 {i : Int} (h : i.natAbs < 2 ^ 200) : A5 i = true := by
 have := W9 (by decide) h
 exact decide_eq_true (by omega)
theorem b0n {j : Int} (h0 : j ≠ 0) (h : j.natAbs < 2 ^ 200) : F6 j = true := by
 have := W9 (by decide) h
 unfold F6
 rw [decide_eq_true h0, Bool.true_and]
 exact decide_eq_true (by omega)
theorem a4D (i : Int) : w6 (.int i) = true := by simp [w6, D.plain, D.py, SeqAt.shaped, PyData.canLay0, PyData.depth]
theorem G2 (i j : Int) : pNe (.int i) (.int j) = some (.bl (!decide (i = j))) := by
 simp only [pNe, a4D, Bool.and_self, if_true, D.py, PyData.eqv, Bool.beq_eq_decide_eq]
theorem D1 (i j : Int) : pEq (.int i) (.int j) = some (.bl (decide (i = j))) := by
 simp only [pEq, a4D, Bool.and_self, if_true, D.py, PyData.eqv, Bool.beq_eq_decide_eq]
theorem b0q (x y : Str) : pEq (.str x) (.str y) = some (.bl (decide (x = y))) := rfl
theorem a8a (a b c d : Int) : pEq (.tup [.int a, .int b]) (.tup [.int c, .int d]) = some (.bl (decide (a = c) && decide (b = d))) := by
 have h : ∀ a b : Int, w6 (.tup [.int a, .int b]) = true := fun a b => by simp [w6, D.plain, D.plains, D.py, D.pys, SeqAt.shaped, PyData.canLay0, PyData.canLayAll0, PyData.depth, PyData.depthAll]
 simp only [pEq, h, Bool.and_self, if_true, D.py, D.pys, PyData.eqv, PyData.eqvAll, Bool.beq_eq_decide_eq, Bool.and_true]
theorem b2H {i : Int} (h : i.natAbs.log2 < 1920) : (PySem.Str.ofString (toString i)).length ≤ 1921 := PyProof.Rows.int_text_len_1921 h
theorem b2D (b : Bool) : N7 (.bl b) = true := by cases b <;> (simp only [N7, D.plain, D.py, PyData.showable, PyData.canLay0, PyData.depth, PyData.shown, Bool.and_true, Bool.true_and]; decide +kernel)
theorem a7d {d : D} (h : N7 d = true) : Q8 d = some (.str d.py.shown) := by unfold Q8; rw [if_pos h]
theorem a5D (f : FS) (h : f.kind = 0) : f.get "at" = some (.int f.pos) := by unfold FS.get; rw [if_pos h, if_neg (by decide +kernel), if_pos rfl]
theorem a0p {α : Type} {xs : List α} {i : Int} (h0 : 0 ≤ i) (h1 : i < xs.length) : atI xs i = xs[i.toNat]? := by
 unfold atI ixN
 rw [if_pos h0, if_pos h1]
 rfl
theorem P0 {a b : Int} (h : 0 < b) : 0 ≤ a.fmod b ∧ a.fmod b < b := by
 rw [Int.fmod_eq_emod_of_nonneg a (by omega)]
 exact ⟨Int.emod_nonneg a (by omega), Int.emod_lt_of_pos a h⟩
end DL

namespace DL
open PySem L2
theorem o0 {a b : DM} {s s1 : DS} (h : a s = some (.next, s1)) : c5 a b s = b s1 := by simp [c5, h, m6]
theorem D7 {a b : DM} {s s1 : DS} {d : D} (h : a s = some (.ret d, s1)) : c5 a b s = some (.ret d, s1) := by simp [c5, h, m6]
theorem b1i {f : DE} {i : Nat} {s s1 : DS} {d : D} (h : f s = some (d, s1)) : e8 f (c6 i) s = some (.next, { s1 with sl := s1.sl.set i (.val d) }) := by simp [e8, h, c6]
theorem B7 {m : DFn} {a : DA} {s s1 : DS} {xs : List D} {d : D} {fs : Option FS} (ha : a s = some (xs, s1)) (hm : m xs s1.fs = some (d, fs)) : a9 m a s = some (d, { s1 with fs := fs }) := by
 unfold a9
 rw [ha, Option.bind_some, hm]
 rfl
theorem m5 {p : D → D → Option D} {a b : DE} {s s1 s2 : DS} {x y z : D} (h1 : a s = some (x, s1)) (h2 : b s1 = some (y, s2)) (h3 : p x y = some z) : dOp p a b s = some (z, s2) := by
 unfold dOp
 rw [h1, Option.bind_some, h2, Option.bind_some, h3]
 rfl
theorem u0 {a : DE} {b : DA} {s s1 s2 : DS} {x : D} {xs : List D} (h1 : a s = some (x, s1)) (h2 : b s1 = some (xs, s2)) : a6 a b s = some (x :: xs, s2) := by
 unfold a6
 rw [h1, Option.bind_some, h2]
 rfl
theorem A4 {f : DE} {t : D → DS → Option DS} {s s1 s2 : DS} {d : D} (h1 : f s = some (d, s1)) (h2 : t d s1 = some s2) : e8 f t s = some (.next, s2) := by
 unfold e8
 rw [h1, Option.bind_some, h2]
 rfl
theorem N3 {c : DT} {a b : DM} {s s1 : DS} (h : c s = some (true, s1)) : i4 c a b s = a s1 := by simp [i4, h]
theorem a0C {c : DT} {a b : DM} {s s1 : DS} (h : c s = some (false, s1)) : i4 c a b s = b s1 := by simp [i4, h]
theorem D9 {f : DE} {s s1 : DS} {d : D} (h : f s = some (d, s1)) : i3 f s = some (.ret d, s1) := by simp [i3, h]
theorem P1 {f : DE} {s s1 : DS} {b : Bool} (h : f s = some (.bl b, s1)) : dB f s = some (b, s1) := by simp [dB, h]
theorem u6 {n : Nat} {b : DM} {ds : List D} {fs : Option FS} {d : D} {s : DS} (h : b ⟨ds.map .val ++ List.replicate (n - ds.length) .no, fs⟩ = some (.ret d, s)) : mFn n b ds fs = some (d, s.fs) := by simp [mFn, h]
theorem L5 {m : DFn} {a : DA} {sl : List Sl} {fs : Option FS} {xs : List D} {d : D} (ha : a ⟨sl, fs⟩ = some (xs, ⟨sl, fs⟩)) (hm : m xs fs = some (d, fs)) : a9 m a ⟨sl, fs⟩ = some (d, ⟨sl, fs⟩) := B7 (s1 := ⟨sl, fs⟩) ha hm
theorem K1 {m : DFn} {a : DA} {sl : List Sl} {fs fs' : Option FS} {xs : List D} {d : D} (ha : a ⟨sl, fs⟩ = some (xs, ⟨sl, fs⟩)) (hm : m xs fs = some (d, fs')) : a9 m a ⟨sl, fs⟩ = some (d, ⟨sl, fs'⟩) := B7 (s1 := ⟨sl, fs⟩) ha hm
theorem a1s {m : DFn} {a : DA} {sl sl' : List Sl} {fs fs' fs2 : Option FS} {xs : List D} {d : D} (ha : a ⟨sl, fs⟩ = some (xs, ⟨sl', fs'⟩)) (hm : m xs fs' = some (d, fs2)) : a9 m a ⟨sl, fs⟩ = some (d, ⟨sl', fs2⟩) := B7 (s1 := ⟨sl', fs'⟩) ha hm
theorem b2G {a b c : DE} {s s1 s2 s3 : DS} {x y z : D} (h1 : a s = some (x, s1)) (h2 : b s1 = some (y, s2)) (h3 : c s2 = some (z, s3)) : d0 (a6 a (a6 b (a6 c a7))) s = some (.tup [x, y, z], s3) := by
 unfold d0
 rw [u0 h1 (u0 h2 (u0 h3 rfl)), Option.bind_some]
 exact if_pos (e := (none : Option (D × DS))) (show 3 ≤ sizeLine by decide)
theorem a7u {t : D → DS → Option DS} {b : DM} {d : D} {r : List D} {s s1 s2 : DS} (h1 : t d s = some s1) (h2 : b s1 = some (.next, s2)) : w8 t b (d :: r) s = w8 t b r s2 := by
 rw [w8, h1, Option.bind_some, h2]
 rfl
theorem b1K {a b : DE} {s s1 s2 : DS} {x y : D} (h1 : a s = some (x, s1)) (h2 : b s1 = some (y, s2)) : d0 (a6 a (a6 b a7)) s = some (.tup [x, y], s2) := by
 unfold d0
 rw [u0 h1 (u0 h2 rfl), Option.bind_some]
 exact if_pos (e := (none : Option (D × DS))) (show 2 ≤ sizeLine by decide)
theorem a4W {f : DE} {s s1 : DS} {b : Bool} (h : f s = some (.bl b, s1)) : dTr f s = some (b, s1) := by
 unfold dTr
 rw [h]
 rfl
theorem a3n {a : DT} {s s1 : DS} {b : Bool} (h : a s = some (b, s1)) : j8 a s = some (!b, s1) := by
 unfold j8
 rw [h]
 rfl
theorem b2C {a b : DT} {s s1 : DS} {r : Option (Bool × DS)} (h1 : a s = some (true, s1)) (h2 : b s1 = r) : k9 a b s = r := by
 unfold k9
 rw [h1, Option.bind_some, if_pos rfl]
 exact h2
theorem b1T {a b : DT} {s s1 : DS} (h1 : a s = some (false, s1)) : k9 a b s = some (false, s1) := by
 unfold k9
 rw [h1, Option.bind_some, if_neg Bool.false_ne_true]
theorem a5h {a b : DT} {s s1 : DS} (h1 : a s = some (true, s1)) : dOr a b s = some (true, s1) := by
 unfold dOr
 rw [h1, Option.bind_some, if_pos rfl]
theorem a03 {a b : DT} {s s1 : DS} {r : Option (Bool × DS)} (h1 : a s = some (false, s1)) (h2 : b s1 = r) : dOr a b s = r := by
 unfold dOr
 rw [h1, Option.bind_some, if_neg Bool.false_ne_true]
 exact h2
theorem a1j {c : DT} {a : DM} {s s1 : DS} (h : c s = some (false, s1)) : i4 c a i5 s = some (.next, s1) := by
 rw [a0C h]
 rfl
theorem a4m {i : Nat} {f : DA} {s s1 : DS} {ds : List D} (h : f s = some (ds, s1)) (hi : i < s1.sl.length) : D0 i f s = some (.next, { s1 with sl := s1.sl.set i (.own ds) }) := by
 unfold D0
 rw [h, Option.bind_some, if_pos hi]
theorem a0A {f : DA} {s s1 : DS} {ds : List D} (h : f s = some (ds, s1)) : i7 f s = some (.lst ds, s1) := by
 unfold i7
 rw [h]
 rfl
theorem a7t {idx : List Nat} {fi : DA} {fc : DT} {fe : DE} {s s1 : DS} {ds R : List D} (h : fi s = some (ds, s1)) (hz : ds.length ≤ sizeLine) (c : C4 (fun d => some (.val d :: E9 idx s1.sl)) fc fe ds s1.fs = some (R, s1.fs)) : C7 idx fi fc fe s = some (R, s1) := by
 unfold C7
 rw [h, Option.bind_some, if_pos hz, c]
 rfl
theorem a6i {i : Nat} {f : DE} {s s1 : DS} {ds ds0 : List D} {d : D} (h0 : s.sl[i]? = some (.own ds0)) (h : f s = some (d, s1)) (h1 : s1.sl[i]? = some (.own ds)) (hl : ds.length < sizeLine) : G5 i f s = some (.next, { s1 with sl := s1.sl.set i (.own (ds ++ [d])) }) := by
 unfold G5
 rw [h0]
 show (f s).bind _ = _
 rw [h, Option.bind_some]
 show (match s1.sl[i]? with | some (.own ds) => _ | _ => _) = _
 rw [h1]
 exact if_pos hl
theorem b1m {a : DE} {s s1 : DS} {x : D} (h : a s = some (x, s1)) : i8 (a6 a a7) s = some ([x], s1) := by
 unfold i8
 rw [u0 h rfl, Option.bind_some]
 exact if_pos (e := (none : Option (List D × DS))) (show 1 ≤ sizeLine by decide)
theorem a1y {p : D → Option D} {a : DE} {s s1 : DS} {x d : D} (h : a s = some (x, s1)) (hp : p x = some d) : dCB (one p) (a6 a a7) s = some (d, s1) := by
 unfold dCB
 rw [u0 h rfl, Option.bind_some]
 show (p x).map _ = _
 rw [hp]
 rfl
theorem b2a {c : DT} {a b : DE} {s s1 : DS} (h : c s = some (true, s1)) : dIf c a b s = a s1 := by
 unfold dIf
 rw [h]
 rfl
theorem b2Q {c : DT} {a b : DE} {s s1 : DS} (h : c s = some (false, s1)) : dIf c a b s = b s1 := by
 unfold dIf
 rw [h]
 rfl
noncomputable def fr (p : Rat) : D := .tup [.int p.num, .int p.den]
noncomputable def Sz (k : Nat) (p : Rat) : Prop := p.num.natAbs < 2 ^ k ∧ p.den < 2 ^ k
theorem Sz.mono {k l : Nat} {p : Rat} (h : Sz k p) (hl : k ≤ l) : Sz l p :=
 ⟨Nat.lt_of_lt_of_le h.1 (Nat.pow_le_pow_right (by decide) hl), Nat.lt_of_lt_of_le h.2 (Nat.pow_le_pow_right (by decide) hl)⟩
theorem a3R {a b : Int} (hb : b ≠ 0) : (Rat.divInt a b).num.natAbs ≤ a.natAbs ∧ (Rat.divInt a b).den ≤ b.natAbs := by
 constructor
 ·rw [Rat.num_divInt, Int.natAbs_ediv_of_dvd (Int.dvd_mul_of_dvd_right (Int.gcd_dvd_right ..))]
  rw [Int.natAbs_mul, Int.natAbs_sign_of_ne_zero hb, Nat.one_mul]
  exact Nat.div_le_self _ _
 ·rw [Rat.den_divInt, if_neg hb]
  exact Nat.div_le_self _ _
theorem Sz.of_divInt {k : Nat} {a b : Int} (hb : b ≠ 0) (h1 : a.natAbs < 2 ^ k) (h2 : b.natAbs < 2 ^ k) : Sz k (Rat.divInt a b) :=
 ⟨Nat.lt_of_le_of_lt (a3R hb).1 h1, Nat.lt_of_le_of_lt (a3R hb).2 h2⟩
theorem a7b {a b k l : Nat} (h1 : a < 2 ^ k) (h2 : b < 2 ^ l) : a * b < 2 ^ (k + l) := by
 rw [Nat.pow_add]
 exact Nat.mul_lt_mul_of_lt_of_lt h1 h2
theorem a9P {a b k : Nat} (h1 : a < 2 ^ k) (h2 : b < 2 ^ k) : a + b < 2 ^ (k + 1) := by
 rw [Nat.pow_succ]; omega
noncomputable def Bd (k : Nat) (i : Int) : Prop := i.natAbs < 2 ^ k
theorem Bd.mono {k l : Nat} {i : Int} (h : Bd k i) (hl : k ≤ l) : Bd l i := Nat.lt_of_lt_of_le h (Nat.pow_le_pow_right (by decide) hl)
theorem Bd.mul {k l : Nat} {i j : Int} (h1 : Bd k i) (h2 : Bd l j) : Bd (k + l) (i * j) := by
 unfold Bd; rw [Int.natAbs_mul]; exact a7b h1 h2
theorem Bd.add {k l : Nat} {i j : Int} (h1 : Bd k i) (h2 : Bd l j) : Bd (max k l + 1) (i + j) :=
 Nat.lt_of_le_of_lt (Int.natAbs_add_le i j) (a9P (h1.mono (Nat.le_max_left ..)) (h2.mono (Nat.le_max_right ..)))
theorem Bd.neg {k : Nat} {i : Int} (h1 : Bd k i) : Bd k (-i) := by unfold Bd; rw [Int.natAbs_neg]; exact h1
theorem Bd.sub {k l : Nat} {i j : Int} (h1 : Bd k i) (h2 : Bd l j) : Bd (max k l + 1) (i - j) := by rw [Int.sub_eq_add_neg]; exact h1.add h2.neg
theorem Bd.gcd {k : Nat} {i : Int} {j : Int} (h : Bd k j) (hj : j ≠ 0) : Bd k (Int.gcd i j : Int) := by
 have : Int.gcd i j ≤ j.natAbs := Nat.le_of_dvd (by omega) (Nat.gcd_dvd_right i.natAbs j.natAbs)
 exact Nat.lt_of_le_of_lt this h
theorem Bd.bits {k : Nat} {i : Int} (h : Bd k i) (hk : k ≤ 8000) : A5 i = true := by
 have := W9 (k := 8000) (by decide) (h.mono hk)
 exact decide_eq_true (by omega)
theorem Bd.div {k : Nat} {i : Int} (h : Bd k i) (h0 : i ≠ 0) (hk : k ≤ 8000) : F6 i = true := by
 have := W9 (k := 8000) (by decide) (h.mono hk)
 unfold F6
 rw [decide_eq_true h0, Bool.true_and]
 exact decide_eq_true (by omega)
theorem Bd.lit {k : Nat} {i : Int} (h : decide (i.natAbs < 2 ^ k) = true) : Bd k i := by unfold Bd; exact of_decide_eq_true h
theorem Sz.num {k : Nat} {p : Rat} (h : Sz k p) : Bd k p.num := h.1
theorem Sz.den {k : Nat} {p : Rat} (h : Sz k p) : Bd k (p.den : Int) := h.2
theorem G9 (p : Rat) : (p.den : Int) ≠ 0 := by have := p.den_nz; omega
theorem den_pos (p : Rat) : (0 : Int) < p.den := by have := p.den_nz; omega
theorem a1F (p : Rat) : p = Rat.divInt p.num p.den := (Rat.num_divInt_den p).symm
theorem Sz.mul {k l : Nat} {p q : Rat} (h1 : Sz k p) (h2 : Sz l q) : Sz (k + l) (p * q) := by
 rw [a1F p, a1F q, Rat.divInt_mul_divInt]
 exact Sz.of_divInt (Int.mul_ne_zero (G9 p) (G9 q)) (Bd.mul h1.num h2.num) (Bd.mul h1.den h2.den)
theorem Sz.add {k l : Nat} {p q : Rat} (h1 : Sz k p) (h2 : Sz l q) : Sz (k + l + 1) (p + q) := by
 rw [a1F p, a1F q, Rat.divInt_add_divInt _ _ (G9 p) (G9 q)]
 refine Sz.of_divInt (Int.mul_ne_zero (G9 p) (G9 q)) ?_ (Bd.mono (Bd.mul h1.den h2.den) (by omega))
 have e1 := Bd.mul h1.num h2.den
 have e2 := Bd.mul h2.num h1.den
 exact Bd.mono (Bd.add e1 e2) (by omega)
theorem Sz.neg {k : Nat} {p : Rat} (h : Sz k p) : Sz k (-p) := ⟨by rw [Rat.neg_num, Int.natAbs_neg]; exact h.1, h.2⟩
theorem Sz.int {k : Nat} {i : Int} (h : Bd k i) (hk : 1 ≤ k) : Sz k (i : Rat) := ⟨h, Nat.lt_of_lt_of_le (by decide : 1 < 2 ^ 1) (Nat.pow_le_pow_right (by decide) hk)⟩
theorem Sz.lit {k : Nat} {p : Rat} (h : decide (p.num.natAbs < 2 ^ k ∧ p.den < 2 ^ k) = true) : Sz k p := by unfold Sz; exact of_decide_eq_true h
theorem b18 {a b : Int} (hb : 0 < b) : ((Rat.divInt a b).den : Int) = b / (Int.gcd a b : Int) := by
 rw [Rat.den_divInt, if_neg (by omega), Int.gcd_comm]
 rw [Int.natCast_ediv, Int.natAbs_of_nonneg (by omega)]
end DL

namespace DL
open PySem L2
noncomputable abbrev Pt := Rat × Rat
noncomputable def pL (a : Pt) : Int := ((Nat.lcm a.1.den a.2.den : Nat) : Int)
noncomputable def pX (a : Pt) : Int := a.1.num * ((Nat.lcm a.1.den a.2.den / a.1.den : Nat) : Int)
noncomputable def pY (a : Pt) : Int := a.2.num * ((Nat.lcm a.1.den a.2.den / a.2.den : Nat) : Int)
noncomputable def pt (a : Pt) : D := .tup [.int (pX a), .int (pY a), .int (pL a)]
theorem lcm_pos (p q : Rat) : 0 < Nat.lcm p.den q.den := Nat.lcm_pos (by have := p.den_nz; omega) (by have := q.den_nz; omega)
theorem a1W (a : Pt) : 0 < pL a := by have := lcm_pos a.1 a.2; unfold pL; omega
theorem a1M (a : Pt) : pL a ≠ 0 := by have := a1W a; omega
theorem F1 (a : Pt) : (0 : Rat) < (pL a : Rat) := Rat.intCast_pos.mpr (a1W a)
theorem a3J (a : Pt) : (pL a : Rat) ≠ 0 := fun h => a1M a (Rat.intCast_eq_zero_iff.mp h)
theorem a0Q (p : Rat) : (p.num : Rat) = p * ((p.den : Int) : Rat) := by
 have e := Rat.num_divInt_den p
 rw [Rat.divInt_eq_div] at e
 have hd : ((p.den : Int) : Rat) ≠ 0 := fun h => G9 p (Rat.intCast_eq_zero_iff.mp h)
 have : (p.num : Rat) / ((p.den : Int) : Rat) * ((p.den : Int) : Rat) = (p.num : Rat) := Rat.div_mul_cancel hd
 rw [e] at this
 exact this.symm
theorem P7 (a : Pt) : (pX a : Rat) = a.1 * (pL a : Rat) := by
 unfold pX pL
 obtain ⟨c, hc⟩ := Nat.dvd_lcm_left a.1.den a.2.den
 have hd := a.1.den_nz
 have e : Nat.lcm a.1.den a.2.den / a.1.den = c := Nat.div_eq_of_eq_mul_right (by omega) hc
 rw [e, hc, Int.natCast_mul, Rat.intCast_mul, Rat.intCast_mul, a0Q]
 grind
theorem P4 (a : Pt) : (pY a : Rat) = a.2 * (pL a : Rat) := by
 unfold pY pL
 obtain ⟨c, hc⟩ := Nat.dvd_lcm_right a.1.den a.2.den
 have hd := a.2.den_nz
 have e : Nat.lcm a.1.den a.2.den / a.2.den = c := Nat.div_eq_of_eq_mul_right (by omega) hc
 rw [e, hc, Int.natCast_mul, Rat.intCast_mul, Rat.intCast_mul, a0Q]
 grind
theorem a1E {x d : Int} {p : Rat} (hd : 0 < d) (h : (x : Rat) = p * (d : Rat)) : ∃ c : Int, d = p.den * c ∧ x = p.num * c := by
 have h1 : x * p.den = p.num * d := by
  have e := a0Q p
  have : ((x * p.den : Int) : Rat) = ((p.num * d : Int) : Rat) := by
   rw [Rat.intCast_mul, Rat.intCast_mul, h, e]; grind
  exact Rat.intCast_inj.mp this
 have dv : (p.den : Int) ∣ p.num * d := ⟨x, by rw [← h1, Int.mul_comm]⟩
 have dv2 : p.den ∣ p.num.natAbs * d.natAbs := by
  have := Int.natAbs_dvd_natAbs.mpr dv
  rwa [Int.natAbs_mul, Int.natAbs_natCast] at this
 have dv3 : p.den ∣ d.natAbs := Nat.Coprime.dvd_of_dvd_mul_left (Nat.Coprime.symm p.reduced) dv2
 obtain ⟨c, hc⟩ : (p.den : Int) ∣ d := Int.dvd_natAbs.mp (Int.ofNat_dvd.mpr dv3)
 refine ⟨c, hc, ?_⟩
 have hp := den_pos p
 have : (p.den : Int) * x = p.den * (p.num * c) := by rw [Int.mul_comm, h1, hc]; grind
 exact Int.eq_of_mul_eq_mul_left (by omega) this
theorem a53 {x y d : Int} {a : Pt} (hd : 0 < d) (hg : Int.gcd (Int.gcd x y : Int) d = 1) (hx : (x : Rat) = a.1 * (d : Rat)) (hy : (y : Rat) = a.2 * (d : Rat)) : x = pX a ∧ y = pY a ∧ d = pL a := by
 obtain ⟨c1, e1, f1⟩ := a1E hd hx
 obtain ⟨c2, e2, f2⟩ := a1E hd hy
 obtain ⟨D, rfl⟩ := Int.eq_ofNat_of_zero_le (show 0 ≤ d by omega)
 have dl : Nat.lcm a.1.den a.2.den ∣ D := Nat.lcm_dvd (Int.ofNat_dvd.mp ⟨c1, e1⟩) (Int.ofNat_dvd.mp ⟨c2, e2⟩)
 obtain ⟨m, hm⟩ := dl
 have key : ∀ z : Int, ∀ r : Rat, (z : Rat) = r * ((D : Int) : Rat) → ∀ w : Int, (w : Rat) = r * (pL a : Rat) → z = w * m := by
  intro z r h1 w h2
  have : (z : Rat) = ((w * m : Int) : Rat) := by
   rw [h1, Rat.intCast_mul, h2, hm]
   have : (((Nat.lcm a.1.den a.2.den * m : Nat) : Int) : Rat) = (pL a : Rat) * ((m : Int) : Rat) := by
    rw [Int.natCast_mul, Rat.intCast_mul]; rfl
   rw [this]; grind
  exact Rat.intCast_inj.mp this
 have kx := key x a.1 hx (pX a) (P7 a)
 have ky := key y a.2 hy (pY a) (P4 a)
 have kd : (D : Int) = pL a * m := by rw [hm, Int.natCast_mul]; rfl
 have m1 : (m : Int) ∣ 1 := by
  have h : (m : Int) ∣ (Int.gcd (Int.gcd x y : Int) (D : Int) : Int) := by
   refine Int.dvd_coe_gcd (Int.dvd_coe_gcd ?_ ?_) ?_
   ·exact ⟨pX a, by rw [kx, Int.mul_comm]⟩
   ·exact ⟨pY a, by rw [ky, Int.mul_comm]⟩
   ·exact ⟨pL a, by rw [kd, Int.mul_comm]⟩
  rwa [hg] at h
 have m2 : m = 1 := Nat.eq_one_of_dvd_one (Int.ofNat_dvd.mp m1)
 subst m2
 exact ⟨by rw [kx]; simp, by rw [ky]; simp, by rw [kd]; simp⟩
theorem a4y (a : Pt) : Int.gcd (Int.gcd (pX a) (pY a) : Int) (pL a) = 1 := by
 have g0 : 0 < Int.gcd (Int.gcd (pX a) (pY a) : Int) (pL a) := Int.gcd_pos_of_ne_zero_right _ (a1M a)
 obtain ⟨d, hd⟩ := Int.gcd_dvd_right (Int.gcd (pX a) (pY a) : Int) (pL a)
 have h1 := Int.gcd_dvd_left (Int.gcd (pX a) (pY a) : Int) (pL a)
 obtain ⟨x, hx⟩ := Int.dvd_trans h1 (Int.gcd_dvd_left ..)
 obtain ⟨y, hy⟩ := Int.dvd_trans h1 (Int.gcd_dvd_right ..)
 generalize hgg : Int.gcd (Int.gcd (pX a) (pY a) : Int) (pL a) = G at *
 have hL := a1W a
 have dpos : 0 < d := by
  rcases Int.lt_or_le 0 d with z | z
  ·exact z
  ·have : (G : Int) * d ≤ G * 0 := Int.mul_le_mul_of_nonneg_left z (by omega)
   omega
 have hGr : ((G : Int) : Rat) ≠ 0 := fun h => by have := Rat.intCast_eq_zero_iff.mp h; omega
 have q1 : (x : Rat) = a.1 * (d : Rat) := by
  have e := P7 a
  rw [hx, hd, Rat.intCast_mul, Rat.intCast_mul] at e
  grind
 have q2 : (y : Rat) = a.2 * (d : Rat) := by
  have e := P4 a
  rw [hy, hd, Rat.intCast_mul, Rat.intCast_mul] at e
  grind
 obtain ⟨c1, e1, f1⟩ := a1E dpos q1
 obtain ⟨c2, e2, f2⟩ := a1E dpos q2
 obtain ⟨D, rfl⟩ := Int.eq_ofNat_of_zero_le (show 0 ≤ d by omega)
 obtain ⟨m, hm⟩ : Nat.lcm a.1.den a.2.den ∣ D := Nat.lcm_dvd (Int.ofNat_dvd.mp ⟨c1, e1⟩) (Int.ofNat_dvd.mp ⟨c2, e2⟩)
 have hl : (pL a : Int) = ((Nat.lcm a.1.den a.2.den : Nat) : Int) := rfl
 rw [hl, hm] at hd
 have hd' : Nat.lcm a.1.den a.2.den = G * (Nat.lcm a.1.den a.2.den * m) := by exact_mod_cast hd
 have hlp := lcm_pos a.1 a.2
 have : Nat.lcm a.1.den a.2.den * (G * m) = Nat.lcm a.1.den a.2.den * 1 := by
  rw [Nat.mul_one]
  have e3 : G * (Nat.lcm a.1.den a.2.den * m) = Nat.lcm a.1.den a.2.den * (G * m) := by grind
  rw [← e3]; exact hd'.symm
 have := Nat.eq_of_mul_eq_mul_left hlp this
 exact Nat.eq_one_of_mul_eq_one_right this
structure Ps (k : Nat) (a : Pt) : Prop where
 x : Bd k (pX a)
 y : Bd k (pY a)
 l : Bd k (pL a)
theorem Ps.of {k l : Nat} {a : Pt} (h1 : Sz k a.1) (h2 : Sz l a.2) : Ps (k + l) a := by
 have hl : Nat.lcm a.1.den a.2.den ≤ a.1.den * a.2.den := Nat.le_of_dvd (Nat.mul_pos (by have := a.1.den_nz; omega) (by have := a.2.den_nz; omega)) (Nat.lcm_dvd_mul ..)
 have b := a7b h1.2 h2.2
 have dl : Nat.lcm a.1.den a.2.den / a.1.den ≤ a.2.den := by
  rw [Nat.div_le_iff_le_mul_add_pred (by have := a.1.den_nz; omega)]; omega
 have dr : Nat.lcm a.1.den a.2.den / a.2.den ≤ a.1.den := by
  rw [Nat.div_le_iff_le_mul_add_pred (by have := a.2.den_nz; omega), Nat.mul_comm a.2.den]; omega
 refine ⟨?_, ?_, ?_⟩
 ·exact Bd.mul h1.num (show Bd l ((_ : Nat) : Int) from Nat.lt_of_le_of_lt dl h2.2)
 ·have := Bd.mul h2.num (show Bd k ((_ : Nat) : Int) from Nat.lt_of_le_of_lt dr h1.2)
  rw [Nat.add_comm]; exact this
 ·exact Nat.lt_of_le_of_lt hl b
noncomputable def u7 (a b c : Pt) : Rat := (b.1 - a.1) * (c.2 - a.2) - (b.2 - a.2) * (c.1 - a.1)
noncomputable def sgn (r : Rat) : Int := if 0 < r then 1 else if r < 0 then -1 else 0
noncomputable def a0M (n : Int) : Int := if 0 < n then 1 else if n < 0 then -1 else 0
theorem a7S {n : Int} {c r : Rat} (hc : 0 < c) (h : (n : Rat) = c * r) : a0M n = sgn r := by
 unfold a0M sgn
 have h1 : 0 < n ↔ 0 < r := by
  rw [← Rat.intCast_pos, h]; exact Rat.mul_pos_iff_of_pos_left hc
 have h2 : n < 0 ↔ r < 0 := by
  rw [← Rat.intCast_neg_iff, h]; exact Rat.mul_neg_iff_of_pos_left hc
 simp only [h1, h2]
noncomputable def lsB (a b : Pt) : Bool := decide (a.1 < b.1) || (decide (a.1 = b.1) && decide (a.2 < b.2))
end DL

namespace DL
open PySem L2
structure Ok (k n : Nat) (d : D) : Prop where
 pl : d.plain = true
 sh : d.py.showable = true
 la : d.py.canLay0 = true
 dp : d.py.depth ≤ k
 le : d.py.leavesShort 1921 = true
 bu : d.py.bulk ≤ n
structure OkL (k n : Nat) (ds : List D) : Prop where
 pl : D.plains ds = true
 sh : PyData.showableAll (D.pys ds) = true
 la : PyData.canLayAll0 (D.pys ds) = true
 dp : PyData.depthAll (D.pys ds) ≤ k
 le : PyData.leavesShortAll 1921 (D.pys ds) = true
 bu : PyData.bulkAll (D.pys ds) ≤ n
theorem Ok.mono {k n k' n' : Nat} {d : D} (h : Ok k n d) (hk : k ≤ k') (hn : n ≤ n') : Ok k' n' d := ⟨h.pl, h.sh, h.la, Nat.le_trans h.dp hk, h.le, Nat.le_trans h.bu hn⟩
theorem OkL.mono {k n k' n' : Nat} {ds : List D} (h : OkL k n ds) (hk : k ≤ k') (hn : n ≤ n') : OkL k' n' ds := ⟨h.pl, h.sh, h.la, Nat.le_trans h.dp hk, h.le, Nat.le_trans h.bu hn⟩
theorem Ok.non : Ok 0 0 .non := ⟨rfl, rfl, rfl, Nat.le_refl _, rfl, Nat.le_refl _⟩
theorem Ok.bl (b : Bool) : Ok 0 0 (.bl b) := ⟨rfl, rfl, rfl, Nat.le_refl _, rfl, Nat.le_refl _⟩
theorem Ok.int {i : Int} (h : Bd 1920 i) : Ok 0 0 (.int i) := by
 have hl : i.natAbs.log2 < 1920 := W9 (by decide) h
 refine ⟨rfl, ?_, rfl, Nat.le_refl _, ?_, Nat.le_refl _⟩
 ·simp only [D.py, PyData.showable]; exact decide_eq_true hl
 ·simp only [D.py, PyData.leavesShort, PyData.shown]
  exact decide_eq_true (b2H hl)
theorem Ok.str {x : Str} (h : PyData.strOk x = true) : Ok 0 x.length (.str x) := by
 refine ⟨rfl, rfl, ?_, Nat.le_refl _, ?_, Nat.le_refl _⟩
 ·simp only [D.py, PyData.canLay0]; exact h
 ·exact PyData.leavesShort_of_canLay0 1921 (.str x) (by simp only [PyData.canLay0]; exact h) rfl
theorem OkL.nil : OkL 0 0 [] := ⟨rfl, rfl, rfl, Nat.le_refl _, rfl, Nat.le_refl _⟩
theorem OkL.cons {k l n m : Nat} {d : D} {ds : List D} (h : Ok k n d) (hs : OkL l m ds) : OkL (max k l) (n + 1 + m) (d :: ds) := by
 refine ⟨?_, ?_, ?_, ?_, ?_, ?_⟩
 ·simp only [D.plains, h.pl, hs.pl, Bool.and_self]
 ·simp only [D.pys, PyData.showableAll, h.sh, hs.sh, Bool.and_self]
 ·simp only [D.pys, PyData.canLayAll0, h.la, hs.la, Bool.and_self]
 ·have := h.dp; have := hs.dp; simp only [D.pys, PyData.depthAll]; omega
 ·simp only [D.pys, PyData.leavesShortAll, h.le, hs.le, Bool.and_self]
 ·have := h.bu; have := hs.bu; simp only [D.pys, PyData.bulkAll]; omega
theorem Ok.tup {k n : Nat} {ds : List D} (h : OkL k n ds) : Ok (k + 1) n (.tup ds) := by
 refine ⟨?_, ?_, ?_, ?_, ?_, ?_⟩
 ·simp only [D.plain, h.pl]
 ·simp only [D.py, PyData.showable, h.sh]
 ·simp only [D.py, PyData.canLay0, h.la]
 ·have := h.dp; simp only [D.py, PyData.depth]; omega
 ·simp only [D.py, PyData.leavesShort, h.le]
 ·have := h.bu; simp only [D.py, PyData.bulk]; omega
theorem Ok.lst {k n : Nat} {ds : List D} (h : OkL k n ds) : Ok (k + 1) n (.lst ds) := by
 refine ⟨?_, ?_, ?_, ?_, ?_, ?_⟩
 ·simp only [D.plain, h.pl]
 ·simp only [D.py, PyData.showable, h.sh]
 ·simp only [D.py, PyData.canLay0, h.la]
 ·have := h.dp; simp only [D.py, PyData.depth]; omega
 ·simp only [D.py, PyData.leavesShort, h.le]
 ·have := h.bu; simp only [D.py, PyData.bulk]; omega
theorem OkL.all {k n : Nat} : ∀ {ds : List D}, (∀ d ∈ ds, Ok k n d) → OkL k (ds.length * (n + 1)) ds
 | [], _ => OkL.nil.mono (by omega) (by omega)
 | d :: r, h => by
  have := (OkL.cons (h d (List.mem_cons_self ..)) (OkL.all (ds := r) fun x hx => h x (List.mem_cons_of_mem _ hx)))
  refine this.mono (by omega) ?_
  rw [List.length_cons, Nat.add_mul, Nat.one_mul]; omega
theorem Ok.show {k n : Nat} {d : D} (h : Ok k n d) (hk : k ≤ 64 := by decide) (hn : n ≤ 8000 := by decide) : N7 d = true := by
 have e := PyData.shown_le_bulk 1921 (by decide) d.py h.le
 have e2 : (1921 + 2) * d.py.bulk ≤ 1923 * 8000 := Nat.mul_le_mul (by decide) (Nat.le_trans h.bu hn)
 have : d.py.shown.length ≤ sizeLine := by rw [sizeLine_eq]; omega
 simp only [N7, h.pl, h.sh, h.la, Bool.true_and, Bool.and_true, decide_eq_true this, decide_eq_true (Nat.le_trans h.dp hk)]
theorem Ok.eq {k n : Nat} {d : D} (h : Ok k n d) (hk : k ≤ 64 := by decide) : w6 d = true := by
 simp only [w6, h.pl, SeqAt.shaped, h.la, Bool.true_and, decide_eq_true (Nat.le_trans h.dp hk)]
theorem Ok.repr {k n : Nat} {d : D} (h : Ok k n d) (hk : k ≤ 64 := by decide) (hn : n ≤ 8000 := by decide) : Q8 d = some (.str d.py.shown) := a7d (h.show hk hn)
theorem Ok.fr {k : Nat} {p : Rat} (h : Sz k p) (hk : k ≤ 1920 := by decide) : Ok 1 2 (fr p) := Ok.tup ((OkL.cons (Ok.int (h.num.mono hk)) (OkL.cons (Ok.int (h.den.mono hk)) OkL.nil)))
theorem Ok.pt {k : Nat} {a : Pt} (h : Ps k a) (hk : k ≤ 1920 := by decide) : Ok 1 3 (pt a) := Ok.tup ((OkL.cons (Ok.int (h.x.mono hk)) (OkL.cons (Ok.int (h.y.mono hk)) (OkL.cons (Ok.int (h.l.mono hk)) OkL.nil))))
theorem ixT (ds : List D) (i : Int) : pIx (.tup ds) (.int i) = atI ds i := rfl
theorem ixL (ds : List D) (i : Int) : pIx (.lst ds) (.int i) = atI ds i := rfl
theorem o7 (p : Rat) : pIx (DL.fr p) (.int 0) = some (.int p.num) := rfl
theorem o9 (p : Rat) : pIx (DL.fr p) (.int 1) = some (.int p.den) := rfl
theorem o8 (a : Pt) : pIx (DL.pt a) (.int 0) = some (.int (pX a)) := rfl
theorem p8 (a : Pt) : pIx (DL.pt a) (.int 1) = some (.int (pY a)) := rfl
theorem p9 (a : Pt) : pIx (DL.pt a) (.int 2) = some (.int (pL a)) := rfl
theorem a7N {a b : Pt} (h1 : pX a = pX b) (h2 : pY a = pY b) (h3 : pL a = pL b) : a = b := by
 have e1 := P7 a; have e2 := P7 b; have e3 := P4 a; have e4 := P4 b
 have n := a3J b
 rw [h1, h3] at e1; rw [h2, h3] at e3
 exact Prod.ext (by grind) (by grind)
theorem a71 {k l : Nat} {a b : Pt} (ha : Ps k a) (hb : Ps l b) (hk : k ≤ 1920 := by decide) (hl : l ≤ 1920 := by decide) : pNe (pt a) (pt b) = some (.bl (!decide (a = b))) := by
 have o1 := (Ok.pt ha hk).eq
 have o2 := (Ok.pt hb hl).eq
 unfold pt at *
 simp only [pNe, o1, o2, Bool.and_self, if_true, D.py, D.pys, PyData.eqv, PyData.eqvAll, Bool.beq_eq_decide_eq, Bool.and_true]
 congr 3
 rw [Bool.eq_iff_iff]
 simp only [Bool.and_eq_true, decide_eq_true_iff]
 constructor
 ·rintro ⟨h1, h2, h3⟩; exact a7N h1 h2 h3
 ·rintro rfl; exact ⟨rfl, rfl, rfl⟩
theorem a4k {k l : Nat} {p q : Rat} (ha : Sz k p) (hb : Sz l q) (hk : k ≤ 1920 := by decide) (hl : l ≤ 1920 := by decide) : pEq (fr p) (fr q) = some (.bl (decide (p = q))) := by
 have o1 := (Ok.fr ha hk).eq
 have o2 := (Ok.fr hb hl).eq
 unfold fr at *
 simp only [pEq, o1, o2, Bool.and_self, if_true, D.py, D.pys, PyData.eqv, PyData.eqvAll, Bool.beq_eq_decide_eq, Bool.and_true]
 congr 2
 rw [Bool.eq_iff_iff]
 simp only [Bool.and_eq_true, decide_eq_true_iff]
 constructor
 ·rintro ⟨h1, h2⟩; exact Rat.ext h1 (by omega)
 ·rintro rfl; exact ⟨rfl, rfl⟩
end DL

namespace DL
open PySem L2
noncomputable def asc (x : Str) : Prop := ∀ c ∈ x.cps.toList, c < 128
mutual
noncomputable def Th (b : Nat) : Nat → D → Prop
 | _, .non => True
 | _, .bl _ => True
 | _, .int i => Bd b i
 | _, .str x => asc x
 | k + 1, .tup ds => Ths b k ds
 | k + 1, .lst ds => Ths b k ds
 | _, _ => False
noncomputable def Ths (b : Nat) : Nat → List D → Prop
 | _, [] => True
 | k, d :: r => Th b k d ∧ Ths b k r
end
noncomputable def bk (d : D) : Nat := d.py.bulk
noncomputable def bks (ds : List D) : Nat := PyData.bulkAll (D.pys ds)
theorem R0 : bks [] = 0 := rfl
theorem E1 (d : D) (r : List D) : bks (d :: r) = bk d + 1 + bks r := by simp only [bks, bk, D.pys, PyData.bulkAll]
theorem Q4 : ∀ (a b : List D), bks (a ++ b) = bks a + bks b
 | [], b => by rw [List.nil_append, R0, Nat.zero_add]
 | d :: r, b => by rw [List.cons_append, E1, E1, Q4 r b]; omega
theorem D5 (ds : List D) : bk (.tup ds) = bks ds := by simp only [bks, bk, D.py, PyData.bulk]
theorem a4q (ds : List D) : bk (.lst ds) = bks ds := by simp only [bks, bk, D.py, PyData.bulk]
theorem M9 (i : Int) : bk (.int i) = 0 := rfl
theorem a01 (i : Bool) : bk (.bl i) = 0 := rfl
theorem a1k (x : Str) : bk (.str x) = x.length := rfl
theorem X6 : ∀ ds : List D, ds.length ≤ bks ds
 | [] => Nat.le_refl _
 | d :: r => by have := X6 r; rw [E1, List.length_cons]; omega
theorem a9O (n : Nat) (ds : List D) : bks (ds.take n) ≤ bks ds := by
 have := Q4 (ds.take n) (ds.drop n); rw [List.take_append_drop] at this; omega
theorem b1n (n : Nat) (ds : List D) : bks (ds.drop n) ≤ bks ds := by
 have := Q4 (ds.take n) (ds.drop n); rw [List.take_append_drop] at this; omega
theorem a4Z : ∀ ds : List D, bks ds.reverse = bks ds
 | [] => rfl
 | d :: r => by rw [List.reverse_cons, Q4, a4Z r, E1, E1, R0]; omega
theorem a0t {ds : List D} {d : D} (h : d ∈ ds) : bk d + 1 ≤ bks ds := by
 induction ds with
 | nil => cases h
 | cons x r ih =>
  rw [E1]
  rcases List.mem_cons.mp h with z | z
  ·subst z; omega
  ·have := ih z; omega
section
variable {b b' k k' : Nat}
mutual
theorem Th.mono (hb : b ≤ b') : ∀ {k k' : Nat} (d : D), k ≤ k' → Th b k d → Th b' k' d
 | k, k', .non, _, _ => by unfold Th; trivial
 | k, k', .bl _, _, _ => by unfold Th; trivial
 | k, k', .int i, _, h => by unfold Th at *; exact Bd.mono h hb
 | k, k', .str x, _, h => by unfold Th at *; exact h
 | 0, k', .tup ds, _, h => by unfold Th at h; exact h.elim
 | k + 1, 0, .tup ds, hk, h => by omega
 | k + 1, k' + 1, .tup ds, hk, h => by unfold Th at *; exact Ths.mono hb ds (by omega) h
 | 0, k', .lst ds, _, h => by unfold Th at h; exact h.elim
 | k + 1, 0, .lst ds, hk, h => by omega
 | k + 1, k' + 1, .lst ds, hk, h => by unfold Th at *; exact Ths.mono hb ds (by omega) h
 | k, k', .feed, _, h => by unfold Th at h; exact h.elim
 | k, k', .scr _, _, h => by unfold Th at h; exact h.elim
theorem Ths.mono (hb : b ≤ b') : ∀ {k k' : Nat} (ds : List D), k ≤ k' → Ths b k ds → Ths b' k' ds
 | k, k', [], _, _ => by unfold Ths; trivial
 | k, k', d :: r, hk, h => by unfold Ths at *; exact ⟨Th.mono hb d hk h.1, Ths.mono hb r hk h.2⟩
end
theorem Ths.mem : ∀ {ds : List D} {d : D}, Ths b k ds → d ∈ ds → Th b k d
 | x :: r, d, h, m => by
  unfold Ths at h
  rcases List.mem_cons.mp m with z | z
  ·subst z; exact h.1
  ·exact Ths.mem h.2 z
theorem Ths.of : ∀ {ds : List D}, (∀ d ∈ ds, Th b k d) → Ths b k ds
 | [], _ => by unfold Ths; trivial
 | d :: r, h => by unfold Ths; exact ⟨h d (List.mem_cons_self ..), Ths.of fun x hx => h x (List.mem_cons_of_mem _ hx)⟩
theorem b2n {x : Str} (h : asc x) : PyData.strOk x = true := by
 unfold PyData.strOk
 rw [Array.all_eq_true_iff_forall_mem]
 intro c hc
 have := h c (Array.mem_toList_iff.mpr hc)
 exact decide_eq_true (by omega)
mutual
theorem Th.ok (hb : b ≤ 1920) : ∀ {k : Nat} (d : D), Th b k d → Ok k (bk d) d
 | k, .non, _ => Ok.non.mono (by omega) (Nat.zero_le _)
 | k, .bl i, _ => (Ok.bl i).mono (by omega) (Nat.zero_le _)
 | k, .int i, h => by unfold Th at h; exact (Ok.int (Bd.mono h hb)).mono (by omega) (Nat.zero_le _)
 | k, .str x, h => by unfold Th at h; exact (Ok.str (b2n h)).mono (by omega) (Nat.le_refl _)
 | 0, .tup ds, h => by unfold Th at h; exact h.elim
 | k + 1, .tup ds, h => by unfold Th at h; rw [D5]; exact Ok.tup (Ths.ok hb ds h)
 | 0, .lst ds, h => by unfold Th at h; exact h.elim
 | k + 1, .lst ds, h => by unfold Th at h; rw [a4q]; exact Ok.lst (Ths.ok hb ds h)
 | k, .feed, h => by unfold Th at h; exact h.elim
 | k, .scr _, h => by unfold Th at h; exact h.elim
theorem Ths.ok (hb : b ≤ 1920) : ∀ {k : Nat} (ds : List D), Ths b k ds → OkL k (bks ds) ds
 | k, [], _ => OkL.nil.mono (by omega) (Nat.zero_le _)
 | k, d :: r, h => by
  unfold Ths at h
  rw [E1]
  exact (OkL.cons (Th.ok hb d h.1) (Ths.ok hb r h.2)).mono (by omega) (Nat.le_refl _)
end
end
theorem a54 {x y : Str} (hx : asc x) (hy : asc y) : asc (x ++ y) := by
 intro c hc
 rw [PySem.Str.cps_append, Array.toList_append, List.mem_append] at hc
 rcases hc with h | h
 ·exact hx c h
 ·exact hy c h
theorem a4H : ∀ (l : List Nat), (∀ c ∈ l, c < 128) → asc (Txt.upper ⟨l.toArray⟩) ∧ (Txt.upper ⟨l.toArray⟩).length = l.length
 | [], _ => by
  have e : Txt.upper ⟨([] : List Nat).toArray⟩ = ⟨#[]⟩ := by decide +kernel
  rw [e]
  exact ⟨fun c hc => by simp at hc, rfl⟩
 | c :: r, h => by
  have e : (⟨(c :: r).toArray⟩ : Str) = ⟨#[c]⟩ ++ ⟨r.toArray⟩ := by
   apply PySem.Str.ext'
   rw [PySem.Str.cps_append]
   simp
  obtain ⟨h1, h2⟩ := a4H r fun x hx => h x (List.mem_cons_of_mem _ hx)
  have hc := h c (List.mem_cons_self ..)
  rw [e, PySem.W.KOpn.upper_app, PySem.W.KOpn.upper_one hc]
  constructor
  ·refine a54 ?_ h1
   intro d hd
   simp at hd
   subst hd
   split <;> omega
  ·rw [strLen_append, h2, List.length_cons]
   show 1 + _ = _
   omega
theorem b1g {x : Str} (h : asc x) : asc (Txt.upper x) ∧ (Txt.upper x).length = x.length := by
 obtain ⟨a⟩ := x
 have := a4H a.toList h
 rw [Array.toArray_toList] at this
 exact this
theorem a9R (i : Int) : asc (PySem.Str.ofString (toString i)) := by
 intro c hc
 rw [PyProof.Rows.signs_ofString] at hc
 obtain ⟨ch, hch, rfl⟩ := List.mem_map.mp hc
 exact int_ascii i ch hch
theorem b0u {b : Nat} {i : Int} (h : Bd b i) (hb : 0 < b) : (PySem.Str.ofString (toString i)).length ≤ b + 1 := by
 rw [ofString_length]
 exact int_text_length_le10 hb (Nat.lt_of_lt_of_le h (Nat.pow_le_pow_left (by decide) _))
theorem a2C (ds : List D) (n : Nat) (h : n ≤ ds.length) : B3 ds none (some (n : Int)) = ds.take n := by
 unfold B3 HT.sIx
 have h1 : ¬ (n : Int) < 0 := by omega
 simp only [h1, if_false, List.drop_zero, Nat.sub_zero, Int.toNat_natCast]
 rw [Nat.min_eq_left h]
theorem a4J (ds : List D) (n : Nat) (h : n ≤ ds.length) : B3 ds (some (n : Int)) none = ds.drop n := by
 unfold B3 HT.sIx
 have h1 : ¬ (n : Int) < 0 := by omega
 simp only [h1, if_false, Int.toNat_natCast]
 rw [Nat.min_eq_left h]
 exact List.take_of_length_le (by rw [List.length_drop]; omega)
theorem a68 {ds : List D} {l h : Option Int} {d : D} (hd : d ∈ B3 ds l h) : d ∈ ds := by
 unfold B3 at hd
 exact List.mem_of_mem_drop (List.mem_of_mem_take hd)
theorem a5T (ds : List D) (l h : Option Int) : bks (B3 ds l h) ≤ bks ds := by
 unfold B3
 exact Nat.le_trans (a9O _ _) (b1n _ _)
theorem b2z (ds : List D) (l h : Option Int) : (B3 ds l h).length ≤ ds.length := by
 unfold B3
 rw [List.length_take, List.length_drop]; omega
end DL

namespace T
open PySem L2 DL
noncomputable abbrev gT : DT := dB (dOp pNe (dL 3) (dC (.int 0)))
noncomputable abbrev gB : DM := c5 (e8 (dOp v8 (dL 2) (dL 3)) (c6 4)) (c5 (e8 (dV 3) (c6 2)) (e8 (dV 4) (c6 3)))
theorem a6u (a b : Sl) (g r : Int) (x : Sl) (fs : Option FS) : gT ⟨[a, b, .val (.int g), .val (.int r), x], fs⟩ = some (!decide (r = 0), ⟨[a, b, .val (.int g), .val (.int r), x], fs⟩) := by
 simp [dB, dOp, dL, dC, G2]
theorem a8c (a b : Sl) (g r : Int) (x : Sl) (fs : Option FS) (h : r ≠ 0) : gB ⟨[a, b, .val (.int g), .val (.int r), x], fs⟩ =
  some (.next, ⟨[a, b, .val (.int r), .val (.int (g.fmod r)), .val (.int (g.fmod r))], fs⟩) := by
 simp [c5, m6, e8, dOp, dL, dV, c6, v8, h]
theorem b0y (a b : Sl) (fs : Option FS) (r : Nat) : ∀ (g : Nat) (x : Sl), ∃ y, L3 gT gB ⟨[a, b, .val (.int g), .val (.int r), x], fs⟩ = some (.next, ⟨[a, b, .val (.int (Nat.gcd g r)), .val (.int 0), y], fs⟩) := by
 induction r using Nat.strongRecOn with
 | ind r ih =>
  intro g x
  by_cases h : r = 0
  ·subst h
   refine ⟨x, ?_⟩
   rw [Nat.gcd_zero_right]
   exact a51 (by rw [a6u]; rfl)
  ·have e : ((g : Int).fmod (r : Int)) = ((g % r : Nat) : Int) := by rw [Int.fmod_eq_emod_of_nonneg _ (by omega)]; rfl
   obtain ⟨y, hy⟩ := ih (g % r) (Nat.mod_lt _ (by omega)) r (.val (.int ((g : Int).fmod (r : Int))))
   refine ⟨y, ?_⟩
   have hg : Nat.gcd g r = Nat.gcd r (g % r) := by rw [Nat.gcd_comm g r, Nat.gcd_rec, Nat.gcd_comm]
   rw [hg]
   refine a6I (s1 := ⟨[a, b, .val (.int g), .val (.int r), x], fs⟩) (by rw [a6u, decide_eq_false (by omega)]; rfl) (a8c _ _ _ _ _ _ (by omega)) ?_
   rw [e] at hy ⊢
   exact hy
theorem a1K (a : Int) : (if a < 0 then -a else a) = ((a.natAbs : Nat) : Int) := by split <;> omega
theorem b19 (a b : Int) (fs : Option FS) : J5 [.int a, .int b] fs = some (.int (Int.gcd a b), fs) := by
 obtain ⟨y, hy⟩ := b0y (.val (.int a)) (.val (.int b)) fs b.natAbs a.natAbs .no
 refine u6 (s := ⟨[.val (.int a), .val (.int b), .val (.int (Int.gcd a b)), .val (.int 0), y], fs⟩) ?_
 show a3X ⟨[.val (.int a), .val (.int b), .no, .no, .no], fs⟩ = _
 unfold a3X
 rw [o0 (s1 := ⟨[.val (.int a), .val (.int b), .val (.int a.natAbs), .no, .no], fs⟩) (by simp [e8, dCB, a6, a7, dL, one, P2, c6, a1K])]
 rw [o0 (s1 := ⟨[.val (.int a), .val (.int b), .val (.int a.natAbs), .val (.int b.natAbs), .no], fs⟩) (by simp [e8, dCB, a6, a7, dL, one, P2, c6, a1K])]
 rw [o0 hy]
 exact D9 (by simp [dV, Int.gcd])
theorem a6w (a : Int) : Int.gcd 0 a = a.natAbs := by simp [Int.gcd]
theorem a6g (a b : Int) : Int.gcd ((a.natAbs : Nat) : Int) b = Int.gcd a b := by simp [Int.gcd]
theorem a0m (P : D) (acc x : Int) (x2 : Sl) (r : List D) (fs : Option FS) : w8 (c6 2) (a0N J5) (.int x :: r) ⟨[.val P, .val (.int acc), x2], fs⟩ = w8 (c6 2) (a0N J5) r ⟨[.val P, .val (.int (Int.gcd acc x)), .val (.int x)], fs⟩ := a7u (s1 := ⟨[.val P, .val (.int acc), .val (.int x)], fs⟩) rfl (A4 (L5 rfl (b19 acc x fs)) rfl)
theorem a4w {ds : List D} {g : Int} {x2 : Sl} {fs : Option FS} (h : w8 (c6 2) (a0N J5) ds ⟨[.val (.tup ds), .val (.int 0), .no], fs⟩ = some (.next, ⟨[.val (.tup ds), .val (.int g), x2], fs⟩)) : S8 J5 [.tup ds] fs = some (.int g, fs) := by
 refine u6 (s := ⟨[.val (.tup ds), .val (.int g), x2], fs⟩) ?_
 show a2I J5 ⟨[.val (.tup ds), .no, .no], fs⟩ = _
 unfold a2I
 have lp : J8 (dV 0) (c6 2) (a0N J5) ⟨[.val (.tup ds), .val (.int 0), .no], fs⟩ = some (.next, ⟨[.val (.tup ds), .val (.int g), x2], fs⟩) := h
 rw [o0 (s1 := ⟨[.val (.tup ds), .val (.int 0), .no], fs⟩) (A4 rfl rfl), o0 lp]
 exact D9 rfl
theorem a9B (a b : Int) (fs : Option FS) : S8 J5 [.tup [.int a, .int b]] fs = some (.int (Int.gcd a b), fs) := a4w (x2 := .val (.int b)) (by
 rw [a0m, a0m, a6w, a6g]
 rfl)
theorem b3N (a b c : Int) (fs : Option FS) : S8 J5 [.tup [.int a, .int b, .int c]] fs = some (.int (Int.gcd (Int.gcd a b : Int) c), fs) := a4w (x2 := .val (.int c)) (by
 rw [a0m, a0m, a0m, a6w, a6g]
 rfl)
theorem a02 {a g c : Int} (hg : g ≠ 0) (e : a = g * c) : a.fdiv g = c := by subst e; exact Int.mul_fdiv_cancel_left c hg
theorem b1t (a b : Int) (hb : b ≠ 0) : let g : Int := if b < 0 then -(Int.gcd a b : Int) else (Int.gcd a b : Int)
  g ≠ 0 ∧ a.fdiv g = (Rat.divInt a b).num ∧ b.fdiv g = ((Rat.divInt a b).den : Int) := by
 intro g
 have g0 : 0 < Int.gcd a b := Int.gcd_pos_of_ne_zero_right a hb
 obtain ⟨c, hc⟩ := Int.gcd_dvd_left a b
 obtain ⟨d, hd⟩ := Int.gcd_dvd_right a b
 have e1 : (Rat.divInt a b).num = if b < 0 then -c else c := by
  rw [Rat.num_divInt, Int.gcd_comm]
  split
  ·rename_i h
   rw [Int.sign_eq_neg_one_of_neg h]
   refine Int.ediv_eq_of_eq_mul_right (by omega) ?_
   grind
  ·rename_i h
   rw [Int.sign_eq_one_of_pos (by omega), Int.one_mul]
   exact Int.ediv_eq_of_eq_mul_right (by omega) hc
 have e2 : ((Rat.divInt a b).den : Int) = if b < 0 then -d else d := by
  rw [Rat.den_divInt, if_neg hb, Int.gcd_comm, Int.natCast_ediv]
  split
  ·refine Int.ediv_eq_of_eq_mul_right (by omega) ?_
   grind
  ·refine Int.ediv_eq_of_eq_mul_right (by omega) ?_
   grind
 rw [e1, e2]
 by_cases h : b < 0
 ·have eg : g = -(Int.gcd a b : Int) := if_pos h
  rw [eg, if_pos h, if_pos h]
  exact ⟨by omega, a02 (by omega) (by grind), a02 (by omega) (by grind)⟩
 ·have eg : g = (Int.gcd a b : Int) := if_neg h
  rw [eg, if_neg h, if_neg h]
  exact ⟨by omega, a02 (by omega) hc, a02 (by omega) hd⟩
theorem b0l {k : Nat} {a b : Int} (hb : b ≠ 0) (h : Bd k b) (hk : k ≤ 8000) : F6 (if b < 0 then -(Int.gcd a b : Int) else (Int.gcd a b : Int)) = true := by
 have g0 : 0 < Int.gcd a b := Int.gcd_pos_of_ne_zero_right a hb
 split
 ·exact (Bd.gcd h hb).neg.div (by omega) hk
 ·exact (Bd.gcd h hb).div (by omega) hk
theorem sz2 : (2 : Nat) ≤ sizeLine := by decide
theorem a6y (a b : D) : atI [a, b] (-1) = some b := U2 [a] b
theorem a7g (a b c : D) : atI [a, b, c] (-1) = some c := U2 [a, b] c
theorem C5 (a b : D) : atI [a, b] 0 = some a := rfl
theorem B4 (a b : D) : atI [a, b] 1 = some b := rfl
theorem a0I (a b c : D) : atI [a, b, c] 0 = some a := rfl
theorem a0u (a b c : D) : atI [a, b, c] 1 = some b := rfl
theorem a0E (a b c : D) : atI [a, b, c] 2 = some c := rfl
end T

namespace T
open PySem L2 DL
noncomputable abbrev lgT : DT := dB (dOp (j3 (fun i j => decide (j < i))) (dL 3) (dC (.int 0)))
noncomputable abbrev lgB : DM := l5 2 3 (a6 (dV 3) (a6 (dOp v8 (dL 2) (dL 3)) a7))
theorem b1k (a b : Sl) (fs : Option FS) (r : Nat) : ∀ (g : Nat), L3 lgT lgB ⟨[a, b, .val (.int g), .val (.int r)], fs⟩ = some (.next, ⟨[a, b, .val (.int (Nat.gcd g r)), .val (.int 0)], fs⟩) := by
 induction r using Nat.strongRecOn with
 | ind r ih =>
  intro g
  by_cases h : r = 0
  ·subst h
   rw [Nat.gcd_zero_right]
   exact a51 (by simp [c5, m6, e8, dOp, dUn, dC, dL, dV, c6, i4, dB, i3, a9, a6, a7, d0, i5, dCB, one, i7, i8, dIf, k9, dOr, j8, l6, m9, m7, pIx, i6, k6, k0, j3, j5, l0, j9, l4, l5, dTr, m8])
  ·have e : ((g : Int).fmod (r : Int)) = ((g % r : Nat) : Int) := by rw [Int.fmod_eq_emod_of_nonneg _ (by omega)]; rfl
   have hy := ih (g % r) (Nat.mod_lt _ (by omega)) r
   have hg : Nat.gcd g r = Nat.gcd r (g % r) := by rw [Nat.gcd_comm g r, Nat.gcd_rec, Nat.gcd_comm]
   rw [hg]
   have hr : ¬ (r : Int) = 0 := by omega
   have hr2 : (0 : Int) < r := by omega
   refine a6I (s1 := ⟨[a, b, .val (.int g), .val (.int r)], fs⟩) (s2 := ⟨[a, b, .val (.int r), .val (.int ((g % r : Nat) : Int))], fs⟩) (by simp [c5, m6, e8, dOp, dUn, dC, dL, dV, c6, i4, dB, i3, a9, a6, a7, d0, i5, dCB, one, i7, i8, dIf, k9, dOr, j8, l6, m9, m7, pIx, i6, k6, k0, j3, j5, l0, j9, l4, l5, dTr, m8]; omega) ?_ hy
   rw [← e]
   simp [l5, a6, a7, dV, dOp, dL, v8, h]
noncomputable abbrev LF : DFn := B5
noncomputable abbrev LS : DFn := X4 LF
noncomputable abbrev LP : DFn := U4 LF
theorem K9 {k : Nat} (a b : Int) (fs : Option FS) (hb : b ≠ 0) (h : Bd k b) (hk : k ≤ 8000) : LF [.int a, .int b] fs = some (fr (Rat.divInt a b), fs) := by
 obtain ⟨p0, p1, p2⟩ := b1t a b hb
 have dg := b0l (a := a) hb h hk
 have hy := b1k (.val (.int a)) (.val (.int b)) fs b.natAbs a.natAbs
 refine u6 (s := ⟨[.val (.int a), .val (.int b), .val (.int (if b < 0 then -(Int.gcd a b : Int) else (Int.gcd a b : Int))), .val (.int 0)], fs⟩) ?_
 show a3G ⟨[.val (.int a), .val (.int b), .no, .no], fs⟩ = _
 unfold a3G
 rw [o0 (s1 := ⟨[.val (.int a), .val (.int b), .val (.int a.natAbs), .no], fs⟩) (by simp [c5, m6, e8, dOp, dUn, dC, dL, dV, c6, i4, dB, i3, a9, a6, a7, d0, i5, dCB, one, i7, i8, dIf, k9, dOr, j8, l6, m9, m7, pIx, i6, k6, k0, j3, j5, l0, j9, l4, l5, dTr, m8, P2, a1K])]
 rw [o0 (s1 := ⟨[.val (.int a), .val (.int b), .val (.int a.natAbs), .val (.int b.natAbs)], fs⟩) (by simp [c5, m6, e8, dOp, dUn, dC, dL, dV, c6, i4, dB, i3, a9, a6, a7, d0, i5, dCB, one, i7, i8, dIf, k9, dOr, j8, l6, m9, m7, pIx, i6, k6, k0, j3, j5, l0, j9, l4, l5, dTr, m8, P2, a1K])]
 rw [o0 hy]
 rw [o0 (s1 := ⟨[.val (.int a), .val (.int b), .val (.int (if b < 0 then -(Int.gcd a b : Int) else (Int.gcd a b : Int))), .val (.int 0)], fs⟩) (by
  by_cases nb : b < 0
  ·simp [c5, m6, e8, dOp, dUn, dC, dL, dV, c6, i4, dB, i3, a9, a6, a7, d0, i5, dCB, one, i7, i8, dIf, k9, dOr, j8, l6, m9, m7, pIx, i6, k6, k0, j3, j5, l0, j9, l4, l5, dTr, m8, nb, Int.gcd]
  ·simp [c5, m6, e8, dOp, dUn, dC, dL, dV, c6, i4, dB, i3, a9, a6, a7, d0, i5, dCB, one, i7, i8, dIf, k9, dOr, j8, l6, m9, m7, pIx, i6, k6, k0, j3, j5, l0, j9, l4, l5, dTr, m8, nb, Int.gcd])]
 generalize hg : (if b < 0 then -(Int.gcd a b : Int) else (Int.gcd a b : Int)) = gg at *
 refine D9 ?_
 unfold fr
 rw [← p1, ← p2]
 simp [c5, m6, e8, dOp, dUn, dC, dL, dV, c6, i4, dB, i3, a9, a6, a7, d0, i5, dCB, one, i7, i8, dIf, k9, dOr, j8, l6, m9, m7, pIx, i6, k6, k0, j3, j5, l0, j9, l4, l5, dTr, m8, C2, dg, sz2]
theorem b0R (p q : Rat) : p + q = Rat.divInt (p.num * q.den + q.num * p.den) (p.den * q.den) := by
 rw [Rat.add_def', ← Rat.divInt_ofNat]; rfl
theorem b1w (p q : Rat) : p * q = Rat.divInt (p.num * q.num) (p.den * q.den) := by
 rw [Rat.mul_def', ← Rat.divInt_ofNat]; rfl
theorem a1a (p q : Rat) : (p.den : Int) * q.den ≠ 0 := Int.mul_ne_zero (G9 p) (G9 q)
theorem a0v {k l : Nat} (p q : Rat) (fs : Option FS) (h1 : Sz k p) (h2 : Sz l q) (hk : k + l ≤ 8000) : LS [fr p, fr q] fs = some (fr (p + q), fs) := by
 have b1 := h1.num.bits (by omega)
 have b2 := h1.den.bits (by omega)
 have b3 := h2.num.bits (by omega)
 have b4 := h2.den.bits (by omega)
 have e := K9 (p.num * q.den + q.num * p.den) (p.den * q.den) fs (a1a p q) (Bd.mul h1.den h2.den) hk
 rw [← b0R] at e
 refine u6 (s := ⟨[.val (fr p), .val (fr q), .val (.int (p.num * q.den + q.num * p.den))], fs⟩) ?_
 show a2f LF ⟨[.val (fr p), .val (fr q), .no], fs⟩ = _
 simp [a2f, c5, m6, e8, dOp, dUn, dC, dL, dV, c6, i4, dB, i3, a9, a6, a7, d0, i5, dCB, one, i7, i8, dIf, k9, dOr, j8, l6, m9, m7, pIx, i6, k6, k0, j3, j5, l0, j9, l4, l5, dTr, m8, fr, C5, B4, r8, b1, b2, b3, b4, e]
theorem M4 {k l : Nat} (p q : Rat) (fs : Option FS) (h1 : Sz k p) (h2 : Sz l q) (hk : k + l ≤ 8000) : LP [fr p, fr q] fs = some (fr (p * q), fs) := by
 have b1 := h1.num.bits (by omega)
 have b2 := h1.den.bits (by omega)
 have b3 := h2.num.bits (by omega)
 have b4 := h2.den.bits (by omega)
 have e := K9 (p.num * q.num) (p.den * q.den) fs (a1a p q) (Bd.mul h1.den h2.den) hk
 rw [← b1w] at e
 refine u6 (s := ⟨[.val (fr p), .val (fr q)], fs⟩) ?_
 show a2E LF ⟨[.val (fr p), .val (fr q)], fs⟩ = _
 simp [a2E, c5, m6, e8, dOp, dUn, dC, dL, dV, c6, i4, dB, i3, a9, a6, a7, d0, i5, dCB, one, i7, i8, dIf, k9, dOr, j8, l6, m9, m7, pIx, i6, k6, k0, j3, j5, l0, j9, l4, l5, dTr, m8, fr, C5, B4, r8, b1, b2, b3, b4, e]
theorem a5N (p : Rat) (fs : Option FS) : R4 [fr p] fs = some (fr (-p), fs) := by
 refine u6 (s := ⟨[.val (fr p)], fs⟩) ?_
 show a2p ⟨[.val (fr p)], fs⟩ = _
 simp [a2p, c5, m6, e8, dOp, dUn, dC, dL, dV, c6, i4, dB, i3, a9, a6, a7, d0, i5, dCB, one, i7, i8, dIf, k9, dOr, j8, l6, m9, m7, pIx, i6, k6, k0, j3, j5, l0, j9, l4, l5, dTr, m8, fr, C5, B4, sz2]
theorem a4T (a : Int) (n : Nat) : a.fdiv (n : Int) = a / (n : Int) := Int.fdiv_eq_ediv_of_nonneg a (by omega)
end T

namespace T
open PySem L2 DL
theorem Y3 (a : Int) {b : Int} (h : b ≠ 0) : v8 (.int a) (.int b) = some (.int (a.fmod b)) := by simp [v8, h]
theorem Y8 (a : Int) {b : Int} (h : F6 b = true) : C2 (.int a) (.int b) = some (.int (a.fdiv b)) := by simp [C2, h]
theorem D3 {a b : Int} (h1 : A5 a = true) (h2 : A5 b = true) : r8 (.int a) (.int b) = some (.int (a * b)) := by simp [r8, h1, h2]
theorem a1Z {i : Nat} {key : Str} {fe : DE} {s s1 : DS} {d : D} {r : Option (Fl × DS)} (h : fe s = some (d, s1)) (e : dFP i key (fun _ => some (d, s1)) s = r) : dFP i key fe s = r := by
 rw [← e]
 unfold dFP
 rw [h]
set_option maxHeartbeats 4000000 in
theorem b0d (f : FS) (many : Int) (hm : 0 < many) (hm2 : many < 2 ^ 100) (ht : 0 ≤ f.turn) (ht2 : f.turn < 2 ^ 40) (hk : f.kind = 0) :
  ∃ r f', u9 [.feed, .int many] (some f) = some (.int r, some f') ∧ 0 ≤ r ∧ r < many ∧ f'.turn = f.turn + 1 ∧ f'.kind = 0 := by
 have dm : F6 many = true := b0n (by omega) (by omega)
 have hne : many ≠ 0 := by omega
 obtain ⟨cs, ps, lf, tn, kd⟩ := f
 simp only at ht ht2 hk ⊢
 subst hk
 by_cases hl : 0 < lf
 ·refine ⟨lf.fmod many, ⟨cs, ps, lf.fdiv many, tn + 1, 0⟩, ?_, (P0 hm).1, (P0 hm).2, rfl, rfl⟩
  refine u6 (s := ⟨[.val .feed, .val (.int many), .val (.int (tn + 1)), .val (.int (lf.fmod many)), .no, .no, .no], some ⟨cs, ps, lf.fdiv many, tn + 1, 0⟩⟩) ?_
  show V0 ⟨[.val .feed, .val (.int many), .no, .no, .no, .no, .no], some ⟨cs, ps, lf, tn, 0⟩⟩ = _
  unfold V0
  rw [o0 (s1 := ⟨[.val .feed, .val (.int many), .val (.int (tn + 1)), .no, .no, .no, .no], some ⟨cs, ps, lf, tn, 0⟩⟩) (A4 (m5 rfl rfl rfl) rfl), o0 (s1 := ⟨[.val .feed, .val (.int many), .val (.int (tn + 1)), .no, .no, .no, .no], some ⟨cs, ps, lf, tn + 1, 0⟩⟩) rfl]
  have c0 : dB (dOp (j3 (fun i j => decide (j < i))) (dFG 0 "left") (dC (.int 0))) ⟨[.val .feed, .val (.int many), .val (.int (tn + 1)), .no, .no, .no, .no], some ⟨cs, ps, lf, tn + 1, 0⟩⟩ = some (true, ⟨[.val .feed, .val (.int many), .val (.int (tn + 1)), .no, .no, .no, .no], some ⟨cs, ps, lf, tn + 1, 0⟩⟩) := by
   rw [← decide_eq_true hl]; rfl
  refine D7 ?_
  rw [N3 c0, o0 (s1 := ⟨[.val .feed, .val (.int many), .val (.int (tn + 1)), .val (.int (lf.fmod many)), .no, .no, .no], some ⟨cs, ps, lf, tn + 1, 0⟩⟩) (A4 (m5 rfl rfl (Y3 lf hne)) rfl),
   o0 (s1 := ⟨[.val .feed, .val (.int many), .val (.int (tn + 1)), .val (.int (lf.fmod many)), .no, .no, .no], some ⟨cs, ps, lf.fdiv many, tn + 1, 0⟩⟩) (a1Z (m5 rfl rfl (Y8 lf dm)) rfl)]
  rfl
 ·-- the cell
  have cell : ∃ c : Int, ∀ a b e x y z : Sl, dIf (dB (dOp (j3 (fun i j => decide (j < i))) (dCB (one j5) (a6 (dL 4) a7)) (dC (.int 0)))) (dOp pIx (dL 4) (dOp v8 (dFG 0 "at") (dCB (one j5) (a6 (dL 4) a7)))) (dC (.int 0)) ⟨[.val .feed, a, b, e, .val (.lst (cs.map .int)), x, y], some ⟨cs, ps, lf, tn + 1, 0⟩⟩ =
    some (.int c, ⟨[.val .feed, a, b, e, .val (.lst (cs.map .int)), x, y], some ⟨cs, ps, lf, tn + 1, 0⟩⟩) := by
   by_cases hc : 0 < cs.length
   ·have hi := P0 (a := ps) (b := (cs.length : Int)) (by omega)
    obtain ⟨c, hg⟩ : ∃ c : Int, atI (cs.map D.int) (ps.fmod (cs.length : Int)) = some (.int c) := by
     have : (ps.fmod (cs.length : Int)).toNat < cs.length := by omega
     refine ⟨cs[(ps.fmod (cs.length : Int)).toNat], ?_⟩
     rw [a0p hi.1 (by rw [List.length_map]; exact hi.2), List.getElem?_map, List.getElem?_eq_getElem this]
     rfl
    refine ⟨c, fun a b e x y z => ?_⟩
    have hn : cs ≠ [] := by intro z; rw [z] at hc; simp at hc
    simp [dIf, dB, dOp, dCB, one, j5, a6, a7, dL, dC, j3, dFG, a5D, v8, pIx, hn, hc, hg]
   ·refine ⟨0, fun a b e x y z => ?_⟩
    have hz : cs = [] := List.eq_nil_of_length_eq_zero (by omega)
    subst hz
    simp [dIf, dB, dOp, dCB, one, j5, a6, a7, dL, dC, j3]
  obtain ⟨c, hcell⟩ := cell
  have hc1 := P0 (a := c) (b := 1000003) (by decide)
  have pre : ∀ rest : DM, c5 (e8 (dOp i6 (dFG 0 "turn") (dC (.int 1))) (c6 2)) (c5 (dFP 0 "turn" (dV 2)) (c5 (i4 (dB (dOp (j3 (fun i j => decide (j < i))) (dFG 0 "left") (dC (.int 0)))) (c5 (e8 (dOp v8 (dFG 0 "left") (dL 1)) (c6 3)) (c5 (dFP 0 "left" (dOp C2 (dFG 0 "left") (dL 1))) (i3 (dV 3)))) i5)
    (c5 (e8 (dFG 0 "cells") (c6 4)) (c5 (e8 (dIf (dB (dOp (j3 (fun i j => decide (j < i))) (dCB (one j5) (a6 (dL 4) a7)) (dC (.int 0)))) (dOp pIx (dL 4) (dOp v8 (dFG 0 "at") (dCB (one j5) (a6 (dL 4) a7)))) (dC (.int 0))) (c6 5)) (c5 (dFP 0 "at" (dOp i6 (dFG 0 "at") (dC (.int 1)))) rest)))))
    ⟨[.val .feed, .val (.int many), .no, .no, .no, .no, .no], some ⟨cs, ps, lf, tn, 0⟩⟩ = rest ⟨[.val .feed, .val (.int many), .val (.int (tn + 1)), .no, .val (.lst (cs.map .int)), .val (.int c), .no], some ⟨cs, ps + 1, lf, tn + 1, 0⟩⟩ := fun rest => by
   rw [o0 (s1 := ⟨[.val .feed, .val (.int many), .val (.int (tn + 1)), .no, .no, .no, .no], some ⟨cs, ps, lf, tn, 0⟩⟩) (A4 (m5 rfl rfl rfl) rfl)]
   rw [o0 (s1 := ⟨[.val .feed, .val (.int many), .val (.int (tn + 1)), .no, .no, .no, .no], some ⟨cs, ps, lf, tn + 1, 0⟩⟩) rfl]
   rw [o0 (s1 := ⟨[.val .feed, .val (.int many), .val (.int (tn + 1)), .no, .no, .no, .no], some ⟨cs, ps, lf, tn + 1, 0⟩⟩) (by
    have c0 : dB (dOp (j3 (fun i j => decide (j < i))) (dFG 0 "left") (dC (.int 0))) ⟨[.val .feed, .val (.int many), .val (.int (tn + 1)), .no, .no, .no, .no], some ⟨cs, ps, lf, tn + 1, 0⟩⟩ = some (false, ⟨[.val .feed, .val (.int many), .val (.int (tn + 1)), .no, .no, .no, .no], some ⟨cs, ps, lf, tn + 1, 0⟩⟩) := by
     rw [← decide_eq_false hl]; rfl
    rw [a0C c0]; rfl)]
   rw [o0 (s1 := ⟨[.val .feed, .val (.int many), .val (.int (tn + 1)), .no, .val (.lst (cs.map .int)), .no, .no], some ⟨cs, ps, lf, tn + 1, 0⟩⟩) rfl]
   rw [o0 (b1i (hcell _ _ _ _ _ .no))]
   rw [o0 (s1 := ⟨[.val .feed, .val (.int many), .val (.int (tn + 1)), .no, .val (.lst (cs.map .int)), .val (.int c), .no], some ⟨cs, ps + 1, lf, tn + 1, 0⟩⟩) (a1Z (m5 rfl rfl rfl) rfl)]
  have test : k9 (dB (dOp (j3 (fun i j => decide (j ≤ i))) (dL 5) (dOp U5 (dC (.int 10)) (dC (.int 18))))) (dB (dOp (j3 (fun i j => decide (i ≤ j))) (dFG 0 "at") (dCB (one j5) (a6 (dL 4) a7)))) ⟨[.val .feed, .val (.int many), .val (.int (tn + 1)), .no, .val (.lst (cs.map .int)), .val (.int c), .no], some ⟨cs, ps + 1, lf, tn + 1, 0⟩⟩ =
    some (decide (1000000000000000000 ≤ c) && decide (ps + 1 ≤ (cs.length : Int)), ⟨[.val .feed, .val (.int many), .val (.int (tn + 1)), .no, .val (.lst (cs.map .int)), .val (.int c), .no], some ⟨cs, ps + 1, lf, tn + 1, 0⟩⟩) := by
   by_cases h1 : 1000000000000000000 ≤ c
   ·simp [k9, dB, dOp, dL, dC, U5, j3, dFG, a5D, dCB, one, j5, a6, a7, h1]
   ·simp [k9, dB, dOp, dL, dC, U5, j3, h1]
  by_cases hb : (decide (1000000000000000000 ≤ c) && decide (ps + 1 ≤ (cs.length : Int))) = true
  ·refine ⟨c.fmod many, ⟨cs, ps + 1, c.fdiv many, tn + 1, 0⟩, u6 (s := ⟨[.val .feed, .val (.int many), .val (.int (tn + 1)), .no, .val (.lst (cs.map .int)), .val (.int c), .no], some ⟨cs, ps + 1, c.fdiv many, tn + 1, 0⟩⟩) ?_, (P0 hm).1, (P0 hm).2, rfl, rfl⟩
   show V0 ⟨[.val .feed, .val (.int many), .no, .no, .no, .no, .no], some ⟨cs, ps, lf, tn, 0⟩⟩ = _
   unfold V0
   rw [pre]
   rw [hb] at test
   refine D7 ?_
   rw [N3 test]
   rw [o0 (s1 := ⟨[.val .feed, .val (.int many), .val (.int (tn + 1)), .no, .val (.lst (cs.map .int)), .val (.int c), .no], some ⟨cs, ps + 1, c.fdiv many, tn + 1, 0⟩⟩) (a1Z (m5 rfl rfl (Y8 c dm)) rfl)]
   exact D9 (m5 rfl rfl (Y3 c hne))
  ·have q : ∃ M : Int, e8 (dOp v8 (dOp r8 (dOp i6 (dOp i6 (dOp i6 (dOp v8 (dL 5) (dC (.int 1000003))) (dOp r8 (dOp r8 (dC (.int 31)) (dL 2)) (dL 2))) (dOp r8 (dC (.int 7)) (dL 2))) (dC (.int 11))) (dC (.int 48271))) (dC (.int 2147483647))) (c6 6)
     ⟨[.val .feed, .val (.int many), .val (.int (tn + 1)), .no, .val (.lst (cs.map .int)), .val (.int c), .no], some ⟨cs, ps + 1, lf, tn + 1, 0⟩⟩ = some (.next, ⟨[.val .feed, .val (.int many), .val (.int (tn + 1)), .no, .val (.lst (cs.map .int)), .val (.int c), .val (.int M)], some ⟨cs, ps + 1, lf, tn + 1, 0⟩⟩) ∧ 0 ≤ M ∧ M < 2147483647 := by
    have b1 : A5 31 = true := by decide
    have b2 : A5 (tn + 1) = true := Z6 (by omega)
    have p1 : (tn + 1) * 31 ≤ 2 ^ 40 * 31 := Int.mul_le_mul_of_nonneg_right (by omega) (by decide)
    have b3 : A5 (31 * (tn + 1)) = true := Z6 (by omega)
    have p2 : 0 ≤ 31 * (tn + 1) * (tn + 1) := Int.mul_nonneg (by omega) (by omega)
    have p3 : 31 * (tn + 1) * (tn + 1) ≤ 31 * 2 ^ 40 * 2 ^ 40 := Int.mul_le_mul (by omega) (by omega) (by omega) (by decide)
    have b4 : A5 (c.fmod 1000003 + 31 * (tn + 1) * (tn + 1) + 7 * (tn + 1) + 11) = true := Z6 (by omega)
    have b5 : A5 48271 = true := by decide
    have b6 : A5 7 = true := by decide
    refine ⟨((c.fmod 1000003 + 31 * (tn + 1) * (tn + 1) + 7 * (tn + 1) + 11) * 48271).fmod 2147483647, ?_, P0 (by decide)⟩
    exact A4 (m5 (m5 (m5 (m5 (m5 (m5 rfl rfl (Y3 c (by decide))) (m5 (m5 rfl rfl (D3 b1 b2)) rfl (D3 b3 b2)) rfl) (m5 rfl rfl (D3 b6 b2)) rfl) rfl rfl) rfl (D3 b4 b5)) rfl (Y3 _ (by decide))) rfl
   obtain ⟨M, e1, m1, m2⟩ := q
   have hM := Int.fdiv_eq_ediv_of_nonneg M (show (0 : Int) ≤ 64 by decide)
   have b7 : A5 (M.fdiv 64) = true := Z6 (by rw [hM]; omega)
   have b8 : A5 69621 = true := by decide
   have b9 : A5 7919 = true := by decide
   have b10 : A5 (tn + 1) = true := Z6 (by omega)
   have d64 : F6 64 = true := by decide
   refine ⟨(((M.fdiv 64 * 69621 + 7919 * (tn + 1)).fmod 2147483587).fdiv 64).fmod many, ⟨cs, ps + 1, lf, tn + 1, 0⟩, u6 (s := ⟨[.val .feed, .val (.int many), .val (.int (tn + 1)), .no, .val (.lst (cs.map .int)), .val (.int c), .val (.int ((M.fdiv 64 * 69621 + 7919 * (tn + 1)).fmod 2147483587))], some ⟨cs, ps + 1, lf, tn + 1, 0⟩⟩) ?_, (P0 hm).1, (P0 hm).2, rfl, rfl⟩
   show V0 ⟨[.val .feed, .val (.int many), .no, .no, .no, .no, .no], some ⟨cs, ps, lf, tn, 0⟩⟩ = _
   unfold V0
   rw [pre]
   have hb' : (decide (1000000000000000000 ≤ c) && decide (ps + 1 ≤ (cs.length : Int))) = false := by simpa using hb
   rw [hb'] at test
   rw [o0 (by rw [a0C test]; rfl)]
   rw [o0 e1]
   rw [o0 (s1 := ⟨[.val .feed, .val (.int many), .val (.int (tn + 1)), .no, .val (.lst (cs.map .int)), .val (.int c), .val (.int ((M.fdiv 64 * 69621 + 7919 * (tn + 1)).fmod 2147483587))], some ⟨cs, ps + 1, lf, tn + 1, 0⟩⟩) (A4 (m5 (m5 (m5 (m5 rfl rfl (Y8 M d64)) rfl (D3 b7 b8)) (m5 rfl rfl (D3 b9 b10)) rfl) rfl (Y3 _ (by decide))) rfl)]
   exact D9 (m5 (m5 rfl rfl (Y8 _ d64)) rfl (Y3 _ hne))
noncomputable def Fd (n : Nat) (f : FS) : Prop := 0 ≤ f.turn ∧ f.turn ≤ n ∧ f.kind = 0
theorem Fd.mono {n m : Nat} {f : FS} (h : Fd n f) (hm : n ≤ m) : Fd m f := ⟨h.1, by have := h.2.1; omega, h.2.2⟩
theorem C1 {n : Nat} {f : FS} (many : Int) (h : Fd n f) (hm : 0 < many := by first | decide | omega) (hn : n < 2 ^ 30 := by omega) (hm2 : many < 2 ^ 100 := by first | decide | omega) :
  ∃ r f', u9 [.feed, .int many] (some f) = some (.int r, some f') ∧ 0 ≤ r ∧ r < many ∧ Fd (n + 1) f' := by
 obtain ⟨r, f', e, h0, h1, h2, h3⟩ := b0d f many hm hm2 h.1 (by have := h.2.1; omega) h.2.2
 exact ⟨r, f', e, h0, h1, by have := h.1; omega, by have := h.2.1; omega, h3⟩
theorem b1u (ns : List Int) (h : ns.length ≤ 63) : Q3 [.scr ns] none = some (.feed, some ⟨ns, 0, 0, 0, 0⟩) := by
 refine u6 (s := ⟨[.val (.scr ns)], some ⟨ns, 0, 0, 0, 0⟩⟩) ?_
 show a2v ⟨[.val (.scr ns)], none⟩ = _
 simp [a2v, i3, dFN]
theorem Fd.zero (ns : List Int) : Fd 0 ⟨ns, 0, 0, 0, 0⟩ := ⟨by simp, by simp, rfl⟩
theorem Z7 {α : Type} {xs : List α} {r : Int} (h0 : 0 ≤ r) (h1 : r < xs.length) : ∃ x, x ∈ xs ∧ atI xs r = some x := by
 refine ⟨xs[r.toNat]'(by omega), List.getElem_mem _, ?_⟩
 rw [a0p h0 h1, List.getElem?_eq_getElem]
end T

namespace T
open PySem L2 DL
theorem b2S (p q : Rat) : Rat.divInt (p.num * q.den) (p.den * q.den) = p := by
 rw [Rat.divInt_mul_right (G9 q), Rat.num_divInt_den]
theorem b2d (p q : Rat) : Rat.divInt (q.num * p.den) (p.den * q.den) = q := by
 rw [Int.mul_comm (p.den : Int), Rat.divInt_mul_right (G9 p), Rat.num_divInt_den]
noncomputable abbrev LA : DFn := Q0 LF
theorem a1p (p : Rat) : pIx (fr p) (.int 0) = some (.int p.num) := rfl
theorem N8 (p : Rat) : pIx (fr p) (.int 1) = some (.int p.den) := rfl
theorem lat {k l : Nat} (p q : Rat) (fs : Option FS) (h1 : Sz k p) (h2 : Sz l q) (hk : k + l ≤ 8000) : LA [fr p, fr q] fs = some (pt (p, q), fs) := by
 have b1 := h1.num.bits (by omega)
 have b2 := h1.den.bits (by omega)
 have b3 := h2.num.bits (by omega)
 have b4 := h2.den.bits (by omega)
 have e1 := K9 (p.num * q.den) (p.den * q.den) fs (a1a p q) (Bd.mul h1.den h2.den) hk
 have e2 := K9 (q.num * p.den) (p.den * q.den) fs (a1a p q) (Bd.mul h1.den h2.den) hk
 have e3 := K9 (p.den : Int) (q.den : Int) fs (G9 q) h2.den (by omega)
 rw [b2S] at e1
 rw [b2d] at e2
 have hq := q.den_nz
 have hp := p.den_nz
 have dq : ((Rat.divInt (p.den : Int) (q.den : Int)).den : Int) = (q.den / Nat.gcd p.den q.den : Nat) := by
  rw [b18 (den_pos q), Int.natCast_ediv]; rfl
 have el : (p.den : Int) * (q.den / Nat.gcd p.den q.den : Nat) = pL (p, q) := by
  show _ = ((Nat.lcm p.den q.den : Nat) : Int)
  rw [← Int.natCast_mul, Nat.lcm, Nat.mul_div_assoc _ (Nat.gcd_dvd_right ..)]
 have d1 := h1.den.div (G9 p) (by omega)
 have d2 := h2.den.div (G9 q) (by omega)
 have P := Ps.of (a := (p, q)) h1 h2
 have s1 : (pL (p, q)).fdiv (p.den : Int) = ((Nat.lcm p.den q.den / p.den : Nat) : Int) := by rw [a4T, Int.natCast_ediv]; rfl
 have s2 : (pL (p, q)).fdiv (q.den : Int) = ((Nat.lcm p.den q.den / q.den : Nat) : Int) := by rw [a4T, Int.natCast_ediv]; rfl
 have lle : Nat.lcm p.den q.den < 2 ^ (k + l) := P.l
 have c0 : A5 ((Rat.divInt (p.den : Int) (q.den : Int)).den : Int) = true := by
  have := (a3R (a := (p.den : Int)) (G9 q)).2
  exact (show Bd l _ from Nat.lt_of_le_of_lt this h2.2).bits (by omega)
 have c1 : A5 ((Nat.lcm p.den q.den / p.den : Nat) : Int) = true := (show Bd (k + l) ((_ : Nat) : Int) from Nat.lt_of_le_of_lt (Nat.div_le_self ..) lle).bits (by omega)
 have c2 : A5 ((Nat.lcm p.den q.den / q.den : Nat) : Int) = true := (show Bd (k + l) ((_ : Nat) : Int) from Nat.lt_of_le_of_lt (Nat.div_le_self ..) lle).bits (by omega)
 generalize Rat.divInt (p.den : Int) (q.den : Int) = w at *
 refine u6 (s := ⟨[.val (fr p), .val (fr q), .val (.int (pL (p, q))), .val (fr p), .val (fr q), .val (fr w)], fs⟩) ?_
 show a3i LF ⟨[.val (fr p), .val (fr q), .no, .no, .no, .no], fs⟩ = _
 unfold a3i
 rw [dq] at c0
 rw [← s1] at c1
 rw [← s2] at c2
 rw [o0 (s1 := ⟨[.val (fr p), .val (fr q), .val (.int (p.den * q.den)), .no, .no, .no], fs⟩) (A4 (m5 (m5 rfl rfl (N8 p)) (m5 rfl rfl (N8 q)) (D3 b2 b4)) rfl),
  o0 (s1 := ⟨[.val (fr p), .val (fr q), .val (.int (p.den * q.den)), .val (fr p), .no, .no], fs⟩) (A4 (L5 (u0 (m5 (m5 rfl rfl (a1p p)) (m5 rfl rfl (N8 q)) (D3 b1 b4)) (u0 rfl rfl)) e1) rfl),
  o0 (s1 := ⟨[.val (fr p), .val (fr q), .val (.int (p.den * q.den)), .val (fr p), .val (fr q), .no], fs⟩) (A4 (L5 (u0 (m5 (m5 rfl rfl (a1p q)) (m5 rfl rfl (N8 p)) (D3 b3 b2)) (u0 rfl rfl)) e2) rfl),
  o0 (s1 := ⟨[.val (fr p), .val (fr q), .val (.int (p.den * q.den)), .val (fr p), .val (fr q), .val (fr w)], fs⟩) (A4 (L5 (u0 (m5 rfl rfl (N8 p)) (u0 (m5 rfl rfl (N8 q)) rfl)) e3) rfl),
  o0 (s1 := ⟨[.val (fr p), .val (fr q), .val (.int (pL (p, q))), .val (fr p), .val (fr q), .val (fr w)], fs⟩) (A4 (m5 (m5 rfl rfl (N8 p)) (m5 rfl rfl ((N8 w).trans (congrArg (fun z => some (D.int z)) dq))) ((D3 b2 c0).trans (congrArg (fun z => some (D.int z)) el))) rfl)]
 refine D9 ?_
 unfold pt pX pY
 rw [← s1, ← s2]
 exact b2G (m5 (m5 rfl rfl (a1p p)) (m5 rfl (m5 rfl rfl (N8 p)) (Y8 _ d1)) (D3 b1 c1)) (m5 (m5 rfl rfl (a1p q)) (m5 rfl (m5 rfl rfl (N8 q)) (Y8 _ d2)) (D3 b3 c2)) rfl
theorem px_div (a : Pt) : Rat.divInt (pX a) (pL a) = a.1 := by
 rw [Rat.divInt_eq_div, P7, Rat.mul_div_cancel (a3J a)]
theorem py_div (a : Pt) : Rat.divInt (pY a) (pL a) = a.2 := by
 rw [Rat.divInt_eq_div, P4, Rat.mul_div_cancel (a3J a)]
noncomputable abbrev LX : DFn := a0w LF
theorem lxy {k : Nat} (a : Pt) (fs : Option FS) (h : Ps k a) (hk : k ≤ 8000) : LX [pt a] fs = some (.tup [fr a.1, fr a.2], fs) := by
 have e := K9 (pX a) (pL a) fs (a1M a) h.l hk
 have e' := K9 (pY a) (pL a) fs (a1M a) h.l hk
 rw [px_div] at e
 rw [py_div] at e'
 refine u6 (s := ⟨[.val (pt a)], fs⟩) ?_
 show a3d LF ⟨[.val (pt a)], fs⟩ = _
 simp [a3d, c5, m6, e8, dOp, dUn, dC, dL, dV, c6, i4, dB, i3, a9, a6, a7, d0, i5, dCB, one, i7, i8, dIf, k9, dOr, j8, l6, m9, m7, pIx, i6, k6, k0, j3, j5, l0, j9, l4, l5, dTr, m8, pt, a0I, a0u, a0E, e, e', sz2]
noncomputable abbrev LG : DFn := a0P LA LS LX
theorem V9 {k l m n : Nat} (a : Pt) (x y : Rat) (fs : Option FS) (h1 : Sz k a.1) (h2 : Sz l a.2) (hx : Sz m x) (hy : Sz n y) (hk : k + l + m + n + 2 ≤ 8000) : LG [pt a, fr x, fr y] fs = some (pt (a.1 + x, a.2 + y), fs) := by
 refine u6 (s := ⟨[.val (pt a), .val (fr x), .val (fr y), .val (fr a.1), .val (fr a.2)], fs⟩) ?_
 show a16 LA LS LX ⟨[.val (pt a), .val (fr x), .val (fr y), .no, .no], fs⟩ = _
 simp [a16, c5, m6, e8, dOp, dUn, dC, dL, dV, c6, i4, dB, i3, a9, a6, a7, d0, i5, dCB, one, i7, i8, dIf, k9, dOr, j8, l6, m9, m7, pIx, i6, k6, k0, j3, j5, l0, j9, l4, l5, dTr, m8, lxy a fs (Ps.of h1 h2) (by omega), a0v a.1 x _ h1 hx (by omega), a0v a.2 y _ h2 hy (by omega), lat (a.1 + x) (a.2 + y) _ (h1.add hx) (h2.add hy) (by omega)]
end T

namespace DL
noncomputable def E7 (x y : Rat) : Prop := 0 < x ∨ (x = 0 ∧ 0 < y)
theorem a6R (a b : Pt) : lsB a b = true ↔ E7 (b.1 - a.1) (b.2 - a.2) := by
 unfold lsB E7
 rw [Bool.or_eq_true, Bool.and_eq_true, decide_eq_true_iff, decide_eq_true_iff, decide_eq_true_iff]
 constructor
 ·rintro (h | ⟨h1, h2⟩)
  ·left; grind
  ·right; constructor <;> grind
 ·rintro (h | ⟨h1, h2⟩)
  ·left; grind
  ·right; constructor <;> grind
theorem b1a (x y : Rat) (h : ¬ (x = 0 ∧ y = 0)) : E7 x y ∨ E7 (-x) (-y) := by
 unfold E7
 grind
theorem b1I (x y : Rat) (h : E7 x y) : ¬ E7 (-x) (-y) := by
 unfold E7 at *
 grind
theorem a7n {x y s : Rat} (hs : 0 < s) : E7 (s * x) (s * y) ↔ E7 x y := by
 unfold E7
 have h1 : 0 < s * x ↔ 0 < x := Rat.mul_pos_iff_of_pos_left hs
 have h2 : 0 < s * y ↔ 0 < y := Rat.mul_pos_iff_of_pos_left hs
 have h3 : s * x = 0 ↔ x = 0 := by
  rw [Rat.mul_eq_zero]
  constructor
  ·rintro (h | h)
   ·rw [h] at hs; exact absurd hs Rat.lt_irrefl
   ·exact h
  ·exact fun h => .inr h
 rw [h1, h2, h3]
theorem a6O : ¬ E7 0 0 := by unfold E7; grind
theorem a6r {x y : Rat} (h : E7 x y) (s : Rat) : E7 (s * x) (s * y) ↔ 0 < s := by
 constructor
 ·intro q
  rcases Rat.le_total (a := s) (b := 0) with z | z
  ·rcases (Rat.le_iff_lt_or_eq).mp z with z | z
   ·have : E7 (-s * x) (-s * y) := (a7n (by grind)).mpr h
    rw [Rat.neg_mul, Rat.neg_mul] at this
    exact absurd this (b1I _ _ q)
   ·rw [z, Rat.zero_mul, Rat.zero_mul] at q; exact absurd q a6O
  ·rcases (Rat.le_iff_lt_or_eq).mp z with z | z
   ·exact z
   ·rw [← z, Rat.zero_mul, Rat.zero_mul] at q; exact absurd q a6O
 ·intro hs; exact (a7n hs).mpr h
noncomputable def Q1 (a b : Pt) (s : Rat) : Pt := (a.1 + s * (b.1 - a.1), a.2 + s * (b.2 - a.2))
theorem a7W {a b c : Pt} (hab : a ≠ b) (h : u7 a b c = 0) : ∃ s, c = Q1 a b s := by
 unfold u7 at h
 by_cases h1 : b.1 - a.1 = 0
 ·have h2 : b.2 - a.2 ≠ 0 := fun z => hab (Prod.ext (by grind) (by grind))
  refine ⟨(c.2 - a.2) / (b.2 - a.2), ?_⟩
  unfold Q1
  refine Prod.ext ?_ ?_
  ·show c.1 = _
   have : (b.2 - a.2) * (c.1 - a.1) = 0 := by grind
   rcases Rat.mul_eq_zero.mp this with z | z
   ·exact absurd z h2
   ·grind
  ·show c.2 = _
   grind
 ·refine ⟨(c.1 - a.1) / (b.1 - a.1), ?_⟩
  unfold Q1
  refine Prod.ext ?_ ?_
  ·show c.1 = _
   grind
  ·show c.2 = _
   have e : (b.1 - a.1) * (c.2 - a.2) = (b.2 - a.2) * (c.1 - a.1) := by grind
   have : c.2 - a.2 = (c.1 - a.1) / (b.1 - a.1) * (b.2 - a.2) := by grind
   grind
noncomputable def dsq (a b : Pt) : Rat := (a.1 - b.1) * (a.1 - b.1) + (a.2 - b.2) * (a.2 - b.2)
theorem a2S (x : Rat) : 0 ≤ x * x := by
 rcases Rat.le_total (a := 0) (b := x) with h | h
 ·exact Rat.mul_nonneg h h
 ·have := Rat.mul_nonneg (a := -x) (b := -x) (by grind) (by grind)
  grind
theorem a5p {x : Rat} (h : x ≠ 0) : 0 < x * x := Rat.lt_of_le_of_ne (a2S x) (fun z => h (by
 rcases Rat.mul_eq_zero.mp z.symm with q | q <;> exact q))
theorem a8G {a b : Pt} (hab : a ≠ b) : 0 < dsq a b := by
 unfold dsq
 by_cases h1 : a.1 - b.1 = 0
 ·have h2 : a.2 - b.2 ≠ 0 := fun z => hab (Prod.ext (by grind) (by grind))
  have := a5p h2
  have := a2S (a.1 - b.1)
  grind
 ·have := a5p h1
  have := a2S (a.2 - b.2)
  grind
end DL

namespace T
open PySem L2 DL
theorem b3a (n : Int) (fs : Option FS) : Y1 [.int n] fs = some (.int (a0M n), fs) := by
 refine u6 (s := ⟨[.val (.int n)], fs⟩) ?_
 show a0D ⟨[.val (.int n)], fs⟩ = _
 unfold a0M
 by_cases h1 : 0 < n
 ·simp [a0D, c5, m6, e8, dOp, dUn, dC, dL, dV, c6, i4, dB, i3, a9, a6, a7, d0, i5, dCB, one, i7, i8, dIf, k9, dOr, j8, l6, m9, m7, pIx, i6, k6, k0, j3, j5, l0, j9, l4, l5, dTr, m8, h1]
 ·by_cases h2 : n < 0
  ·simp [a0D, c5, m6, e8, dOp, dUn, dC, dL, dV, c6, i4, dB, i3, a9, a6, a7, d0, i5, dCB, one, i7, i8, dIf, k9, dOr, j8, l6, m9, m7, pIx, i6, k6, k0, j3, j5, l0, j9, l4, l5, dTr, m8, h1, h2]
  ·simp [a0D, c5, m6, e8, dOp, dUn, dC, dL, dV, c6, i4, dB, i3, a9, a6, a7, d0, i5, dCB, one, i7, i8, dIf, k9, dOr, j8, l6, m9, m7, pIx, i6, k6, k0, j3, j5, l0, j9, l4, l5, dTr, m8, h1, h2]
noncomputable abbrev FTn : DFn := a1d Y1
theorem a9N {a b c : Rat} (ha : 0 < a) (hb : 0 < b) (hc : 0 < c) : 0 < a * b * c := Rat.mul_pos (Rat.mul_pos ha hb) hc
theorem a8q (a b c : Pt) : a0M (pX a * (pY b * pL c - pY c * pL b) - pY a * (pX b * pL c - pX c * pL b) + pL a * (pX b * pY c - pX c * pY b)) = sgn (u7 a b c) := by
 refine a7S (a9N (F1 a) (F1 b) (F1 c)) ?_
 simp only [Rat.intCast_add, Rat.intCast_sub, Rat.intCast_mul, P7, P4, u7]
 grind
theorem a93 {k : Nat} (a b c : Pt) (fs : Option FS) (ha : Ps k a) (hb : Ps k b) (hc : Ps k c) (hk : k ≤ 2000) : FTn [pt a, pt b, pt c] fs = some (.int (sgn (u7 a b c)), fs) := by
 have a1 := ha.x.bits (by omega)
 have a2 := ha.y.bits (by omega)
 have a3 := ha.l.bits (by omega)
 have b1 := hb.x.bits (by omega)
 have b2 := hb.y.bits (by omega)
 have b3 := hb.l.bits (by omega)
 have c1 := hc.x.bits (by omega)
 have c2 := hc.y.bits (by omega)
 have c3 := hc.l.bits (by omega)
 have d1 := ((hb.y.mul hc.l).sub (hc.y.mul hb.l)).bits (by omega)
 have d2 := ((hb.x.mul hc.l).sub (hc.x.mul hb.l)).bits (by omega)
 have d3 := ((hb.x.mul hc.y).sub (hc.x.mul hb.y)).bits (by omega)
 rw [← a8q]
 refine u6 (s := ⟨[.val (pt a), .val (pt b), .val (pt c), .val (.int (pX a * (pY b * pL c - pY c * pL b) - pY a * (pX b * pL c - pX c * pL b) + pL a * (pX b * pY c - pX c * pY b)))], fs⟩) ?_
 show a3V Y1 ⟨[.val (pt a), .val (pt b), .val (pt c), .no], fs⟩ = _
 unfold a3V
 have x : ∀ p : Pt, pIx (pt p) (.int 0) = some (.int (pX p)) := fun _ => rfl
 have y : ∀ p : Pt, pIx (pt p) (.int 1) = some (.int (pY p)) := fun _ => rfl
 have l : ∀ p : Pt, pIx (pt p) (.int 2) = some (.int (pL p)) := fun _ => rfl
 rw [o0 (s1 := ⟨[.val (pt a), .val (pt b), .val (pt c), .val (.int (pX a * (pY b * pL c - pY c * pL b)))], fs⟩) (A4 (m5 (m5 rfl rfl (x a)) (m5 (m5 (m5 rfl rfl (y b)) (m5 rfl rfl (l c)) (D3 b2 c3)) (m5 (m5 rfl rfl (y c)) (m5 rfl rfl (l b)) (D3 c2 b3)) rfl) (D3 a1 d1)) rfl),
  o0 (s1 := ⟨[.val (pt a), .val (pt b), .val (pt c), .val (.int (pX a * (pY b * pL c - pY c * pL b) - pY a * (pX b * pL c - pX c * pL b)))], fs⟩) (A4 (m5 rfl (m5 (m5 rfl rfl (y a)) (m5 (m5 (m5 rfl rfl (x b)) (m5 rfl rfl (l c)) (D3 b1 c3)) (m5 (m5 rfl rfl (x c)) (m5 rfl rfl (l b)) (D3 c1 b3)) rfl) (D3 a2 d2)) rfl) rfl),
  o0 (s1 := ⟨[.val (pt a), .val (pt b), .val (pt c), .val (.int (pX a * (pY b * pL c - pY c * pL b) - pY a * (pX b * pL c - pX c * pL b) + pL a * (pX b * pY c - pX c * pY b)))], fs⟩) (A4 (m5 rfl (m5 (m5 rfl rfl (l a)) (m5 (m5 (m5 rfl rfl (x b)) (m5 rfl rfl (y c)) (D3 b1 c2)) (m5 (m5 rfl rfl (x c)) (m5 rfl rfl (y b)) (D3 c1 b2)) rfl) (D3 a3 d3)) rfl) rfl)]
 exact D9 (L5 (u0 rfl rfl) (b3a _ fs))
theorem a6f {x y : Int} {p q c : Rat} (hc : 0 < c) (hx : (x : Rat) = c * p) (hy : (y : Rat) = c * q) : (x < y ↔ p < q) ∧ (x = y ↔ p = q) := by
 constructor
 ·rw [← Rat.intCast_lt_intCast, hx, hy]; exact Rat.mul_lt_mul_left hc
 ·rw [← Rat.intCast_inj, hx, hy]
  constructor
  ·intro h; have : c ≠ 0 := fun z => by rw [z] at hc; exact absurd hc Rat.lt_irrefl
   grind
  ·intro h; rw [h]
theorem b24 (a b : Pt) : (pX a * pL b < pX b * pL a ↔ a.1 < b.1) ∧ (pX a * pL b = pX b * pL a ↔ a.1 = b.1) :=
 a6f (Rat.mul_pos (F1 a) (F1 b)) (by rw [Rat.intCast_mul, P7]; grind) (by rw [Rat.intCast_mul, P7]; grind)
theorem a73 (a b : Pt) : (pY a * pL b < pY b * pL a ↔ a.2 < b.2) ∧ (pY a * pL b = pY b * pL a ↔ a.2 = b.2) :=
 a6f (Rat.mul_pos (F1 a) (F1 b)) (by rw [Rat.intCast_mul, P4]; grind) (by rw [Rat.intCast_mul, P4]; grind)
theorem a7h {k : Nat} (a b : Pt) (fs : Option FS) (ha : Ps k a) (hb : Ps k b) (hk : k ≤ 2000) : X5 [pt a, pt b] fs = some (.bl (lsB a b), fs) := by
 have a1 := ha.x.bits (by omega)
 have a2 := ha.y.bits (by omega)
 have a3 := ha.l.bits (by omega)
 have b1 := hb.x.bits (by omega)
 have b2 := hb.y.bits (by omega)
 have b3 := hb.l.bits (by omega)
 obtain ⟨x1, x2⟩ := b24 a b
 obtain ⟨y1, y2⟩ := a73 a b
 refine u6 (s := ⟨[.val (pt a), .val (pt b), .val (.int (pX a * pL b)), .val (.int (pX b * pL a))], fs⟩) ?_
 show a1g ⟨[.val (pt a), .val (pt b), .no, .no], fs⟩ = _
 by_cases h : a.1 = b.1
 ·have h' := x2.mpr h
  have n1 : ¬ a.1 < b.1 := by rw [h]; exact Rat.lt_irrefl
  simp [a1g, c5, m6, e8, dOp, dUn, dC, dL, dV, c6, i4, dB, i3, a9, a6, a7, d0, i5, dCB, one, i7, i8, dIf, k9, dOr, j8, l6, m9, m7, pIx, i6, k6, k0, j3, j5, l0, j9, l4, l5, dTr, m8, pt, a0I, a0u, a0E, r8, a1, a2, a3, b1, b2, b3, G2, h', lsB, n1, h, y1]
 ·have h' : ¬ pX a * pL b = pX b * pL a := fun z => h (x2.mp z)
  simp [a1g, c5, m6, e8, dOp, dUn, dC, dL, dV, c6, i4, dB, i3, a9, a6, a7, d0, i5, dCB, one, i7, i8, dIf, k9, dOr, j8, l6, m9, m7, pIx, i6, k6, k0, j3, j5, l0, j9, l4, l5, dTr, m8, pt, a0I, a0u, a0E, r8, a1, a2, a3, b1, b2, b3, G2, h', lsB, h, x1]
end T

namespace DL
open PySem L2
theorem W0 {t : D → DS → Option DS} {b : DM} (P : Nat → DS → Prop) : ∀ (ds : List D) (n : Nat) (s : DS), P n s → (∀ i d s, ds[i]? = some d → P (n + i) s → ∃ s1 s2, t d s = some s1 ∧ (b s1 = some (.next, s2) ∨ b s1 = some (.cont, s2)) ∧ P (n + i + 1) s2) →
  ∃ s', w8 t b ds s = some (.next, s') ∧ P (n + ds.length) s'
 | [], n, s, h, _ => ⟨s, rfl, h⟩
 | d :: r, n, s, h, k => by
  obtain ⟨s1, s2, e1, e2, h2⟩ := k 0 d s rfl h
  obtain ⟨s', e3, h3⟩ := W0 P r (n + 1) s2 h2 (fun i d' s hd hp => by
   have := k (i + 1) d' s (by simpa using hd) (by rwa [show n + 1 + i = n + (i + 1) by omega] at hp)
   rwa [show n + (i + 1) + 1 = n + 1 + i + 1 by omega] at this)
  refine ⟨s', ?_, by rw [List.length_cons, show n + (r.length + 1) = n + 1 + r.length by omega]; exact h3⟩
  rw [w8, e1]
  rcases e2 with e2 | e2 <;> simp [e2, e3]
theorem Y0 {f : DA} {t : D → DS → Option DS} {b : DM} {s s1 : DS} {xs ds : List D} (h1 : f s = some (xs, s1)) (h2 : K4 xs = some ds) : Q7 f t b s = w8 t b ds s1 := by
 simp only [Q7, h1, Option.bind_some, h2]
theorem a3N {f : DE} {t : D → DS → Option DS} {b : DM} {s s1 : DS} {ds : List D} (h1 : f s = some (.lst ds, s1)) : J8 f t b s = w8 t b ds s1 := by
 simp only [J8, h1, Option.bind_some]
theorem a4g {f : DE} {t : D → DS → Option DS} {b : DM} {s s1 : DS} {ds : List D} (h1 : f s = some (.tup ds, s1)) : J8 f t b s = w8 t b ds s1 := by
 simp only [J8, h1, Option.bind_some]
theorem a0h {lo : Int} {n i : Nat} {d : D} (h : (ups lo n)[i]? = some d) : d = .int (lo + i) ∧ i < n := by
 have hi : i < n := by have := (List.getElem?_eq_some_iff.mp h).1; rwa [M5] at this
 rw [a4b hi] at h
 cases h
 exact ⟨rfl, hi⟩
theorem R5 {n : Nat} (h : n < 2 ^ 30) : K4 [.int (n : Int)] = some (ups 0 n) := by
 have : -(2 ^ 62) ≤ (n : Int) ∧ (n : Int) < 2 ^ 62 := by omega
 simp only [K4, if_pos this, Int.toNat_natCast]
end DL
namespace T
open PySem L2 DL
noncomputable abbrev LN : DFn := a0F LF u9
theorem M1 {k : Nat} {i : Int} (h : i.natAbs < 2 ^ k) : Bd k i := h
theorem a94 {r : Int} (h0 : 0 ≤ r) (h1 : r < 3) : ∃ m : Int, atI [D.int 7, D.int 13, D.int 30] r = some (.int m) ∧ 0 < m ∧ m ≤ 30 := by
 have : r = 0 ∨ r = 1 ∨ r = 2 := by omega
 rcases this with rfl | rfl | rfl
 ·exact ⟨7, rfl, by decide, by decide⟩
 ·exact ⟨13, rfl, by decide, by decide⟩
 ·exact ⟨30, rfl, by decide, by decide⟩
theorem a9a {r : Int} (h0 : 0 ≤ r) (h1 : r < 6) : ∃ d : Int, atI [D.int 1, D.int 1, D.int 1, D.int 2, D.int 3, D.int 4] r = some (.int d) ∧ 0 < d ∧ d ≤ 4 := by
 have : r = 0 ∨ r = 1 ∨ r = 2 ∨ r = 3 ∨ r = 4 ∨ r = 5 := by omega
 rcases this with rfl | rfl | rfl | rfl | rfl | rfl
 ·exact ⟨1, rfl, by decide, by decide⟩
 ·exact ⟨1, rfl, by decide, by decide⟩
 ·exact ⟨1, rfl, by decide, by decide⟩
 ·exact ⟨2, rfl, by decide, by decide⟩
 ·exact ⟨3, rfl, by decide, by decide⟩
 ·exact ⟨4, rfl, by decide, by decide⟩
theorem b3r {r m q : Int} (h0 : 0 ≤ r) (h1 : r < m) (hm : m ≤ 30) (q0 : 0 ≤ q) (q1 : q < 2) : Bd 5 (r * (1 - 2 * q)) ∧ Bd 5 r ∧ Bd 5 q ∧ Bd 5 (1 - 2 * q) := by
 unfold Bd
 have : q = 0 ∨ q = 1 := by omega
 rcases this with rfl | rfl <;> omega
theorem b1G {d : Int} (h0 : 0 < d) (h1 : d ≤ 4) : Bd 5 d ∧ d ≠ 0 := ⟨show d.natAbs < 2 ^ 5 by omega, by omega⟩
theorem b0X {m : Int} (h : m ≤ 30) : m < 2 ^ 100 := by omega
theorem a1q {n i : Nat} (h : n < 2 ^ 29) (hi : i ≤ 100 := by decide) : n + i < 2 ^ 30 := by omega
theorem a4S {n : Nat} {f : FS} (h : Fd n f) (hn : n < 2 ^ 29) : ∃ p f', LN [.feed] (some f) = some (fr p, some f') ∧ Sz 5 p ∧ Fd (n + 4) f' := by
 obtain ⟨r1, f1, e1, a1, a2, h1⟩ := C1 3 h (by decide) (a1q (i := 0) hn) (by decide)
 obtain ⟨m, q1, q2, q3⟩ := a94 a1 a2
 obtain ⟨r2, f2, e2, b1, b2, h2⟩ := C1 m h1 q2 (a1q hn) (b0X q3)
 obtain ⟨r3, f3, e3, c1, c2, h3⟩ := C1 6 h2 (by decide) (a1q (i := 2) hn) (by decide)
 obtain ⟨d, u1, u2, u3⟩ := a9a c1 c2
 obtain ⟨r4, f4, e4, d1, d2, h4⟩ := C1 2 h3 (by decide) (a1q (i := 3) hn) (by decide)
 obtain ⟨bn, z3, z2, z4⟩ := b3r b1 b2 q3 d1 d2
 obtain ⟨bd, dn⟩ := b1G u2 u3
 have g := K9 (r2 * (1 - 2 * r4)) d (some f4) dn bd (by decide)
 refine ⟨_, f4, u6 (s := ⟨[.val .feed, .val (.int r2), .val (.int d)], some f4⟩) ?_, Sz.of_divInt dn bn bd, h4⟩
 show a3K LF u9 ⟨[.val .feed, .no, .no], some f⟩ = _
 unfold a3K
 rw [o0 (s1 := ⟨[.val .feed, .val (.int r2), .no], some f2⟩) (A4 (a1s (u0 rfl (u0 (m5 (s1 := ⟨[.val .feed, .no, .no], some f⟩) rfl (K1 rfl e1) q1) rfl)) e2) rfl),
  o0 (s1 := ⟨[.val .feed, .val (.int r2), .val (.int d)], some f3⟩) (A4 (m5 (s1 := ⟨[.val .feed, .val (.int r2), .no], some f2⟩) rfl (K1 rfl e3) u1) rfl)]
 exact D9 (a1s (u0 (m5 rfl (m5 rfl (m5 rfl (K1 rfl e4) (D3 (by decide) (z2.bits (by decide)))) rfl) (D3 (z3.bits (by decide)) (z4.bits (by decide)))) rfl) g)
noncomputable abbrev LPl : DFn := a0K LA LN
structure PtS (k : Nat) (a : Pt) : Prop where
 x : Sz k a.1
 y : Sz k a.2
theorem PtS.ps {k : Nat} {a : Pt} (h : PtS k a) : Ps (k + k) a := Ps.of h.x h.y
theorem PtS.mono {k l : Nat} {a : Pt} (h : PtS k a) (hl : k ≤ l) : PtS l a := ⟨h.x.mono hl, h.y.mono hl⟩
theorem a35 {n : Nat} {f : FS} (h : Fd n f) (hn : n < 2 ^ 28) : ∃ a f', LPl [.feed] (some f) = some (pt a, some f') ∧ PtS 5 a ∧ Fd (n + 8) f' := by
 obtain ⟨p, f1, e1, s1, h1⟩ := a4S h (by omega)
 obtain ⟨q, f2, e2, s2, h2⟩ := a4S h1 (by omega)
 refine ⟨(p, q), f2, u6 (s := ⟨[.val .feed], some f2⟩) ?_, ⟨s1, s2⟩, h2⟩
 show a2T LA LN ⟨[.val .feed], some f⟩ = _
 simp [a2T, c5, m6, e8, dOp, dUn, dC, dL, dV, c6, i4, dB, i3, a9, a6, a7, d0, i5, dCB, one, i7, i8, dIf, k9, dOr, j8, l6, m9, m7, pIx, i6, k6, k0, j3, j5, l0, j9, l4, l5, dTr, m8, e1, e2, lat p q _ s1 s2 (by omega)]
end T

namespace T
open PySem L2 DL
noncomputable def menu : List D := [.non, .bl true, .bl false, .int (-1), .int 0, .int 1, .int 2, .int 5, .int 1000000000000000000000000000000000000000, .str "", .str "both", .str "cut", .str "in", .str "1/2", .tup [], .lst [], .lst [.int 0, .int 1], .tup [.int 0, .int 1], .tup [.int 0, .int 0, .int 1]]
theorem Q6 {x : Str} (h : x.cps.toList.all (fun c => decide (c < 128)) = true) : asc x := fun c hc => of_decide_eq_true (List.all_eq_true.mp h c hc)
theorem b23 : ∀ d ∈ menu, Th 130 1 d ∧ bk d ≤ 4 := by
 intro d hd
 simp only [menu, List.mem_cons, List.not_mem_nil, or_false] at hd
 rcases hd with rfl | rfl | rfl | rfl | rfl | rfl | rfl | rfl | rfl | rfl | rfl | rfl | rfl | rfl | rfl | rfl | rfl | rfl | rfl
 all_goals first
  | exact ⟨by unfold Th; trivial, by decide⟩
  | exact ⟨by unfold Th; exact Bd.lit (by decide), by decide⟩
  | exact ⟨by unfold Th; exact Q6 (by decide +kernel), by decide +kernel⟩
  | exact ⟨by unfold Th; exact Ths.of (by intro d hd; simp only [List.mem_cons, List.not_mem_nil, or_false, or_self] at hd; first | exact hd.elim | (rcases hd with rfl | rfl | rfl <;> (unfold Th; exact Bd.lit (by decide))) | (rcases hd with rfl | rfl <;> (unfold Th; exact Bd.lit (by decide)))), by decide⟩
noncomputable abbrev LO : DFn := a36 u9
theorem odd {n : Nat} {f : FS} (h : Fd n f) (hn : n < 2 ^ 29) : ∃ d f', LO [.feed] (some f) = some (d, some f') ∧ Th 130 1 d ∧ bk d ≤ 4 ∧ Fd (n + 1) f' := by
 obtain ⟨r, f1, e1, a1, a2, h1⟩ := C1 19 h
 obtain ⟨d, hd, hq⟩ := Z7 (xs := menu) a1 (by show r < 19; exact a2)
 obtain ⟨t1, t2⟩ := b23 d hd
 refine ⟨d, f1, u6 (s := ⟨[.val .feed, .own (menu.take 16)], some f1⟩) ?_, t1, t2, h1⟩
 show a3l u9 ⟨[.val .feed, .no], some f⟩ = _
 have s0 : (0 : Nat) ≤ sizeLine := by decide
 have s2 : (2 : Nat) ≤ sizeLine := by decide
 have s3 : (3 : Nat) ≤ sizeLine := by decide
 have s16 : (16 : Nat) ≤ sizeLine := by decide
 have s19 : (19 : Nat) ≤ sizeLine := by decide
 simp only [menu] at hq
 simp [a3l, c5, m6, e8, dOp, dUn, dC, dL, dV, c6, i4, dB, i3, a9, a6, a7, d0, i5, dCB, one, i7, i8, dIf, k9, dOr, j8, l6, m9, m7, i6, k6, k0, j3, j5, l0, j9, l4, l5, dTr, m8, ixT, ixL, o7, o9, o8, p8, p9, D0, Y5, U5, W6, s2, s3, s16, s19, e1, hq, menu]
theorem D4 (C : String) (ds : List D) : A6 C (.tup ds) = some (.bl (v6 "tuple" C)) := rfl
theorem a6c (C : String) (ds : List D) : A6 C (.lst ds) = some (.bl (v6 "list" C)) := rfl
theorem a4Y (C : String) (i : Int) : A6 C (.int i) = some (.bl (v6 "int" C)) := rfl
theorem Z0 (C : String) (i : Bool) : A6 C (.bl i) = some (.bl (v6 "bool" C)) := rfl
theorem a4l (C : String) (i : Str) : A6 C (.str i) = some (.bl (v6 "str" C)) := rfl
theorem a6m (C : String) : A6 C .non = some (.bl (v6 "NoneType" C)) := rfl
noncomputable abbrev LBt (N : Nat) : DFn := a0U LO u9 N
theorem a5S {N n : Nat} {f : FS} (d : D) (h : Fd n f) (hn : n < 2 ^ 28) (hd : d = .non ∨ ∃ ds, d = .lst ds) : ∃ d' f', LBt (N + 1) [.feed, d] (some f) = some (d', some f') ∧ Th 130 1 d' ∧ bk d' ≤ 4 ∧ Fd (n + 3) f' := by
 obtain ⟨d', f', e, t, b, h'⟩ := odd h (by omega)
 refine ⟨d', f', u6 (s := ⟨[.val .feed, .val d, .no, .no], some f'⟩) ?_, t, b, h'.mono (by omega)⟩
 show J7 LO u9 (LBt N) ⟨[.val .feed, .val d, .no, .no], some f⟩ = _
 rcases hd with rfl | ⟨ds, rfl⟩
 ·simp [J7, c5, m6, e8, dOp, dUn, dC, dL, dV, c6, i4, dB, i3, a9, a6, a7, d0, i5, dCB, one, i7, i8, dIf, k9, dOr, j8, l6, m9, m7, i6, k6, k0, j3, j5, l0, j9, l4, l5, dTr, m8, ixT, ixL, o7, o9, o8, p8, p9, a6m, v6, e]
 ·simp [J7, c5, m6, e8, dOp, dUn, dC, dL, dV, c6, i4, dB, i3, a9, a6, a7, d0, i5, dCB, one, i7, i8, dIf, k9, dOr, j8, l6, m9, m7, i6, k6, k0, j3, j5, l0, j9, l4, l5, dTr, m8, ixT, ixL, o7, o9, o8, p8, p9, a6c, v6, e]
theorem a9W {N n : Nat} {f : FS} (c : Bool) (h : Fd n f) (hn : n < 2 ^ 28) : ∃ d' f', LBt (N + 1) [.feed, .bl c] (some f) = some (d', some f') ∧ Th 130 1 d' ∧ bk d' ≤ 4 ∧ Fd (n + 3) f' := by
 obtain ⟨d', f1, e, t, b, h1⟩ := odd h (by omega)
 obtain ⟨r, f2, e2, a1, a2, h2⟩ := C1 3 h1
 obtain ⟨x, hx, hq⟩ := Z7 (xs := [D.bl (!c), D.int (if c then 1 else 0), d']) a1 (by show r < 3; exact a2)
 refine ⟨x, f2, u6 (s := ⟨[.val .feed, .val (.bl c), .no, .no], some f2⟩) ?_, ?_, ?_, h2.mono (by omega)⟩
 ·show J7 LO u9 (LBt N) ⟨[.val .feed, .val (.bl c), .no, .no], some f⟩ = _
  have s3 : (3 : Nat) ≤ sizeLine := by decide
  simp [J7, c5, m6, e8, dOp, dUn, dC, dL, dV, c6, i4, dB, i3, a9, a6, a7, d0, i5, dCB, one, i7, i8, dIf, k9, dOr, j8, l6, m9, m7, i6, k6, k0, j3, j5, l0, j9, l4, l5, dTr, m8, ixT, ixL, o7, o9, o8, p8, p9, Z0, v6, U9, s3, e, e2, hq]
 ·simp only [List.mem_cons, List.not_mem_nil, or_false] at hx
  rcases hx with rfl | rfl | rfl
  ·unfold Th; trivial
  ·unfold Th; split <;> exact Bd.lit (by decide)
  ·exact t
 ·simp only [List.mem_cons, List.not_mem_nil, or_false] at hx
  rcases hx with rfl | rfl | rfl
  ·rw [a01]; omega
  ·rw [M9]; omega
  ·exact b
theorem b3o {N n b : Nat} {f : FS} (i : Int) (hi : Bd b i) (hb : 130 ≤ b) (hb2 : b ≤ 1000) (h : Fd n f) (hn : n < 2 ^ 28) : ∃ d' f', LBt (N + 1) [.feed, .int i] (some f) = some (d', some f') ∧ Th (b + 1) 1 d' ∧ bk d' ≤ b + 5 ∧ Fd (n + 3) f' := by
 obtain ⟨d', f1, e, t, bd, h1⟩ := odd h (by omega)
 obtain ⟨r, f2, e2, a1, a2, h2⟩ := C1 8 h1
 obtain ⟨x, hx, hq⟩ := Z7 (xs := [D.int (i + 1), D.int (i - 1), D.int (2 * i), D.int (-i), D.bl (decide (i = 1)), D.str (toString i), D.int 0, d']) a1 (by show r < 8; exact a2)
 have z1 : A5 2 = true := by decide
 have z2 : A5 i = true := hi.bits (by omega)
 have one1 : Bd 1 1 := Bd.lit (by decide)
 have ll := b0u hi (by omega)
 have lg : i.natAbs.log2 < 1920 := W9 (by decide) (hi.mono (by omega))
 have l2 : (toString i : Str).length ≤ sizeLine := Nat.le_trans ll (by rw [sizeLine_eq]; omega)
 have ps : a0e (.int i) = some (.str (toString i)) := by simp only [a0e]; rw [if_pos ⟨lg, l2⟩]
 have as := a9R i
 generalize (PySem.Str.ofString (toString i)) = T at *
 refine ⟨x, f2, u6 (s := ⟨[.val .feed, .val (.int i), .no, .own [D.int (i + 1), D.int (i - 1), D.int (2 * i), D.int (-i), D.bl (decide (i = 1)), D.str T, D.int 0, d']], some f2⟩) ?_, ?_, ?_, h2.mono (by omega)⟩
 ·show J7 LO u9 (LBt N) ⟨[.val .feed, .val (.int i), .no, .no], some f⟩ = _
  have s8 : (8 : Nat) ≤ sizeLine := by decide
  simp [J7, c5, m6, e8, dOp, dUn, dC, dL, dV, c6, i4, dB, i3, a9, a6, a7, d0, i5, dCB, one, i7, i8, dIf, k9, dOr, j8, l6, m9, m7, i6, k6, k0, j3, j5, l0, j9, l4, l5, dTr, m8, ixT, ixL, o7, o9, o8, p8, p9, a4Y, v6, D0, r8, z1, z2, D1, ps, s8, e, e2, hq]
 ·simp only [List.mem_cons, List.not_mem_nil, or_false] at hx
  rcases hx with rfl | rfl | rfl | rfl | rfl | rfl | rfl | rfl
  ·unfold Th; exact (hi.add one1).mono (by omega)
  ·unfold Th; exact (hi.sub one1).mono (by omega)
  ·unfold Th
   have : (2 : Int) * i = i + i := by omega
   rw [this]
   exact (hi.add hi).mono (by omega)
  ·unfold Th; exact hi.neg.mono (by omega)
  ·unfold Th; trivial
  ·unfold Th; exact as
  ·unfold Th; exact (show Bd 1 0 from Bd.lit (by decide)).mono (by omega)
  ·exact Th.mono (by omega) _ (Nat.le_refl _) t
 ·simp only [List.mem_cons, List.not_mem_nil, or_false] at hx
  rcases hx with rfl | rfl | rfl | rfl | rfl | rfl | rfl | rfl
  ·rw [M9]; omega
  ·rw [M9]; omega
  ·rw [M9]; omega
  ·rw [M9]; omega
  ·rw [a01]; omega
  ·rw [a1k]; exact Nat.le_trans ll (by omega)
  ·rw [M9]; omega
  ·omega
theorem b08 {N n : Nat} {f : FS} (x : Str) (hx : asc x) (hl : x.length ≤ 100000) (h : Fd n f) (hn : n < 2 ^ 28) : ∃ d' f', LBt (N + 1) [.feed, .str x] (some f) = some (d', some f') ∧ Th 130 1 d' ∧ bk d' ≤ x.length + 8 ∧ Fd (n + 3) f' := by
 obtain ⟨d', f1, e, t, bd, h1⟩ := odd h (by omega)
 obtain ⟨r, f2, e2, a1, a2, h2⟩ := C1 10 h1
 obtain ⟨u1, u2⟩ := b1g hx
 obtain ⟨y, hy, hq⟩ := Z7 (xs := [D.str "both", D.str "left", D.str "right", D.str "cut", D.str "square", D.str "round", D.str "pointed", D.str (x ++ "x"), D.str (Txt.upper x), d']) a1 (by show r < 10; exact a2)
 have lx : ("x" : Str).length = 1 := by decide +kernel
 have w1 : x.length + ("x" : Str).length ≤ sizeLine := by rw [lx, sizeLine_eq]; omega
 have w2 : (Txt.upper x).length ≤ sizeLine := by rw [u2, sizeLine_eq]; omega
 refine ⟨y, f2, u6 (s := ⟨[.val .feed, .val (.str x), .no, .own [D.str "both", D.str "left", D.str "right", D.str "cut", D.str "square", D.str "round", D.str "pointed", D.str (x ++ "x"), D.str (Txt.upper x)]], some f2⟩) ?_, ?_, ?_, h2.mono (by omega)⟩
 ·show J7 LO u9 (LBt N) ⟨[.val .feed, .val (.str x), .no, .no], some f⟩ = _
  have s9 : (9 : Nat) ≤ sizeLine := by decide
  have s1 : (1 : Nat) ≤ sizeLine := by decide
  have s10 : (10 : Nat) ≤ sizeLine := by decide
  simp [J7, c5, m6, e8, dOp, dUn, dC, dL, dV, c6, i4, dB, i3, a9, a6, a7, d0, i5, dCB, one, i7, i8, dIf, k9, dOr, j8, l6, m9, m7, i6, k6, k0, j3, j5, l0, j9, l4, l5, dTr, m8, ixT, ixL, o7, o9, o8, p8, p9, a4l, v6, D0, Y5, W6, pUp, w1, w2, s9, s10, s1, e, e2, hq]
 ·simp only [List.mem_cons, List.not_mem_nil, or_false] at hy
  rcases hy with rfl | rfl | rfl | rfl | rfl | rfl | rfl | rfl | rfl | rfl
  ·unfold Th; exact Q6 (by decide +kernel)
  ·unfold Th; exact Q6 (by decide +kernel)
  ·unfold Th; exact Q6 (by decide +kernel)
  ·unfold Th; exact Q6 (by decide +kernel)
  ·unfold Th; exact Q6 (by decide +kernel)
  ·unfold Th; exact Q6 (by decide +kernel)
  ·unfold Th; exact Q6 (by decide +kernel)
  ·unfold Th; exact a54 hx (Q6 (by decide +kernel))
  ·unfold Th; exact u1
  ·exact t
 ·simp only [List.mem_cons, List.not_mem_nil, or_false] at hy
  rcases hy with rfl | rfl | rfl | rfl | rfl | rfl | rfl | rfl | rfl | rfl
  ·exact Nat.le_trans (show bk (.str "both") ≤ 8 by decide +kernel) (by omega)
  ·exact Nat.le_trans (show bk (.str "left") ≤ 8 by decide +kernel) (by omega)
  ·exact Nat.le_trans (show bk (.str "right") ≤ 8 by decide +kernel) (by omega)
  ·exact Nat.le_trans (show bk (.str "cut") ≤ 8 by decide +kernel) (by omega)
  ·exact Nat.le_trans (show bk (.str "square") ≤ 8 by decide +kernel) (by omega)
  ·exact Nat.le_trans (show bk (.str "round") ≤ 8 by decide +kernel) (by omega)
  ·exact Nat.le_trans (show bk (.str "pointed") ≤ 8 by decide +kernel) (by omega)
  ·rw [a1k, strLen_append, lx]; omega
  ·rw [a1k, u2]; omega
  ·omega
theorem b15 (ds : List D) : PyData.eqv (D.py (.tup ds)) (D.py (.tup [])) = decide (ds = []) := by
 cases ds with
 | nil => simp [D.py, D.pys, PyData.eqv, PyData.eqvAll]
 | cons d r => simp [D.py, D.pys, PyData.eqv, PyData.eqvAll]
theorem b0c {b k : Nat} (ds : List D) (h : Th b k (.tup ds)) (hb : b ≤ 1920) (hk : k ≤ 64) : pNe (.tup ds) (.tup []) = some (.bl (!decide (ds = []))) := by
 have o1 := (Th.ok hb _ h).eq hk
 have o2 : w6 (.tup []) = true := (Ok.tup OkL.nil).eq
 have : pNe (.tup ds) (.tup []) = if w6 (.tup ds) && w6 (.tup []) then some (.bl (!PyData.eqv (D.py (.tup ds)) (D.py (.tup [])))) else none := rfl
 rw [this, o1, o2, b15]; rfl
theorem b2L {N n b k : Nat} {f : FS} (ds : List D) (hd : Th b (k + 1) (.tup ds)) (hb : 130 ≤ b) (hb2 : b ≤ 1000) (hs : bks ds ≤ 100000) (h : Fd n f) (hn : n < 2 ^ 28) (x2 : Sl) (m : DFn) :
  ∃ d' f' s', i4 (dTr (dUn (A6 "tuple") (dL 1))) (c5 (D0 3 (i8 (a6 (i7 (dCF (one a1x) (a6 (dL 1) a7))) (a6 (dSl (dL 1) (dAt (dC (.int 1))) dNo) (a6 (dOp i6 (dL 1) (dSl (dL 1) (dAt (dUn k0 (dC (.int 1)))) dNo)) (a6 (a1O (dL 1) (dUn k0 (dC (.int 1)))) (a6 (dOp i6 (dL 1) (d0 (a6 (dC (.int 0)) a7))) (a6 (d0 a7) (a6 (d0 (a6 (dV 1) a7)) (a6 (a9 LO (a6 (dV 0) a7)) a7)))))))))) (i3 (dOp pIx (dL 3) (a9 u9 (a6 (dV 0) (a6 (dC (.int 8)) a7)))))) i5
   ⟨[.val .feed, .val (.tup ds), x2, .no], some f⟩ = some (.ret d', s') ∧ s'.fs = some f' ∧ Th b (k + 2) d' ∧ bk d' ≤ 2 * bks ds + 8 ∧ Fd (n + 2) f' := by
 obtain ⟨d', f1, e, t, bd, h1⟩ := odd h (by omega)
 obtain ⟨r, f2, e2, a1, a2, h2⟩ := C1 8 h1
 have hl := X6 ds
 have hcl := b2z ds (some (-1)) none
 have c1 : ds.length + (B3 ds (some (-1)) none).length ≤ sizeLine := by rw [sizeLine_eq]; omega
 have c2 : ds.length + 1 ≤ sizeLine := by rw [sizeLine_eq]; omega
 have hm : ∀ d ∈ ds, Th b k d := fun d m => Ths.mem (by unfold Th at hd; exact hd) m
 obtain ⟨y, hy, hq⟩ := Z7 (xs := [D.lst ds, D.tup (B3 ds (some 1) none), D.tup (ds ++ B3 ds (some (-1)) none), D.tup ds.reverse, D.tup (ds ++ [.int 0]), D.tup [], D.tup [.tup ds], d']) a1 (by show r < 8; exact a2)
 refine ⟨y, f2, ⟨[.val .feed, .val (.tup ds), x2, .own [D.lst ds, D.tup (B3 ds (some 1) none), D.tup (ds ++ B3 ds (some (-1)) none), D.tup ds.reverse, D.tup (ds ++ [.int 0]), D.tup [], D.tup [.tup ds], d']], some f2⟩, ?_, rfl, ?_, ?_, h2⟩
 ·have s8 : (8 : Nat) ≤ sizeLine := by decide
  have s1 : (1 : Nat) ≤ sizeLine := by decide
  simp [c5, m6, e8, dOp, dUn, dC, dL, dV, c6, i4, dB, i3, a9, a6, a7, d0, i5, dCB, one, i7, i8, dIf, k9, dOr, j8, l6, m9, m7, i6, k6, k0, j3, j5, l0, j9, l4, l5, dTr, m8, ixT, ixL, o7, o9, o8, p8, p9, D4, v6, D0, dCF, a1x, dSl, dAt, dNo, a1O, c1, c2, s8, s1, e, e2, hq]
 ·have z0 : Th b k (.int 0) := by unfold Th; exact (show Bd 1 0 from Bd.lit (by decide)).mono (by omega)
  have up : ∀ {es : List D}, (∀ d ∈ es, Th b k d) → Th b (k + 2) (.tup es) := fun he => by
   unfold Th; exact Ths.of fun d hd => Th.mono (Nat.le_refl _) d (by omega) (he d hd)
  simp only [List.mem_cons, List.not_mem_nil, or_false] at hy
  rcases hy with rfl | rfl | rfl | rfl | rfl | rfl | rfl | rfl
  ·unfold Th; exact Ths.of fun d hd => Th.mono (Nat.le_refl _) d (by omega) (hm d hd)
  ·exact up fun d hd => hm d (a68 hd)
  ·exact up fun d hd => by
    rcases List.mem_append.mp hd with z | z
    ·exact hm d z
    ·exact hm d (a68 z)
  ·exact up fun d hd => hm d (List.mem_reverse.mp hd)
  ·exact up fun d hd => by
    rcases List.mem_append.mp hd with z | z
    ·exact hm d z
    ·rw [List.mem_singleton.mp z]; exact z0
  ·exact up fun d hd => by cases hd
  ·unfold Th; exact Ths.of fun d hd' => by rw [List.mem_singleton.mp hd']; exact hd
  ·exact Th.mono (by omega) _ (by omega) t
 ·simp only [List.mem_cons, List.not_mem_nil, or_false] at hy
  rcases hy with rfl | rfl | rfl | rfl | rfl | rfl | rfl | rfl
  ·rw [a4q]; omega
  ·rw [D5]; have := a5T ds (some 1) none; omega
  ·rw [D5, Q4]; have := a5T ds (some (-1)) none; omega
  ·rw [D5, a4Z]; omega
  ·rw [D5, Q4, E1, M9, R0]; omega
  ·rw [D5, R0]; omega
  ·rw [D5, E1, D5, R0]; omega
  ·omega
theorem a22 : ∀ (N : Nat) {n b k : Nat} {f : FS} (d : D), k < N → N ≤ 64 → Th b k d → 130 ≤ b → b ≤ 1000 → bk d ≤ 100000 → Fd n f → n + 3 * (k + 1) < 2 ^ 27 →
  ∃ d' f', LBt N [.feed, d] (some f) = some (d', some f') ∧ Th (b + 1) (k + 1) d' ∧ bk d' ≤ 2 * bk d + b + 10 ∧ Fd (n + 3 * (k + 1)) f'
 | 0, n, b, k, f, d, hk, _, _, _, _, _, _, _ => by omega
 | N + 1, n, b, k, f, .feed, hk, hN, h, _, _, _, _, _ => by unfold Th at h; exact h.elim
 | N + 1, n, b, k, f, .scr _, hk, hN, h, _, _, _, _, _ => by unfold Th at h; exact h.elim
 | N + 1, n, b, k, f, .non, hk, hN, h, hb, hb2, hs, hf, hn => by
  obtain ⟨d', f', e, t, s, g⟩ := a5S (N := N) .non hf (by omega) (.inl rfl)
  exact ⟨d', f', e, Th.mono (by omega) _ (by omega) t, by omega, g.mono (by omega)⟩
 | N + 1, n, b, k, f, .lst ds, hk, hN, h, hb, hb2, hs, hf, hn => by
  obtain ⟨d', f', e, t, s, g⟩ := a5S (N := N) (.lst ds) hf (by omega) (.inr ⟨ds, rfl⟩)
  exact ⟨d', f', e, Th.mono (by omega) _ (by omega) t, by omega, g.mono (by omega)⟩
 | N + 1, n, b, k, f, .bl c, hk, hN, h, hb, hb2, hs, hf, hn => by
  obtain ⟨d', f', e, t, s, g⟩ := a9W (N := N) c hf (by omega)
  exact ⟨d', f', e, Th.mono (by omega) _ (by omega) t, by omega, g.mono (by omega)⟩
 | N + 1, n, b, k, f, .int i, hk, hN, h, hb, hb2, hs, hf, hn => by
  unfold Th at h
  obtain ⟨d', f', e, t, s, g⟩ := b3o (N := N) i h hb hb2 hf (by omega)
  exact ⟨d', f', e, Th.mono (by omega) _ (by omega) t, by omega, g.mono (by omega)⟩
 | N + 1, n, b, k, f, .str x, hk, hN, h, hb, hb2, hs, hf, hn => by
  unfold Th at h
  rw [a1k] at hs ⊢
  obtain ⟨d', f', e, t, s, g⟩ := b08 (N := N) x h hs hf (by omega)
  exact ⟨d', f', e, Th.mono (by omega) _ (by omega) t, by omega, g.mono (by omega)⟩
 | N + 1, n, b, 0, f, .tup ds, hk, hN, h, _, _, _, _, _ => by unfold Th at h; exact h.elim
 | N + 1, n, b, k + 1, f, .tup ds, hk, hN, h, hb, hb2, hs, hf, hn => by
  have ne := b0c ds h (by omega) (by omega)
  rw [D5] at hs ⊢
  have eight : ∀ {m : Nat} {g : FS} (x2 : Sl), Fd m g → m < 2 ^ 28 → i4 (k9 (dTr (dUn (A6 "tuple") (dL 1))) (k9 (dB (dOp pNe (dL 1) (d0 a7))) (dB (dOp (j3 (fun i j => decide (j < i))) (a9 u9 (a6 (dV 0) (a6 (dC (.int 5)) a7))) (dC (.int 0)))))) (c5 (e8 (a9 u9 (a6 (dV 0) (a6 (dCB (one j5) (a6 (dL 1) a7)) a7))) (c6 2)) (i3 (dOp i6 (dOp i6 (dSl (dL 1) dNo (dAt (dL 2))) (d0 (a6 (a9 (LBt N) (a6 (dV 0) (a6 (dOp pIx (dL 1) (dL 2)) a7))) a7))) (dSl (dL 1) (dAt (dOp i6 (dL 2) (dC (.int 1)))) dNo)))) i5
    ⟨[.val .feed, .val (.tup ds), .no, .no], some f⟩ = some (.next, ⟨[.val .feed, .val (.tup ds), x2, .no], some g⟩) → ∃ d' f', LBt (N + 1) [.feed, .tup ds] (some f) = some (d', some f') ∧ Th b (k + 2) d' ∧ bk d' ≤ 2 * bks ds + 8 ∧ Fd (m + 2) f' := by
   intro m g x2 hg hm e
   obtain ⟨d', f', s', e1, e2, t, s, q⟩ := b2L (N := N) ds h hb hb2 hs hg hm x2 (LBt N)
   refine ⟨d', f', ?_, t, s, q⟩
   rw [← e2]
   refine u6 ?_
   show J7 LO u9 (LBt N) ⟨[.val .feed, .val (.tup ds), .no, .no], some f⟩ = _
   unfold J7
   rw [o0 e]
   exact D7 e1
  have s0 : (0 : Nat) ≤ sizeLine := by decide
  by_cases hz : ds = []
  ·rw [decide_eq_true hz] at ne
   obtain ⟨d', f', e, t, s, q⟩ := eight .no hf (by omega) (by simp [c5, m6, e8, dOp, dUn, dC, dL, dV, c6, i4, dB, i3, a9, a6, a7, d0, i5, dCB, one, i7, i8, dIf, k9, dOr, j8, l6, m9, m7, i6, k6, k0, j3, j5, l0, j9, l4, l5, dTr, m8, ixT, ixL, o7, o9, o8, p8, p9, D4, v6, ne])
   exact ⟨d', f', e, Th.mono (by omega) _ (by omega) t, by omega, q.mono (by omega)⟩
  ·rw [decide_eq_false hz] at ne
   obtain ⟨r, f1, e1, a1, a2, h1⟩ := C1 5 hf
   by_cases hr : 0 < r
   ·have hlen : 0 < ds.length := by cases ds with | nil => exact absurd rfl hz | cons _ _ => simp
    have hbl := X6 ds
    obtain ⟨p, f2, e2, p1, p2, h2⟩ := C1 (ds.length : Int) h1 (by omega) (by omega) (by omega)
    obtain ⟨P, rfl⟩ := Int.eq_ofNat_of_zero_le p1
    have hP : P < ds.length := by omega
    have hat : atI ds (P : Int) = some ds[P] := by rw [a0p (by omega) p2]; simp [hP]
    have hc : Th b k ds[P] := Ths.mem (by unfold Th at h; exact h) (List.getElem_mem hP)
    have hcb := a0t (List.getElem_mem hP)
    obtain ⟨c', f3, e3, t3, s3, h3⟩ := a22 N ds[P] (by omega) (by omega) hc hb hb2 (by omega) h2 (by omega)
    have k1 : B3 ds none (some (P : Int)) = ds.take P := a2C ds P (by omega)
    have k2 : B3 ds (some ((P : Int) + 1)) none = ds.drop (P + 1) := by
     have := a4J ds (P + 1) (by omega)
     rwa [Int.natCast_add] at this
    have l1 : (ds.take P).length + 1 ≤ sizeLine := by rw [List.length_take, sizeLine_eq]; omega
    have l2 : (ds.take P ++ [c']).length + (ds.drop (P + 1)).length ≤ sizeLine := by
     rw [List.length_append, List.length_take, List.length_drop, sizeLine_eq]; simp; omega
    have s1 : (1 : Nat) ≤ sizeLine := by decide
    refine ⟨.tup (ds.take P ++ [c'] ++ ds.drop (P + 1)), f3, u6 (s := ⟨[.val .feed, .val (.tup ds), .val (.int P), .no], some f3⟩) ?_, ?_, ?_, h3.mono (by omega)⟩
    ·show J7 LO u9 (LBt N) ⟨[.val .feed, .val (.tup ds), .no, .no], some f⟩ = _
     unfold J7
     refine D7 ?_
     rw [N3 (s1 := ⟨[.val .feed, .val (.tup ds), .no, .no], some f1⟩) (by simp [c5, m6, e8, dOp, dUn, dC, dL, dV, c6, i4, dB, i3, a9, a6, a7, d0, i5, dCB, one, i7, i8, dIf, k9, dOr, j8, l6, m9, m7, i6, k6, k0, j3, j5, l0, j9, l4, l5, dTr, m8, ixT, ixL, o7, o9, o8, p8, p9, D4, v6, ne, e1, hr])]
     rw [o0 (s1 := ⟨[.val .feed, .val (.tup ds), .val (.int P), .no], some f2⟩) (by simp [c5, m6, e8, dOp, dUn, dC, dL, dV, c6, i4, dB, i3, a9, a6, a7, d0, i5, dCB, one, i7, i8, dIf, k9, dOr, j8, l6, m9, m7, i6, k6, k0, j3, j5, l0, j9, l4, l5, dTr, m8, ixT, ixL, o7, o9, o8, p8, p9, e2])]
     refine D9 ?_
     simp only [List.length_append, List.length_take, List.length_drop, List.length_singleton] at l1 l2
     simp [c5, m6, e8, dOp, dUn, dC, dL, dV, c6, i4, dB, i3, a9, a6, a7, d0, i5, dCB, one, i7, i8, dIf, k9, dOr, j8, l6, m9, m7, i6, k6, k0, j3, j5, l0, j9, l4, l5, dTr, m8, ixT, ixL, o7, o9, o8, p8, p9, dSl, dAt, dNo, k1, k2, hat, e3, s1, l1, l2]
    ·have hm : ∀ d ∈ ds, Th b k d := fun d m => Ths.mem (by unfold Th at h; exact h) m
     unfold Th
     refine Ths.of fun d hd => ?_
     rcases List.mem_append.mp hd with z | z
     ·rcases List.mem_append.mp z with z | z
      ·exact Th.mono (by omega) d (by omega) (hm d (List.mem_of_mem_take z))
      ·rw [List.mem_singleton.mp z]; exact t3
     ·exact Th.mono (by omega) d (by omega) (hm d (List.mem_of_mem_drop z))
    ·rw [D5, Q4, Q4, E1, R0]
     have q1 := Q4 (ds.take P) (ds.drop P)
     rw [List.take_append_drop, List.drop_eq_getElem_cons hP, E1] at q1
     omega
   ·obtain ⟨d', f', e, t, s, q⟩ := eight .no h1 (by omega) (by simp [c5, m6, e8, dOp, dUn, dC, dL, dV, c6, i4, dB, i3, a9, a6, a7, d0, i5, dCB, one, i7, i8, dIf, k9, dOr, j8, l6, m9, m7, i6, k6, k0, j3, j5, l0, j9, l4, l5, dTr, m8, ixT, ixL, o7, o9, o8, p8, p9, D4, v6, ne, e1, hr])
    exact ⟨d', f', e, Th.mono (by omega) _ (by omega) t, by omega, q.mono (by omega)⟩
end T

namespace DL
open PySem L2
theorem a0k {idx : List Nat} {fe : DE} {g : D → D} (caps : List Sl) (fs : Option FS) : ∀ (ds : List D), (∀ d ∈ ds, ∃ s, fe ⟨.val d :: caps, fs⟩ = some (g d, s) ∧ s.fs = fs) → C4 (fun d => some (.val d :: caps)) B0 fe ds fs = some (ds.map g, fs)
 | [], _ => rfl
 | d :: r, h => by
  obtain ⟨s, e, q⟩ := h d (List.mem_cons_self ..)
  have ih := a0k (idx := idx) caps fs r fun x hx => h x (List.mem_cons_of_mem _ hx)
  simp [C4, B0, e, q, ih]
theorem a2x (p : D → Bool) : ∀ ds : List D, Q2 (ds.map fun d => .bl (p d)) = some (ds.all p)
 | [] => rfl
 | d :: r => by simp [Q2, a2x p r]
theorem a2t {ds : List D} (h : ds.length = 2) : ∃ a b, ds = [a, b] := by
 match ds, h with
 | [a, b], _ => exact ⟨a, b, rfl⟩
theorem a5C {ds : List D} (h : ds.length = 3) : ∃ a b c, ds = [a, b, c] := by
 match ds, h with
 | [a, b, c], _ => exact ⟨a, b, c, rfl⟩
noncomputable def whole : D → Bool
 | .int _ => true
 | _ => false
theorem U1 {d : D} (h : whole d = true) : ∃ i, d = .int i := by
 cases d with
 | int i => exact ⟨i, rfl⟩
 | _ => cases h
noncomputable def y0 : D → Bool
 | .tup [.int x, .int y, .int d] => decide (1 ≤ d) && decide (Int.gcd (Int.gcd x y : Int) d = 1)
 | _ => false
noncomputable def thing : D → Bool
 | .feed => false
 | .scr _ => false
 | _ => true
theorem Th.thing {b k : Nat} {d : D} (h : Th b k d) : thing d = true := by
 cases d with
 | feed => unfold Th at h; exact h.elim
 | scr _ => unfold Th at h; exact h.elim
 | _ => rfl
end DL
namespace T
open PySem L2 DL
theorem a8o (d : D) (fs : Option FS) (h : thing d = true) : R9 [d] fs = some (.bl (whole d), fs) := by
 refine u6 (s := ⟨[.val d], fs⟩) ?_
 show a2i ⟨[.val d], fs⟩ = _
 cases d with
 | feed => cases h
 | scr _ => cases h
 | non => rfl
 | bl _ => rfl
 | int _ => rfl
 | str _ => rfl
 | tup _ => simp [a2i, c5, m6, e8, dOp, dUn, dC, dL, dV, c6, i4, dB, i3, a9, a6, a7, d0, i5, dCB, one, i7, i8, dIf, k9, dOr, j8, l6, m9, m7, i6, k6, k0, j3, j5, l0, j9, l4, l5, dTr, m8, ixT, ixL, o7, o9, o8, p8, p9, D4, v6, whole]
 | lst _ => rfl
noncomputable abbrev FIL : DFn := a1I (S8 J5) R9
noncomputable def F0 (size : Nat) : D → Bool
 | .tup ds => decide (ds.length = size) && ds.all whole && (match ds with
  | [.int a, .int b] => decide (1 ≤ b) && decide (Int.gcd a b = 1)
  | [.int x, .int y, .int d] => decide (1 ≤ d) && decide (Int.gcd (Int.gcd x y : Int) d = 1)
  | _ => false)
 | _ => false
theorem a8z (d : D) (n : Nat) (fs : Option FS) (hn : n = 2 ∨ n = 3) (h : thing d = true) (hs : ∀ ds, d = .tup ds → (∀ x ∈ ds, thing x = true) ∧ ds.length ≤ sizeLine) : FIL [d, .int n] fs = some (.bl (F0 n d), fs) := by
 refine u6 (s := ⟨[.val d, .val (.int n)], fs⟩) ?_
 show a0s (S8 J5) R9 ⟨[.val d, .val (.int n)], fs⟩ = _
 cases d with
 | feed => cases h
 | scr _ => cases h
 | non => rfl
 | bl _ => rfl
 | int _ => rfl
 | str _ => rfl
 | lst _ => rfl
 | tup ds =>
  obtain ⟨ht, hl⟩ := hs ds rfl
  have cm : C4 (fun d => some (.val d :: [])) B0 (a9 R9 (a6 (dV 0) a7)) ds fs = some (ds.map (fun d => .bl (whole d)), fs) := a0k (idx := []) [] fs ds fun x hx => ⟨⟨[.val x], fs⟩, by simp [c5, m6, e8, dOp, dUn, dC, dL, dV, c6, i4, dB, i3, a9, a6, a7, d0, i5, dCB, one, i7, i8, dIf, k9, dOr, j8, l6, m9, m7, i6, k6, k0, j3, j5, l0, j9, l4, l5, dTr, m8, ixT, ixL, o7, o9, o8, p8, p9, a8o x fs (ht x hx)], rfl⟩
  have al := a2x whole ds
  by_cases hz : ds.length = n
  ·by_cases hw : ds.all whole = true
   ·have hz' : (ds.length : Int) = (n : Int) := by omega
    have pre : ∀ rest : DM, c5 (i4 (dOr (j8 (dTr (dUn (A6 "tuple") (dL 0)))) (dB (dOp pNe (dCB (one j5) (a6 (dL 0) a7)) (dL 1)))) (i3 (dC (.bl false))) i5) (c5 (i4 (j8 (dTr (dCB (one M8) (a6 (i7 (C7 [] (G7 (dV 0)) B0 (a9 R9 (a6 (dV 0) a7)))) a7)))) (i3 (dC (.bl false))) i5) rest) ⟨[.val (.tup ds), .val (.int n)], fs⟩ = rest ⟨[.val (.tup ds), .val (.int n)], fs⟩ := fun rest => by
     rw [o0 (s1 := ⟨[.val (.tup ds), .val (.int n)], fs⟩) (by simp [c5, m6, e8, dOp, dUn, dC, dL, dV, c6, i4, dB, i3, a9, a6, a7, d0, i5, dCB, one, i7, i8, dIf, k9, dOr, j8, l6, m9, m7, i6, k6, k0, j3, j5, l0, j9, l4, l5, dTr, m8, ixT, ixL, o7, o9, o8, p8, p9, D4, v6, G2, hz'])]
     rw [o0 (s1 := ⟨[.val (.tup ds), .val (.int n)], fs⟩) (by simp [c5, m6, e8, dOp, dUn, dC, dL, dV, c6, i4, dB, i3, a9, a6, a7, d0, i5, dCB, one, i7, i8, dIf, k9, dOr, j8, l6, m9, m7, i6, k6, k0, j3, j5, l0, j9, l4, l5, dTr, m8, ixT, ixL, o7, o9, o8, p8, p9, C7, G7, hl, E9, cm, M8, al, hw])]
    unfold a0s
    rw [pre]
    rcases hn with rfl | rfl
    ·obtain ⟨d1, d2, rfl⟩ := a2t hz
     ·simp only [List.all_cons, List.all_nil, Bool.and_true, Bool.and_eq_true] at hw
      obtain ⟨a, rfl⟩ := U1 hw.1
      obtain ⟨c, rfl⟩ := U1 hw.2
      refine D9 ?_
      by_cases hc : 1 ≤ c
      ·simp [c5, m6, e8, dOp, dUn, dC, dL, dV, c6, i4, dB, i3, a9, a6, a7, d0, i5, dCB, one, i7, i8, dIf, k9, dOr, j8, l6, m9, m7, i6, k6, k0, j3, j5, l0, j9, l4, l5, dTr, m8, ixT, ixL, o7, o9, o8, p8, p9, a6y, hc, a9B, D1, F0, whole]; omega
      ·simp [c5, m6, e8, dOp, dUn, dC, dL, dV, c6, i4, dB, i3, a9, a6, a7, d0, i5, dCB, one, i7, i8, dIf, k9, dOr, j8, l6, m9, m7, i6, k6, k0, j3, j5, l0, j9, l4, l5, dTr, m8, ixT, ixL, o7, o9, o8, p8, p9, a6y, hc, F0, whole]
    ·obtain ⟨d1, d2, d3, rfl⟩ := a5C hz
     ·simp only [List.all_cons, List.all_nil, Bool.and_true, Bool.and_eq_true] at hw
      obtain ⟨a, rfl⟩ := U1 hw.1
      obtain ⟨c, rfl⟩ := U1 hw.2.1
      obtain ⟨e, rfl⟩ := U1 hw.2.2
      refine D9 ?_
      by_cases hc : 1 ≤ e
      ·simp [c5, m6, e8, dOp, dUn, dC, dL, dV, c6, i4, dB, i3, a9, a6, a7, d0, i5, dCB, one, i7, i8, dIf, k9, dOr, j8, l6, m9, m7, i6, k6, k0, j3, j5, l0, j9, l4, l5, dTr, m8, ixT, ixL, o7, o9, o8, p8, p9, a7g, hc, b3N, D1, F0, whole]; omega
      ·simp [c5, m6, e8, dOp, dUn, dC, dL, dV, c6, i4, dB, i3, a9, a6, a7, d0, i5, dCB, one, i7, i8, dIf, k9, dOr, j8, l6, m9, m7, i6, k6, k0, j3, j5, l0, j9, l4, l5, dTr, m8, ixT, ixL, o7, o9, o8, p8, p9, a7g, hc, F0, whole]
   ·have hw' : ds.all whole = false := by simpa using hw
    have hz' : (ds.length : Int) = (n : Int) := by omega
    have : F0 n (.tup ds) = false := by simp only [F0, hw', Bool.and_false, Bool.false_and]
    rw [this]
    unfold a0s
    rw [o0 (s1 := ⟨[.val (.tup ds), .val (.int n)], fs⟩) (by simp [c5, m6, e8, dOp, dUn, dC, dL, dV, c6, i4, dB, i3, a9, a6, a7, d0, i5, dCB, one, i7, i8, dIf, k9, dOr, j8, l6, m9, m7, i6, k6, k0, j3, j5, l0, j9, l4, l5, dTr, m8, ixT, ixL, o7, o9, o8, p8, p9, D4, v6, G2, hz'])]
    refine D7 ?_
    rw [hw'] at al
    simp [c5, m6, e8, dOp, dUn, dC, dL, dV, c6, i4, dB, i3, a9, a6, a7, d0, i5, dCB, one, i7, i8, dIf, k9, dOr, j8, l6, m9, m7, i6, k6, k0, j3, j5, l0, j9, l4, l5, dTr, m8, ixT, ixL, o7, o9, o8, p8, p9, C7, G7, hl, E9, cm, M8, al]
  ·have hz' : ¬ (ds.length : Int) = (n : Int) := by omega
   have : F0 n (.tup ds) = false := by simp only [F0, decide_eq_false hz, Bool.false_and]
   rw [this]
   unfold a0s
   refine D7 ?_
   simp [c5, m6, e8, dOp, dUn, dC, dL, dV, c6, i4, dB, i3, a9, a6, a7, d0, i5, dCB, one, i7, i8, dIf, k9, dOr, j8, l6, m9, m7, i6, k6, k0, j3, j5, l0, j9, l4, l5, dTr, m8, ixT, ixL, o7, o9, o8, p8, p9, D4, v6, G2, hz']
theorem a3s (d : D) : F0 3 d = y0 d := by
 cases d with
 | tup ds =>
  match ds with
  | [] => rfl
  | [d1] => cases d1 <;> rfl
  | [d1, d2] => simp [F0, y0]
  | [d1, d2, d3] =>
   cases d1 with
   | int x =>
    cases d2 with
    | int y =>
     cases d3 with
     | int z => simp [F0, y0, whole]
     | _ => simp [F0, y0, whole]
    | _ => simp [F0, y0, whole]
   | _ => simp [F0, y0, whole]
  | d1 :: d2 :: d3 :: d4 :: r => simp [F0, y0]
 | _ => rfl
noncomputable abbrev FIP : DFn := a05 FIL
theorem Th.subs {b k : Nat} {d : D} (h : Th b k d) (hs : bk d ≤ 1000000) : ∀ ds, d = .tup ds → (∀ x ∈ ds, thing x = true) ∧ ds.length ≤ sizeLine := fun ds e => by
 subst e
 refine ⟨fun x hx => ?_, ?_⟩
 ·cases k with
  | zero => unfold Th at h; exact h.elim
  | succ k => unfold Th at h; exact (Ths.mem h hx).thing
 ·have := X6 ds
  rw [D5] at hs
  rw [sizeLine_eq]; omega
theorem b0F {b k : Nat} (d : D) (fs : Option FS) (h : Th b k d) (hs : bk d ≤ 1000000) : FIP [d] fs = some (.bl (y0 d), fs) := by
 refine u6 (s := ⟨[.val d], fs⟩) ?_
 show a2l FIL ⟨[.val d], fs⟩ = _
 have e := a8z d 3 fs (.inr rfl) h.thing (Th.subs h hs)
 rw [a3s] at e
 have e' : FIL [d, .int 3] fs = some (.bl (y0 d), fs) := e
 simp [a2l, c5, m6, e8, dOp, dUn, dC, dL, dV, c6, i4, dB, i3, a9, a6, a7, d0, i5, dCB, one, i7, i8, dIf, k9, dOr, j8, l6, m9, m7, i6, k6, k0, j3, j5, l0, j9, l4, l5, dTr, m8, ixT, ixL, o7, o9, o8, p8, p9, e']
theorem a4C {b : DM} (x : List Sl → List Sl) (fs : Option FS) (hb : ∀ d, thing d = true → ∀ y : Sl, b ⟨[y, .val d], fs⟩ = if whole d then some (.next, ⟨[y, .val d], fs⟩) else some (.ret (.bl false), ⟨[y, .val d], fs⟩)) (y : Sl) : ∀ (ds : List D) (z : Sl), (∀ d ∈ ds, thing d = true) →
  ∃ z', w8 (c6 1) b ds ⟨[y, z], fs⟩ = if ds.all whole then some (.next, ⟨[y, z'], fs⟩) else some (.ret (.bl false), ⟨[y, z'], fs⟩)
 | [], z, _ => ⟨z, by simp [w8]⟩
 | d :: r, z, h => by
  have hd := hb d (h d (List.mem_cons_self ..)) y
  cases hw : whole d
  ·refine ⟨.val d, ?_⟩
   rw [hw] at hd
   simp [w8, c6, hd, hw]
  ·obtain ⟨z', e⟩ := a4C x fs hb y r (.val d) fun q hq => h q (List.mem_cons_of_mem _ hq)
   refine ⟨z', ?_⟩
   rw [hw] at hd
   simp [w8, c6, hd, hw, e]
theorem b1Z (m : DFn) (fs : Option FS) (d : D) (h : thing d = true) (y : Sl) : a4z m ⟨[y, .val d], fs⟩ = if whole d then some (.next, ⟨[y, .val d], fs⟩) else some (.ret (.bl false), ⟨[y, .val d], fs⟩) := by
 cases d with
 | feed => cases h
 | scr _ => cases h
 | non => rfl
 | bl _ => rfl
 | int _ => rfl
 | str _ => rfl
 | tup _ => simp [a4z, c5, m6, e8, dOp, dUn, dC, dL, dV, c6, i4, dB, i3, a9, a6, a7, d0, i5, dCB, one, i7, i8, dIf, k9, dOr, j8, l6, m9, m7, i6, k6, k0, j3, j5, l0, j9, l4, l5, dTr, m8, ixT, ixL, o7, o9, o8, p8, p9, D4, v6, whole]
 | lst _ => rfl
end T

namespace T
open PySem L2 DL
theorem b1B (a b c d e f : Int) : pEq (.tup [.int a, .int b, .int c]) (.tup [.int d, .int e, .int f]) = some (.bl (decide (a = d) && (decide (b = e) && decide (c = f)))) := by
 have h : ∀ a b c : Int, w6 (.tup [.int a, .int b, .int c]) = true := fun a b c => by simp [w6, D.plain, D.plains, D.py, D.pys, SeqAt.shaped, PyData.canLay0, PyData.canLayAll0, PyData.depth, PyData.depthAll]
 simp only [pEq, h, Bool.and_self, if_true, D.py, D.pys, PyData.eqv, PyData.eqvAll, Bool.beq_eq_decide_eq, Bool.and_true]
theorem a8S {x y d : Int} (hd : 0 < d) : (decide (pX (Rat.divInt x d, Rat.divInt y d) = x) && (decide (pY (Rat.divInt x d, Rat.divInt y d) = y) && decide (pL (Rat.divInt x d, Rat.divInt y d) = d))) = decide (Int.gcd (Int.gcd x y : Int) d = 1) := by
 rw [Bool.eq_iff_iff]
 simp only [Bool.and_eq_true, decide_eq_true_iff]
 have hdr : (d : Rat) ≠ 0 := fun h => by have := Rat.intCast_eq_zero_iff.mp h; omega
 have v : ∀ z : Int, (z : Rat) = Rat.divInt z d * (d : Rat) := fun z => by rw [Rat.divInt_eq_div, Rat.div_mul_cancel hdr]
 constructor
 ·rintro ⟨h1, h2, h3⟩
  have := a4y (Rat.divInt x d, Rat.divInt y d)
  rwa [h1, h2, h3] at this
 ·intro h
  obtain ⟨q1, q2, q3⟩ := a53 (a := (Rat.divInt x d, Rat.divInt y d)) hd h (v x) (v y)
  exact ⟨q1.symm, q2.symm, q3.symm⟩
theorem b2J (m m' : DFn) (fs : Option FS) (d : D) (h : thing d = true) (y : Sl) : a2Z m m' ⟨[y, .val d], fs⟩ = if whole d then some (.next, ⟨[y, .val d], fs⟩) else some (.ret (.bl false), ⟨[y, .val d], fs⟩) := b1Z m fs d h y
noncomputable abbrev LDp : DFn := b1X LA LF
theorem b1Y {b k : Nat} (d : D) (fs : Option FS) (h : Th b k d) (hb : b ≤ 1900) (hs : bk d ≤ 1000000) : LDp [d] fs = some (.bl (y0 d), fs) := by
 show mFn 2 (U3 LA LF) [d] fs = _
 have hth := h.thing
 cases d with
 | feed => cases hth
 | scr _ => cases hth
 | non => rfl
 | bl _ => rfl
 | int _ => rfl
 | str _ => rfl
 | lst _ => rfl
 | tup ds =>
  obtain ⟨ht, hl⟩ := Th.subs h hs ds rfl
  by_cases hz : ds.length = 3
  ·have hz' : (ds.length : Int) = 3 := by omega
   obtain ⟨z', e⟩ := a4C (b := a2Z LA LF) id fs (fun d h y => b2J LA LF fs d h y) (.val (.tup ds)) ds .no ht
   have st : ∀ rest : DM, c5 (i4 (dOr (j8 (dTr (dUn (A6 "tuple") (dL 0)))) (dB (dOp pNe (dCB (one j5) (a6 (dL 0) a7)) (dC (.int 3))))) (i3 (dC (.bl false))) i5) rest ⟨[.val (.tup ds), .no], fs⟩ = rest ⟨[.val (.tup ds), .no], fs⟩ := fun rest =>
    o0 (by simp [c5, m6, e8, dOp, dUn, dC, dL, dV, c6, i4, dB, i3, a9, a6, a7, d0, i5, dCB, one, i7, i8, dIf, k9, dOr, j8, l6, m9, m7, i6, k6, k0, j3, j5, l0, j9, l4, l5, dTr, m8, ixT, ixL, o7, o9, o8, p8, p9, D4, v6, G2, hz'])
   cases hw : ds.all whole
   ·rw [hw] at e
    have : y0 (.tup ds) = false := by rw [← a3s]; simp [F0, hw]
    rw [this]
    refine u6 (s := ⟨[.val (.tup ds), z'], fs⟩) ?_
    show U3 LA LF ⟨[.val (.tup ds), .no], fs⟩ = _
    unfold U3
    rw [st]
    refine D7 ?_
    simpa [J8, dV] using e
   ·rw [hw] at e
    refine u6 (s := ⟨[.val (.tup ds), z'], fs⟩) ?_
    show U3 LA LF ⟨[.val (.tup ds), .no], fs⟩ = _
    unfold U3
    rw [st, o0 (s1 := ⟨[.val (.tup ds), z'], fs⟩) (by simpa [J8, dV] using e)]
    clear e st
    obtain ⟨d1, d2, d3, rfl⟩ := a5C hz
    simp only [List.all_cons, List.all_nil, Bool.and_true, Bool.and_eq_true] at hw
    obtain ⟨x, rfl⟩ := U1 hw.1
    obtain ⟨y, rfl⟩ := U1 hw.2.1
    obtain ⟨c, rfl⟩ := U1 hw.2.2
    have bb : Bd b x ∧ Bd b y ∧ Bd b c := by
     cases k with
     | zero => unfold Th at h; exact h.elim
     | succ k => simp only [Th, Ths] at h; exact ⟨h.1, h.2.1, h.2.2.1⟩
    by_cases hc : 0 < c
    ·have e1 := K9 x c fs (by omega) bb.2.2 (by omega)
     have e2 := K9 y c fs (by omega) bb.2.2 (by omega)
     have e3 := lat (Rat.divInt x c) (Rat.divInt y c) fs (Sz.of_divInt (by omega) bb.1 bb.2.2) (Sz.of_divInt (by omega) bb.2.1 bb.2.2) (by omega)
     have v := a8S (x := x) (y := y) hc
     have hc1 : 1 ≤ c := by omega
     have nc : ¬ c < 1 := by omega
     have pe := b1B (pX (Rat.divInt x c, Rat.divInt y c)) (pY (Rat.divInt x c, Rat.divInt y c)) (pL (Rat.divInt x c, Rat.divInt y c)) x y c
     rw [v] at pe
     unfold pt at e3
     generalize Rat.divInt x c = w1 at *
     generalize Rat.divInt y c = w2 at *
     simp [c5, m6, e8, dOp, dUn, dC, dL, dV, c6, i4, dB, i3, a9, a6, a7, d0, i5, dCB, one, i7, i8, dIf, k9, dOr, j8, l6, m9, m7, i6, k6, k0, j3, j5, l0, j9, l4, l5, dTr, m8, ixT, ixL, o7, o9, o8, p8, p9, a0I, a0u, a0E, hc1, nc, e1, e2, e3, pe, y0]
    ·have hc1 : ¬ 1 ≤ c := by omega
     have nc : c < 1 := by omega
     simp [c5, m6, e8, dOp, dUn, dC, dL, dV, c6, i4, dB, i3, a9, a6, a7, d0, i5, dCB, one, i7, i8, dIf, k9, dOr, j8, l6, m9, m7, i6, k6, k0, j3, j5, l0, j9, l4, l5, dTr, m8, ixT, ixL, o7, o9, o8, p8, p9, a0I, a0u, a0E, hc1, nc, y0]
  ·have hz' : ¬ (ds.length : Int) = 3 := by omega
   have : y0 (.tup ds) = false := by rw [← a3s]; simp [F0, hz]
   rw [this]
   simp [mFn, U3, c5, m6, e8, dOp, dUn, dC, dL, dV, c6, i4, dB, i3, a9, a6, a7, d0, i5, dCB, one, i7, i8, dIf, k9, dOr, j8, l6, m9, m7, i6, k6, k0, j3, j5, l0, j9, l4, l5, dTr, m8, ixT, ixL, o7, o9, o8, p8, p9, D4, v6, G2, hz']
theorem b2q {k b : Nat} {a : Pt} (h : Ps k a) (hk : k ≤ b) : Th b 1 (pt a) := by
 unfold pt Th
 exact Ths.of (by
  intro d hd
  simp only [List.mem_cons, List.not_mem_nil, or_false] at hd
  rcases hd with rfl | rfl | rfl
  ·unfold Th; exact h.x.mono hk
  ·unfold Th; exact h.y.mono hk
  ·unfold Th; exact h.l.mono hk)
theorem a96 (a : Pt) : bk (pt a) = 3 := rfl
end T

namespace DL
open PySem L2
noncomputable def nbs {α : Type} (c : Bool) (l : List α) : List (α × α) := l.zip (if c then l.drop 1 ++ l.take 1 else l.drop 1)
noncomputable def pr2 (p : D × D) : D := .tup [p.1, p.2]
noncomputable def B1 : D → Pt
 | .tup [.int x, .int y, .int d] => (Rat.divInt x d, Rat.divInt y d)
 | _ => (0, 0)
theorem b0z {x y d : Int} (hd : 1 ≤ d) (hg : Int.gcd (Int.gcd x y : Int) d = 1) : D.tup [.int x, .int y, .int d] = pt (Rat.divInt x d, Rat.divInt y d) := by
 have hdr : (d : Rat) ≠ 0 := fun h => by have := Rat.intCast_eq_zero_iff.mp h; omega
 have v : ∀ z : Int, (z : Rat) = Rat.divInt z d * (d : Rat) := fun z => by rw [Rat.divInt_eq_div, Rat.div_mul_cancel hdr]
 obtain ⟨q1, q2, q3⟩ := a53 (a := (Rat.divInt x d, Rat.divInt y d)) (by omega) hg (v x) (v y)
 unfold pt
 rw [← q1, ← q2, ← q3]
theorem a48 {d : D} (h : y0 d = true) : d = pt (B1 d) := by
 cases d with
 | tup ds =>
  match ds, h with
  | [.int x, .int y, .int c], h =>
   simp only [y0, Bool.and_eq_true, decide_eq_true_iff] at h
   exact b0z h.1 h.2
 | _ => cases h
theorem a7a {ds : List D} (h : ds.all y0 = true) : ds = (ds.map B1).map pt := by
 rw [List.map_map]
 have : ∀ d ∈ ds, (pt ∘ B1) d = d := fun d hd => (a48 (List.all_eq_true.mp h d hd)).symm
 exact (List.map_id'' (f := pt ∘ B1) |> fun _ => (List.map_congr_left this).trans (List.map_id _)).symm
theorem a1l {α β : Type} (f : α → β) (c : Bool) (l : List α) : nbs c (l.map f) = (nbs c l).map fun p => (f p.1, f p.2) := by
 unfold nbs
 cases c
 ·simp only [Bool.false_eq_true, if_false]
  rw [← List.map_drop, List.zip_map]; rfl
 ·simp only [if_true]
  rw [← List.map_drop, ← List.map_take, ← List.map_append, List.zip_map]; rfl
theorem W4 {α : Type} (c : Bool) (l : List α) : (nbs c l).length ≤ l.length := by
 unfold nbs
 rw [List.length_zip]
 exact Nat.min_le_left ..
theorem V8 {α : Type} {c : Bool} {l : List α} {p : α × α} (h : p ∈ nbs c l) : p.1 ∈ l ∧ p.2 ∈ l := by
 unfold nbs at h
 obtain ⟨h1, h2⟩ := List.of_mem_zip (a := p.1) (b := p.2) h
 refine ⟨h1, ?_⟩
 cases c
 ·simp only [Bool.false_eq_true, if_false] at h2
  exact List.mem_of_mem_drop h2
 ·simp only [if_true] at h2
  rcases List.mem_append.mp h2 with h | h
  ·exact List.mem_of_mem_drop h
  ·exact List.mem_of_mem_take h
theorem a3c : ∀ (xs ys : List D), List.zipWith a0x xs ys = (xs.zip ys).map pr2
 | [], _ => by simp
 | _ :: _, [] => by simp
 | x :: xs, y :: ys => by
  rw [List.zipWith_cons_cons, List.zip_cons_cons, List.map_cons, a3c xs ys]
  rfl
theorem a2Y (a : Pt) : B1 (pt a) = a := by
 show (Rat.divInt (pX a) (pL a), Rat.divInt (pY a) (pL a)) = a
 rw [T.px_div, T.py_div]
noncomputable def goB (a b c : Pt) : Bool := decide (u7 a b c = 0) && (lsB a b == lsB b c)
noncomputable def F8 (c : Bool) (ps : List Pt) : Bool := (nbs c ps).all (fun p => !decide (p.1 = p.2)) && (nbs c (nbs c ps)).all fun q => !goB q.1.1 q.1.2 q.2.2
noncomputable def lo (c : Bool) : Nat := if c then 3 else 2
noncomputable def hi (c : Bool) : Nat := if c then 8 else 9
noncomputable def B6 : D → Bool
 | .tup [.bl c, .tup ds] => (decide (lo c ≤ ds.length) && decide (ds.length ≤ hi c)) && (ds.all y0 && F8 c (ds.map B1))
 | _ => false
theorem a34 (ds : List D) : B3 ds (some 1) none = ds.drop 1 := by
 cases ds with
 | nil => rfl
 | cons d r => exact a4J (d :: r) 1 (by simp)
theorem a6k (ds : List D) : B3 ds none (some 1) = ds.take 1 := by
 cases ds with
 | nil => rfl
 | cons d r => exact a2C (d :: r) 1 (by simp)
theorem a5a {idx : List Nat} {sl : List Sl} {fe : DE} {g : D × D → D} (fs : Option FS) : ∀ (qs : List (D × D)), (∀ q ∈ qs, ∃ s, fe ⟨.val q.1 :: .val q.2 :: E9 idx sl, fs⟩ = some (g q, s) ∧ s.fs = fs) → C4 (mk2 idx sl) B0 fe (qs.map pr2) fs = some (qs.map g, fs)
 | [], _ => rfl
 | q :: r, h => by
  obtain ⟨s, e, e2⟩ := h q (List.mem_cons_self ..)
  have ih := a5a (idx := idx) (sl := sl) fs r fun x hx => h x (List.mem_cons_of_mem _ hx)
  simp [C4, B0, mk2, pr2, e, e2, ih]
theorem a5l {α : Type} (p : α → Bool) : ∀ ds : List α, Q2 (ds.map fun d => .bl (p d)) = some (ds.all p)
 | [] => rfl
 | d :: r => by simp [Q2, a5l p r]
theorem b03 (r : Rat) : (sgn r = 0) ↔ r = 0 := by
 unfold sgn
 constructor
 ·intro h
  split at h
  ·cases h
  ·split at h
   ·cases h
   ·grind
 ·intro h
  subst h
  simp
end DL
namespace T
open PySem L2 DL
theorem a4R (ds : List D) (c : Bool) (fs : Option FS) (hl : ds.length + 1 ≤ sizeLine) : G3 [.tup ds, .bl c] fs = some (.lst ((nbs c ds).map pr2), fs) := by
 refine u6 (s := ⟨[.val (.tup ds), .val (.bl c)], fs⟩) ?_
 show a1e ⟨[.val (.tup ds), .val (.bl c)], fs⟩ = _
 have h1 : ds.length - 1 + min 1 ds.length ≤ sizeLine := by omega
 cases c
 ·simp [a1e, c5, m6, e8, dOp, dUn, dC, dL, dV, c6, i4, dB, i3, a9, a6, a7, d0, i5, dCB, one, i7, i8, dIf, k9, dOr, j8, l6, m9, m7, i6, k6, k0, j3, j5, l0, j9, l4, l5, dTr, m8, ixT, ixL, o7, o9, o8, p8, p9, dSl, dAt, dNo, dCF, X8, W2, a34, nbs, a3c]
 ·simp [a1e, c5, m6, e8, dOp, dUn, dC, dL, dV, c6, i4, dB, i3, a9, a6, a7, d0, i5, dCB, one, i7, i8, dIf, k9, dOr, j8, l6, m9, m7, i6, k6, k0, j3, j5, l0, j9, l4, l5, dTr, m8, ixT, ixL, o7, o9, o8, p8, p9, dSl, dAt, dNo, dCF, X8, W2, a34, a6k, nbs, a3c, h1]
noncomputable abbrev FPc : DFn := X2 G3
theorem a4L (ds : List D) (c : Bool) (fs : Option FS) (hl : ds.length + 1 ≤ sizeLine) : FPc [.tup [.bl c, .tup ds]] fs = some (.tup ((nbs c ds).map pr2), fs) := by
 refine u6 (s := ⟨[.val (.tup [.bl c, .tup ds])], fs⟩) ?_
 show a3t G3 ⟨[.val (.tup [.bl c, .tup ds])], fs⟩ = _
 have e := a4R ds c fs hl
 simp [a3t, c5, m6, e8, dOp, dUn, dC, dL, dV, c6, i4, dB, i3, a9, a6, a7, d0, i5, dCB, one, i7, i8, dIf, k9, dOr, j8, l6, m9, m7, i6, k6, k0, j3, j5, l0, j9, l4, l5, dTr, m8, ixT, ixL, o7, o9, o8, p8, p9, C5, B4, e, L6]
noncomputable abbrev FGs : DFn := a1o FPc
theorem b3J {k : Nat} (ps : List Pt) (c : Bool) (fs : Option FS) (hk : k ≤ 1920) (hp : ∀ p ∈ ps, Ps k p) (hl : ps.length + 1 ≤ sizeLine) : FGs [.tup [.bl c, .tup (ps.map pt)]] fs = some (.bl ((nbs c ps).all fun p => !decide (p.1 = p.2)), fs) := by
 refine u6 (s := ⟨[.val (.tup [.bl c, .tup (ps.map pt)])], fs⟩) ?_
 show a3I FPc ⟨[.val (.tup [.bl c, .tup (ps.map pt)])], fs⟩ = _
 have e := a4L (ps.map pt) c fs (by simpa using hl)
 have cm := a5a (idx := []) (sl := [.val (.tup [.bl c, .tup (ps.map pt)])]) (fe := dOp pNe (dL 0) (dL 1)) (g := fun q => .bl (!decide (B1 q.1 = B1 q.2))) fs (nbs c (ps.map pt)) (by
  intro q hq
  rw [a1l] at hq
  obtain ⟨p, hp', rfl⟩ := List.mem_map.mp hq
  obtain ⟨m1, m2⟩ := V8 hp'
  have ne := a71 (hp _ m1) (hp _ m2) hk hk
  exact ⟨⟨.val (pt p.1) :: .val (pt p.2) :: E9 [] [.val (.tup [.bl c, .tup (ps.map pt)])], fs⟩, by simp [dOp, dL, ne, a2Y], rfl⟩)
 have hl2 : ((nbs c (ps.map pt)).map pr2).length ≤ sizeLine := by
  rw [List.length_map]
  have := W4 c (ps.map pt)
  simp only [List.length_map] at this
  omega
 have al : (nbs c (ps.map pt)).map (fun q => D.bl (!decide (B1 q.1 = B1 q.2))) = (nbs c ps).map fun p => .bl (!decide (p.1 = p.2)) := by
  rw [a1l, List.map_map]
  exact List.map_congr_left fun p _ => by simp [a2Y]
 rw [al] at cm
 generalize List.map pr2 (nbs c (ps.map pt)) = W at *
 simp [a3I, c5, m6, e8, dOp, dUn, dC, dL, dV, c6, i4, dB, i3, a9, a6, a7, d0, i5, dCB, one, i7, i8, dIf, k9, dOr, j8, l6, m9, m7, i6, k6, k0, j3, j5, l0, j9, l4, l5, dTr, m8, ixT, ixL, o7, o9, o8, p8, p9, Z5, G7, e, hl2, cm, M8, a5l]
noncomputable abbrev FGo : DFn := a1v X5 FTn
theorem b1y (x y : Bool) : pEq (.bl x) (.bl y) = some (.bl (x == y)) := by cases x <;> cases y <;> rfl
theorem pgo {k : Nat} (a b c : Pt) (fs : Option FS) (ha : Ps k a) (hb : Ps k b) (hc : Ps k c) (hk : k ≤ 1920) : FGo [pt a, pt b, pt c] fs = some (.bl (goB a b c), fs) := by
 refine u6 (s := ⟨[.val (pt a), .val (pt b), .val (pt c)], fs⟩) ?_
 show a1Q X5 FTn ⟨[.val (pt a), .val (pt b), .val (pt c)], fs⟩ = _
 have e1 := a93 a b c fs ha hb hc (by omega)
 have e2 := a7h a b fs ha hb (by omega)
 have e3 := a7h b c fs hb hc (by omega)
 have z := b03 (u7 a b c)
 by_cases h : u7 a b c = 0
 ·have z0 : sgn (u7 a b c) = 0 := z.mpr h
  rw [z0] at e1
  simp [a1Q, c5, m6, e8, dOp, dUn, dC, dL, dV, c6, i4, dB, i3, a9, a6, a7, d0, i5, dCB, one, i7, i8, dIf, k9, dOr, j8, l6, m9, m7, i6, k6, k0, j3, j5, l0, j9, l4, l5, dTr, m8, ixT, ixL, o7, o9, o8, p8, p9, e1, e2, e3, D1, b1y, goB, h]
 ·have z0 : ¬ sgn (u7 a b c) = 0 := fun e => h (z.mp e)
  simp [a1Q, c5, m6, e8, dOp, dUn, dC, dL, dV, c6, i4, dB, i3, a9, a6, a7, d0, i5, dCB, one, i7, i8, dIf, k9, dOr, j8, l6, m9, m7, i6, k6, k0, j3, j5, l0, j9, l4, l5, dTr, m8, ixT, ixL, o7, o9, o8, p8, p9, e1, D1, goB, h, z0]
end T

namespace T
open PySem L2 DL
theorem T3 {b k : Nat} {ds : List D} (h : Th b k (.tup ds)) : ∀ d ∈ ds, Th b k d := fun d hd => by
 cases k with
 | zero => unfold Th at h; exact h.elim
 | succ k => unfold Th at h; exact Th.mono (Nat.le_refl _) d (by omega) (Ths.mem h hd)
noncomputable def prP (p : Pt × Pt) : D := .tup [pt p.1, pt p.2]
theorem b1h (c : Bool) (ps : List Pt) : (nbs c (ps.map pt)).map pr2 = (nbs c ps).map prP := by
 rw [a1l, List.map_map]; rfl
noncomputable abbrev FTe : DFn := a1z FGo G3 FPc
theorem a4n {k : Nat} (l : D) (fs : Option FS) (hk : k ≤ 1920) : ∀ (qs : List ((Pt × Pt) × (Pt × Pt))) (x y : Sl), (∀ q ∈ qs, Ps k q.1.1 ∧ Ps k q.1.2 ∧ Ps k q.2.2) →
  ∃ x' y', w8 (l0 2 (j9 (c6 1) (j9 (c6 2) l4))) (a0V FGo G3 FPc) (qs.map fun q => .tup [prP q.1, prP q.2]) ⟨[.val l, x, y], fs⟩ =
   some (if qs.all (fun q => !goB q.1.1 q.1.2 q.2.2) then .next else .ret (.bl false), ⟨[.val l, x', y'], fs⟩)
 | [], x, y, _ => ⟨x, y, rfl⟩
 | q :: r, x, y, h => by
  obtain ⟨h1, h2, h3⟩ := h q (.head _)
  have e := pgo q.1.1 q.1.2 q.2.2 fs h1 h2 h3 hk
  obtain ⟨x', y', ih⟩ := a4n l fs hk r (.val (prP q.1)) (.val (prP q.2)) fun p hp => h p (.tail _ hp)
  cases g : goB q.1.1 q.1.2 q.2.2
  ·rw [g] at e
   refine ⟨x', y', ?_⟩
   have b : a0V FGo G3 FPc ⟨[.val l, .val (prP q.1), .val (prP q.2)], fs⟩ = some (.next, ⟨[.val l, .val (prP q.1), .val (prP q.2)], fs⟩) := by
    simp [c5, m6, e8, dOp, dUn, dC, dL, dV, c6, i4, dB, i3, a9, a6, a7, d0, i5, dCB, one, i7, i8, dIf, k9, dOr, j8, l6, m9, m7, i6, k6, k0, j3, j5, l0, j9, l4, l5, dTr, m8, ixT, ixL, o7, o9, o8, p8, p9, prP, C5, B4, e]
   simp only [List.map_cons, w8]
   have t : l0 2 (j9 (c6 1) (j9 (c6 2) l4)) (.tup [prP q.1, prP q.2]) ⟨[.val l, x, y], fs⟩ = some ⟨[.val l, .val (prP q.1), .val (prP q.2)], fs⟩ := by simp [l0, j9, c6, l4]
   simp only [t, Option.bind_some, b, ih, List.all_cons, g, Bool.not_false, Bool.true_and]
  ·rw [g] at e
   refine ⟨.val (prP q.1), .val (prP q.2), ?_⟩
   have b : a0V FGo G3 FPc ⟨[.val l, .val (prP q.1), .val (prP q.2)], fs⟩ = some (.ret (.bl false), ⟨[.val l, .val (prP q.1), .val (prP q.2)], fs⟩) := by
    simp [c5, m6, e8, dOp, dUn, dC, dL, dV, c6, i4, dB, i3, a9, a6, a7, d0, i5, dCB, one, i7, i8, dIf, k9, dOr, j8, l6, m9, m7, i6, k6, k0, j3, j5, l0, j9, l4, l5, dTr, m8, ixT, ixL, o7, o9, o8, p8, p9, prP, C5, B4, e]
   simp only [List.map_cons, w8]
   have t : l0 2 (j9 (c6 1) (j9 (c6 2) l4)) (.tup [prP q.1, prP q.2]) ⟨[.val l, x, y], fs⟩ = some ⟨[.val l, .val (prP q.1), .val (prP q.2)], fs⟩ := by simp [l0, j9, c6, l4]
   simp only [t, Option.bind_some, b, List.all_cons, g, Bool.not_true, Bool.false_and, Bool.false_eq_true, if_false]
theorem pte {k : Nat} (ps : List Pt) (c : Bool) (fs : Option FS) (hk : k ≤ 1920) (hp : ∀ p ∈ ps, Ps k p) (hl : ps.length + 1 ≤ sizeLine) : FTe [.tup [.bl c, .tup (ps.map pt)]] fs = some (.bl ((nbs c (nbs c ps)).all fun q => !goB q.1.1 q.1.2 q.2.2), fs) := by
 have e1 := a4L (ps.map pt) c fs (by simpa using hl)
 rw [b1h] at e1
 have e2 := a4R ((nbs c ps).map prP) c fs (by
  have := W4 c ps
  simp only [List.length_map]; omega)
 have e3 : (nbs c ((nbs c ps).map prP)).map pr2 = (nbs c (nbs c ps)).map fun q => .tup [prP q.1, prP q.2] := by
  rw [a1l, List.map_map]; rfl
 rw [e3] at e2
 obtain ⟨x', y', lp⟩ := a4n (.tup [.bl c, .tup (ps.map pt)]) fs hk (nbs c (nbs c ps)) .no .no (fun q hq => by
  obtain ⟨m1, m2⟩ := V8 hq
  exact ⟨hp _ (V8 m1).1, hp _ (V8 m1).2, hp _ (V8 m2).2⟩)
 have fe : (a9 G3 (a6 (a9 FPc (a6 (dV 0) a7)) (a6 (dOp pIx (dL 0) (dC (.int 0))) a7))) ⟨[.val (.tup [.bl c, .tup (ps.map pt)]), .no, .no], fs⟩ = some (.lst ((nbs c (nbs c ps)).map fun q => .tup [prP q.1, prP q.2]), ⟨[.val (.tup [.bl c, .tup (ps.map pt)]), .no, .no], fs⟩) := by
  simp [c5, m6, e8, dOp, dUn, dC, dL, dV, c6, i4, dB, i3, a9, a6, a7, d0, i5, dCB, one, i7, i8, dIf, k9, dOr, j8, l6, m9, m7, i6, k6, k0, j3, j5, l0, j9, l4, l5, dTr, m8, ixT, ixL, o7, o9, o8, p8, p9, e1, e2, C5]
 refine u6 (s := ⟨[.val (.tup [.bl c, .tup (ps.map pt)]), x', y'], fs⟩) ?_
 show a25 FGo G3 FPc ⟨[.val (.tup [.bl c, .tup (ps.map pt)]), .no, .no], fs⟩ = _
 unfold a25
 cases hh : (nbs c (nbs c ps)).all fun q => !goB q.1.1 q.1.2 q.2.2
 ·rw [hh] at lp
  exact D7 ((a3N fe).trans lp)
 ·rw [hh] at lp
  rw [o0 ((a3N fe).trans lp)]
  rfl
noncomputable abbrev FAp : DFn := a1R FIP
noncomputable def T9 (c : Bool) : D → Bool
 | .tup ds => (decide (lo c ≤ ds.length) && decide (ds.length ≤ hi c)) && ds.all y0
 | _ => false
theorem b0k {b k : Nat} (d : D) (c : Bool) (fs : Option FS) (h : Th b k d) (hs : bk d ≤ 1000000) : FAp [.tup [.bl c, d]] fs = some (.bl (T9 c d), fs) := by
 show mFn 3 (a1B FIP) [.tup [.bl c, d]] fs = _
 have hth := h.thing
 cases d with
 | feed => cases hth
 | scr _ => cases hth
 | non => rfl
 | bl _ => rfl
 | int _ => rfl
 | str _ => rfl
 | lst _ => rfl
 | tup ds =>
  have hn : ds.length ≤ sizeLine := by
   have := X6 ds
   rw [D5] at hs
   rw [sizeLine_eq]; omega
  have cm := a0k (idx := []) (fe := a9 FIP (a6 (dV 0) a7)) (g := fun d => .bl (y0 d)) [] fs ds (by
   intro d hd
   have hb := a0t hd
   rw [D5] at hs
   have e := b0F d fs (T3 h d hd) (by omega)
   exact ⟨⟨[.val d], fs⟩, L5 rfl e, rfl⟩)
  have al := a2x y0 ds
  refine u6 (s := ⟨[.val (.tup [.bl c, .tup ds]), .val (.int (lo c)), .val (.int (hi c))], fs⟩) ?_
  show a1B FIP ⟨[.val (.tup [.bl c, .tup ds]), .no, .no], fs⟩ = _
  unfold a1B
  have t2 : e8 (dIf (dTr (dOp pIx (dL 0) (dC (.int 0)))) (dC (.int 3)) (dC (.int 2))) (c6 1) ⟨[.val (.tup [.bl c, .tup ds]), .no, .no], fs⟩ = some (.next, ⟨[.val (.tup [.bl c, .tup ds]), .val (.int (lo c)), .no], fs⟩) := by cases c <;> rfl
  have t3 : e8 (dIf (dTr (dOp pIx (dL 0) (dC (.int 0)))) (dC (.int 8)) (dC (.int 9))) (c6 2) ⟨[.val (.tup [.bl c, .tup ds]), .val (.int (lo c)), .no], fs⟩ = some (.next, ⟨[.val (.tup [.bl c, .tup ds]), .val (.int (lo c)), .val (.int (hi c))], fs⟩) := by cases c <;> rfl
  rw [o0 (s1 := ⟨[.val (.tup [.bl c, .tup ds]), .no, .no], fs⟩) (a1j (a3n (b := true) rfl)), o0 t2, o0 t3]
  have b1 : dB (dOp (j3 (fun i j => decide (i < j))) (dCB (one j5) (a6 (dOp pIx (dL 0) (dC (.int 1))) a7)) (dL 1)) ⟨[.val (.tup [.bl c, .tup ds]), .val (.int (lo c)), .val (.int (hi c))], fs⟩ = some (decide ((ds.length : Int) < (lo c : Int)), ⟨[.val (.tup [.bl c, .tup ds]), .val (.int (lo c)), .val (.int (hi c))], fs⟩) := P1 (m5 (a1y (p := j5) (m5 rfl rfl rfl) rfl) rfl rfl)
  have b2 : dB (dOp (j3 (fun i j => decide (j < i))) (dCB (one j5) (a6 (dOp pIx (dL 0) (dC (.int 1))) a7)) (dL 2)) ⟨[.val (.tup [.bl c, .tup ds]), .val (.int (lo c)), .val (.int (hi c))], fs⟩ = some (decide ((hi c : Int) < (ds.length : Int)), ⟨[.val (.tup [.bl c, .tup ds]), .val (.int (lo c)), .val (.int (hi c))], fs⟩) := P1 (m5 (a1y (p := j5) (m5 rfl rfl rfl) rfl) rfl rfl)
  by_cases g1 : lo c ≤ ds.length
  ·rw [decide_eq_false (show ¬ (ds.length : Int) < (lo c : Int) by omega)] at b1
   by_cases g2 : ds.length ≤ hi c
   ·rw [decide_eq_false (show ¬ (hi c : Int) < (ds.length : Int) by omega)] at b2
    have ea : T9 c (.tup ds) = ds.all y0 := by
     show ((decide (lo c ≤ ds.length) && decide (ds.length ≤ hi c)) && ds.all y0) = _
     rw [decide_eq_true g1, decide_eq_true g2]
     rfl
    rw [ea, o0 (a1j (a03 b1 b2))]
    refine D9 (a1y (p := M8) (a0A (a7t (idx := []) (ds := ds) (s1 := ⟨[.val (.tup [.bl c, .tup ds]), .val (.int (lo c)), .val (.int (hi c))], fs⟩) rfl hn cm)) ?_)
    unfold M8
    simp only [al, Option.map_some]
   ·rw [decide_eq_true (show (hi c : Int) < (ds.length : Int) by omega)] at b2
    have ea : T9 c (.tup ds) = false := by
     show ((decide (lo c ≤ ds.length) && decide (ds.length ≤ hi c)) && ds.all y0) = _
     rw [decide_eq_false g2, Bool.and_false, Bool.false_and]
    rw [ea]
    exact D7 ((N3 (a03 b1 b2)).trans rfl)
  ·rw [decide_eq_true (show (ds.length : Int) < (lo c : Int) by omega)] at b1
   have ea : T9 c (.tup ds) = false := by
    show ((decide (lo c ≤ ds.length) && decide (ds.length ≤ hi c)) && ds.all y0) = _
    rw [decide_eq_false g1, Bool.false_and, Bool.false_and]
   rw [ea]
   exact D7 ((N3 (a5h b1)).trans rfl)
noncomputable abbrev FLn : DFn := a0Z FTe FGs FAp
theorem a7l {b k : Nat} {ds : List D} (h : ∀ d ∈ ds, Th b k d) (hp : ds.all y0 = true) : ∀ p ∈ ds.map B1, Ps b p := fun p hp' => by
 obtain ⟨d, hd, rfl⟩ := List.mem_map.mp hp'
 have e := a48 (List.all_eq_true.mp hp d hd)
 have hd' := h d hd
 rw [e] at hd'
 cases k with
 | zero => unfold pt Th at hd'; exact hd'.elim
 | succ k =>
  simp only [pt, Th, Ths] at hd'
  exact ⟨hd'.1, hd'.2.1, hd'.2.2.1⟩
set_option maxHeartbeats 4000000 in
theorem a0j {b k : Nat} (d : D) (fs : Option FS) (h : Th b k d) (hb : b ≤ 1900) (hs : bk d ≤ 1000000) : FLn [d] fs = some (.bl (B6 d), fs) := by
 refine u6 (s := ⟨[.val d], fs⟩) ?_
 show V3 FTe FGs FAp ⟨[.val d], fs⟩ = _
 have hth := h.thing
 cases d with
 | feed => cases hth
 | scr _ => cases hth
 | non => rfl
 | bl _ => rfl
 | int _ => rfl
 | str _ => rfl
 | lst _ => rfl
 | tup ds =>
  by_cases hz : ds.length = 2
  ·obtain ⟨x, y, rfl⟩ := a2t hz
   have hx := T3 h x (by simp)
   have hy := T3 h y (by simp)
   have by' : bk y ≤ 1000000 := by have := a0t (show y ∈ [x, y] by simp); rw [D5] at hs; omega
   have tx := hx.thing
   cases x with
   | feed => cases tx
   | scr _ => cases tx
   | non => rfl
   | int _ => rfl
   | str _ => rfl
   | lst _ => rfl
   | tup _ => simp [V3, c5, m6, e8, dOp, dUn, dC, dL, dV, c6, i4, dB, i3, a9, a6, a7, d0, i5, dCB, one, i7, i8, dIf, k9, dOr, j8, l6, m9, m7, i6, k6, k0, j3, j5, l0, j9, l4, l5, dTr, m8, ixT, ixL, o7, o9, o8, p8, p9, C5, D4, v6, G2, B6]
   | bl c =>
    have e1 := b0k y c fs hy by'
    cases ha : T9 c y
    ·rw [ha] at e1
     have : B6 (.tup [.bl c, y]) = false := by
      cases y with
      | tup es =>
       simp only [T9] at ha
       simp only [B6, ← Bool.and_assoc, ha, Bool.false_and]
      | _ => rfl
     rw [this]
     simp [V3, c5, m6, e8, dOp, dUn, dC, dL, dV, c6, i4, dB, i3, a9, a6, a7, d0, i5, dCB, one, i7, i8, dIf, k9, dOr, j8, l6, m9, m7, i6, k6, k0, j3, j5, l0, j9, l4, l5, dTr, m8, ixT, ixL, o7, o9, o8, p8, p9, C5, D4, Z0, v6, G2, e1]
    ·rw [ha] at e1
     cases y with
     | tup es =>
      simp only [T9, Bool.and_eq_true, decide_eq_true_iff] at ha
      obtain ⟨⟨l1, l2⟩, hp⟩ := ha
      have en := a7a hp
      have pp := a7l (T3 hy) hp
      have hl : (es.map B1).length + 1 ≤ sizeLine := by
       rw [List.length_map, sizeLine_eq]
       have : hi c ≤ 9 := by cases c <;> decide
       omega
      have e2 := b3J (es.map B1) c fs (by omega) pp hl
      have e3 := pte (es.map B1) c fs (by omega) pp hl
      rw [← en] at e2 e3
      have v : B6 (.tup [.bl c, .tup es]) = F8 c (es.map B1) := by simp [B6, l1, l2, hp]
      rw [v]
      cases g : (nbs c (es.map B1)).all fun p => !decide (p.1 = p.2)
      ·rw [g] at e2
       simp only [F8, g, Bool.false_and]
       simp [V3, c5, m6, e8, dOp, dUn, dC, dL, dV, c6, i4, dB, i3, a9, a6, a7, d0, i5, dCB, one, i7, i8, dIf, k9, dOr, j8, l6, m9, m7, i6, k6, k0, j3, j5, l0, j9, l4, l5, dTr, m8, ixT, ixL, o7, o9, o8, p8, p9, C5, D4, Z0, v6, G2, e1, e2]
      ·rw [g] at e2
       simp only [F8, g, Bool.true_and]
       simp [V3, c5, m6, e8, dOp, dUn, dC, dL, dV, c6, i4, dB, i3, a9, a6, a7, d0, i5, dCB, one, i7, i8, dIf, k9, dOr, j8, l6, m9, m7, i6, k6, k0, j3, j5, l0, j9, l4, l5, dTr, m8, ixT, ixL, o7, o9, o8, p8, p9, C5, D4, Z0, v6, G2, e1, e2, e3]
     | _ => simp [T9] at ha
  ·have hz' : ¬ (ds.length : Int) = 2 := by omega
   have : B6 (.tup ds) = false := by
    match ds, hz with
    | [], _ => rfl
    | [_], _ => unfold B6; split <;> first | rfl | simp_all
    | [_, _], hz => exact absurd rfl hz
    | _ :: _ :: _ :: _, _ => unfold B6; split <;> first | rfl | simp_all
   rw [this]
   simp [V3, c5, m6, e8, dOp, dUn, dC, dL, dV, c6, i4, dB, i3, a9, a6, a7, d0, i5, dCB, one, i7, i8, dIf, k9, dOr, j8, l6, m9, m7, i6, k6, k0, j3, j5, l0, j9, l4, l5, dTr, m8, ixT, ixL, o7, o9, o8, p8, p9, D4, v6, G2, hz']
end T

namespace DL
open PySem L2
theorem a1C {α : Type} (c : Bool) (l : List α) : (nbs c l).length = l.length - 1 + (if c then min 1 l.length else 0) := by
 unfold nbs
 cases c
 ·show (l.zip (l.drop 1)).length = l.length - 1 + 0
  rw [List.length_zip, List.length_drop, Nat.min_eq_right (Nat.sub_le ..)]
  rfl
 ·show (l.zip (l.drop 1 ++ l.take 1)).length = l.length - 1 + min 1 l.length
  rw [List.length_zip, List.length_append, List.length_drop, List.length_take]
  exact Nat.min_eq_right (by omega)
theorem a3y {α : Type} {c : Bool} {l : List α} {j : Nat} (h : j < (nbs c l).length) : ∃ a b, l[j]? = some a ∧ l[(j + 1) % l.length]? = some b ∧ (nbs c l)[j]? = some (a, b) := by
 have hl := a1C c l
 have hj : j < l.length := Nat.lt_of_lt_of_le h (W4 c l)
 cases hq : (nbs c l)[j]? with
 | none => rw [List.getElem?_eq_none_iff] at hq; omega
 | some p =>
  obtain ⟨h1, h2⟩ := List.getElem?_zip_eq_some.mp (show (l.zip (if c then l.drop 1 ++ l.take 1 else l.drop 1))[j]? = some p from hq)
  refine ⟨p.1, p.2, h1, ?_, rfl⟩
  cases c
  ·simp only [Bool.false_eq_true, if_false] at h2 hl
   rw [List.getElem?_drop] at h2
   rw [Nat.mod_eq_of_lt (by omega), Nat.add_comm]
   exact h2
  ·simp only [if_true] at h2 hl
   by_cases hz : j + 1 < l.length
   ·rw [List.getElem?_append_left (by rw [List.length_drop]; omega), List.getElem?_drop] at h2
    rw [Nat.mod_eq_of_lt hz, Nat.add_comm]
    exact h2
   ·have e : j + 1 = l.length := by omega
    rw [List.getElem?_append_right (by rw [List.length_drop]; omega), List.length_drop, show j - (l.length - 1) = 0 by omega, List.getElem?_take] at h2
    rw [e, Nat.mod_self]
    simpa using h2
noncomputable def u8 (a b : Pt) : Int × Int := (pX b * pL a - pX a * pL b, pY b * pL a - pY a * pL b)
noncomputable def wD (p : Pt × Pt) : D := .tup [.int (u8 p.1 p.2).1, .int (u8 p.1 p.2).2]
noncomputable def goI (u v : Int × Int) : Bool := decide (u.1 * v.2 = u.2 * v.1) && decide (0 < u.1 * v.1 + u.2 * v.2)
theorem a0g (a b : Pt) : ((u8 a b).1 : Rat) = ((pL a : Rat) * (pL b : Rat)) * (b.1 - a.1) ∧ ((u8 a b).2 : Rat) = ((pL a : Rat) * (pL b : Rat)) * (b.2 - a.2) := by
 unfold u8
 constructor
 ·simp only [Rat.intCast_sub, Rat.intCast_mul, P7]; grind
 ·simp only [Rat.intCast_sub, Rat.intCast_mul, P4]; grind
theorem a9g (a b : Pt) : (u8 a b = (0, 0)) ↔ a = b := by
 obtain ⟨e1, e2⟩ := a0g a b
 have hp := Rat.mul_pos (F1 a) (F1 b)
 constructor
 ·intro h
  rw [h] at e1 e2
  simp only [Rat.intCast_zero] at e1 e2
  have h1 : b.1 - a.1 = 0 := by
   rcases Rat.mul_eq_zero.mp e1.symm with z | z
   ·grind
   ·exact z
  have h2 : b.2 - a.2 = 0 := by
   rcases Rat.mul_eq_zero.mp e2.symm with z | z
   ·grind
   ·exact z
  exact Prod.ext (by grind) (by grind)
 ·intro h
  subst h
  unfold u8
  simp
theorem a3B {a b c : Pt} (hab : a ≠ b) (hbc : b ≠ c) : goB a b c = goI (u8 a b) (u8 b c) := by
 obtain ⟨e1, e2⟩ := a0g a b
 obtain ⟨f1, f2⟩ := a0g b c
 have hp := Rat.mul_pos (F1 a) (F1 b)
 have hq := Rat.mul_pos (F1 b) (F1 c)
 generalize (pL a : Rat) * (pL b : Rat) = p at *
 generalize (pL b : Rat) * (pL c : Rat) = q at *
 have hpq := Rat.mul_pos hp hq
 have c1 : ((u8 a b).1 * (u8 b c).2 = (u8 a b).2 * (u8 b c).1) ↔ u7 a b c = 0 := by
  rw [← Rat.intCast_inj, Rat.intCast_mul, Rat.intCast_mul, e1, e2, f1, f2]
  unfold u7
  constructor
  ·intro h
   have : (p * q) * ((b.1 - a.1) * (c.2 - b.2) - (b.2 - a.2) * (c.1 - b.1)) = 0 := by grind
   rcases Rat.mul_eq_zero.mp this with z | z
   ·grind
   ·grind
  ·intro h; grind
 have c2 : (0 < (u8 a b).1 * (u8 b c).1 + (u8 a b).2 * (u8 b c).2) ↔ 0 < (b.1 - a.1) * (c.1 - b.1) + (b.2 - a.2) * (c.2 - b.2) := by
  rw [← Rat.intCast_pos, Rat.intCast_add, Rat.intCast_mul, Rat.intCast_mul, e1, e2, f1, f2]
  have : p * (b.1 - a.1) * (q * (c.1 - b.1)) + p * (b.2 - a.2) * (q * (c.2 - b.2)) = (p * q) * ((b.1 - a.1) * (c.1 - b.1) + (b.2 - a.2) * (c.2 - b.2)) := by grind
  rw [this]
  constructor
  ·intro h
   exact (Rat.mul_pos_iff_of_pos_left hpq).mp h
  ·intro h; exact Rat.mul_pos hpq h
 unfold goB goI
 by_cases hc : u7 a b c = 0
 ·simp only [hc, decide_true, Bool.true_and, c1.mpr hc]
  rw [Bool.eq_iff_iff, beq_iff_eq, decide_eq_true_iff, c2]
  obtain ⟨s, rfl⟩ := a7W hab hc
  have k1 : (Q1 a b s).1 - b.1 = (s - 1) * (b.1 - a.1) := by unfold Q1; grind
  have k2 : (Q1 a b s).2 - b.2 = (s - 1) * (b.2 - a.2) := by unfold Q1; grind
  have l1 := a6R a b
  have l2 := a6R b (Q1 a b s)
  rw [k1, k2] at l2 ⊢
  have nz : ¬ (b.1 - a.1 = 0 ∧ b.2 - a.2 = 0) := fun z => hab (Prod.ext (by grind) (by grind))
  have tz : s - 1 ≠ 0 := fun z => hbc (Prod.ext (by rw [z] at k1; grind) (by rw [z] at k2; grind))
  have dp := a8G hab
  have dd : (b.1 - a.1) * ((s - 1) * (b.1 - a.1)) + (b.2 - a.2) * ((s - 1) * (b.2 - a.2)) = dsq a b * (s - 1) := by unfold dsq; grind
  rw [dd, Rat.mul_pos_iff_of_pos_left dp]
  generalize b.1 - a.1 = x at *
  generalize b.2 - a.2 = y at *
  generalize s - 1 = t at *
  by_cases hx : E7 x y
  ·rw [l1.mpr hx, ← a6r hx t, ← l2]
   exact ⟨fun h => h.symm, fun h => h.symm⟩
  ·have e1 : lsB a b = false := by
    cases h : lsB a b
    ·rfl
    ·exact absurd (l1.mp h) hx
   have hn : E7 (-x) (-y) := (b1a x y nz).resolve_left hx
   have l3 : E7 (t * x) (t * y) ↔ 0 < -t := by
    have := a6r hn (-t)
    rwa [show -t * -x = t * x by grind, show -t * -y = t * y by grind] at this
   rw [e1]
   constructor
   ·intro h
    have : ¬ 0 < -t := fun z => by have := l2.mpr (l3.mpr z); rw [← h] at this; cases this
    grind
   ·intro h
    cases h2 : lsB b (Q1 a b s)
    ·rfl
    ·have := l3.mp (l2.mp h2)
     grind
 ·have : ¬ ((u8 a b).1 * (u8 b c).2 = (u8 a b).2 * (u8 b c).1) := fun z => hc (c1.mp z)
  simp [hc, this]
end DL

namespace DL
open PySem L2
theorem atN {α : Type} {xs : List α} {i : Nat} {x : α} (h : xs[i]? = some x) : atI xs (i : Int) = some x := by
 have hi := (List.getElem?_eq_some_iff.mp h).1
 rw [a0p (by omega) (by omega)]
 simpa using h
theorem U2 {α : Type} {xs : List α} {x : α} (h : xs[xs.length - 1]? = some x) : atI xs (-1) = some x := by
 have hi := (List.getElem?_eq_some_iff.mp h).1
 unfold atI ixN
 rw [if_neg (by omega), if_pos (by omega)]
 show xs[_]? = _
 rw [show ((-1 : Int) + xs.length).toNat = xs.length - 1 by omega]
 exact h
noncomputable def gW (c : Bool) (ws : List (Pt × Pt)) (i : Nat) : Bool :=
 match ws[i]?, ws[if i = 0 then ws.length - 1 else i - 1]? with
 | some v, some u => !decide (v.1 = v.2) && !((decide (0 < i) || c) && goI (u8 u.1 u.2) (u8 v.1 v.2))
 | _, _ => true
theorem a8y (c : Bool) (ps : List Pt) (hn : lo c ≤ ps.length) : (List.range (nbs c ps).length).all (gW c (nbs c ps)) = F8 c ps := by
 have hlo : 2 ≤ ps.length := by
  have : 2 ≤ lo c := by cases c <;> decide
  omega
 have hm := a1C c ps
 have hm2 := a1C c (nbs c ps)
 have m1 : 1 ≤ (nbs c ps).length := by cases c <;> simp at hm <;> omega
 have at1 : ∀ j < (nbs c ps).length, ∃ a b, ps[j]? = some a ∧ ps[(j + 1) % ps.length]? = some b ∧ (nbs c ps)[j]? = some (a, b) := fun j hj => a3y hj
 have at2 : ∀ j < (nbs c (nbs c ps)).length, ∃ a b, (nbs c ps)[j]? = some a ∧ (nbs c ps)[(j + 1) % (nbs c ps).length]? = some b ∧ (nbs c (nbs c ps))[j]? = some (a, b) := fun j hj => a3y hj
 have ahead : ∀ i < (nbs c ps).length, (0 < i ∨ c = true) → ∃ j, j < (nbs c (nbs c ps)).length ∧ j = (if i = 0 then (nbs c ps).length - 1 else i - 1) ∧ (j + 1) % (nbs c ps).length = i := fun i hi h => by
  refine ⟨if i = 0 then (nbs c ps).length - 1 else i - 1, ?_, rfl, ?_⟩
  ·cases c
   ·simp only [Bool.false_eq_true, if_false, or_false] at hm2 h
    rw [if_neg (by omega)]; omega
   ·simp only [if_true] at hm2
    split <;> omega
  ·split
   ·rename_i e
    rw [Nat.sub_add_cancel m1, Nat.mod_self, e]
   ·rw [show i - 1 + 1 = i by omega, Nat.mod_eq_of_lt hi]
 have behind : ∀ j < (nbs c (nbs c ps)).length, (0 < (j + 1) % (nbs c ps).length ∨ c = true) ∧ (j + 1) % (nbs c ps).length < (nbs c ps).length ∧ j = (if (j + 1) % (nbs c ps).length = 0 then (nbs c ps).length - 1 else (j + 1) % (nbs c ps).length - 1) := fun j hj => by
  cases c
  ·simp only [Bool.false_eq_true, if_false] at hm2
   rw [Nat.mod_eq_of_lt (by omega)]
   exact ⟨.inl (by omega), by omega, by rw [if_neg (by omega)]; omega⟩
  ·simp only [if_true] at hm2
   refine ⟨.inr rfl, Nat.mod_lt _ (by omega), ?_⟩
   by_cases hz : j + 1 < (nbs true ps).length
   ·rw [Nat.mod_eq_of_lt hz, if_neg (by omega)]; omega
   ·have e : j + 1 = (nbs true ps).length := by omega
    rw [e, Nat.mod_self, if_pos rfl]; omega
 have meet : ∀ j < (nbs c (nbs c ps)).length, ∀ u v, (nbs c ps)[j]? = some u → (nbs c ps)[(j + 1) % (nbs c ps).length]? = some v → v.1 = u.2 := fun j hj u v hu hv => by
  obtain ⟨b1, b2, b3⟩ := behind j hj
  have hjm : j < (nbs c ps).length := by have := W4 c (nbs c ps); omega
  obtain ⟨a, b, q1, q2, q3⟩ := at1 j hjm
  obtain ⟨a', b', r1, r2, r3⟩ := at1 _ b2
  rw [hu] at q3; cases q3
  rw [hv] at r3; cases r3
  have : (j + 1) % ps.length = (j + 1) % (nbs c ps).length := by
   cases c
   ·simp only [Bool.false_eq_true, if_false] at hm2 hm
    rw [Nat.mod_eq_of_lt (by omega), Nat.mod_eq_of_lt (by omega)]
   ·simp only [if_true] at hm2 hm
    rw [show (nbs true ps).length = ps.length by omega]
  rw [this, r1] at q2
  exact Option.some.inj q2
 rw [Bool.eq_iff_iff]
 unfold F8
 simp only [List.all_eq_true, Bool.and_eq_true, List.mem_range]
 constructor
 ·intro h
  have ne : ∀ p ∈ nbs c ps, p.1 ≠ p.2 := fun p hp e => by
   obtain ⟨i, hi⟩ := List.mem_iff_getElem?.mp hp
   have hl := (List.getElem?_eq_some_iff.mp hi).1
   have := h i hl
   obtain ⟨u, hu⟩ : ∃ u, (nbs c ps)[if i = 0 then (nbs c ps).length - 1 else i - 1]? = some u := ⟨_, List.getElem?_eq_getElem (by split <;> omega)⟩
   simp [gW, hi, hu, e] at this
  refine ⟨fun p hp => by simp [ne p hp], fun q hq => ?_⟩
  obtain ⟨j, hj⟩ := List.mem_iff_getElem?.mp hq
  have hl := (List.getElem?_eq_some_iff.mp hj).1
  obtain ⟨u, v, hu, hv, huv⟩ := at2 j hl
  rw [hj] at huv; cases huv
  obtain ⟨b1, b2, b3⟩ := behind j hl
  have g := h _ b2
  have mt := meet j hl u v hu hv
  have hu' : (nbs c ps)[if (j + 1) % (nbs c ps).length = 0 then (nbs c ps).length - 1 else (j + 1) % (nbs c ps).length - 1]? = some u := by rw [← b3]; exact hu
  have nu := ne u (List.mem_of_getElem? hu)
  have nv := ne v (List.mem_of_getElem? hv)
  have cc : (decide (0 < (j + 1) % (nbs c ps).length) || c) = true := by
   rcases b1 with b1 | b1
   ·simp [b1]
   ·simp [b1]
  simp only [gW, hv, hu', cc, Bool.true_and, Bool.and_eq_true] at g
  show (!goB u.1 u.2 v.2) = true
  rw [a3B nu (by rw [← mt]; exact nv), ← mt, show u8 u.1 v.1 = u8 u.1 u.2 by rw [mt]]
  exact g.2
 ·rintro ⟨h1, h2⟩ i hi
  obtain ⟨a, b, q1, q2, q3⟩ := at1 i hi
  obtain ⟨u, hu⟩ : ∃ u, (nbs c ps)[if i = 0 then (nbs c ps).length - 1 else i - 1]? = some u := ⟨_, List.getElem?_eq_getElem (by split <;> omega)⟩
  have ne : ∀ p ∈ nbs c ps, p.1 ≠ p.2 := fun p hp e => by have := h1 p hp; simp [e] at this
  have nv := ne _ (List.mem_of_getElem? q3)
  have nu := ne _ (List.mem_of_getElem? hu)
  simp only [gW, q3, hu, Bool.and_eq_true]
  refine ⟨by simp [nv], ?_⟩
  by_cases hc : 0 < i ∨ c = true
  ·obtain ⟨j, hj, ej, em⟩ := ahead i hi hc
   obtain ⟨u', v', hu', hv', huv⟩ := at2 j hj
   have mt := meet j hj u' v' hu' hv'
   rw [em, q3] at hv'
   cases hv'
   rw [ej, hu] at hu'
   cases hu'
   have := h2 _ (List.mem_of_getElem? huv)
   have gg := a3B nu (show u.2 ≠ b by rw [← mt]; exact nv)
   rw [← mt] at gg
   simp only at this mt
   rw [← mt, gg] at this
   simp only [Bool.not_eq_true'] at this ⊢
   rw [← mt, this, Bool.and_false]
  ·have e1 : (decide (0 < i) || c) = false := by
    simp only [not_or] at hc
    simp [hc.1, hc.2]
   rw [e1]; rfl
end DL

namespace DL
open PySem L2
theorem a4I {t : D → DS → Option DS} {b : DM} (P : DS → Prop) (g : Nat → Bool) : ∀ (m n : Nat) (s : DS), P s →
  (∀ i s, n ≤ i → i < n + m → P s → ∃ s1 s2, t (.int (i : Int)) s = some s1 ∧ b s1 = some (if g i then .next else .ret (.bl false), s2) ∧ P s2) →
  ∃ s', w8 t b (ups (n : Int) m) s = some (if (List.range' n m).all g then .next else .ret (.bl false), s') ∧ P s'
 | 0, n, s, h, _ => ⟨s, rfl, h⟩
 | m + 1, n, s, h, k => by
  obtain ⟨s1, s2, e1, e2, h2⟩ := k n s (by omega) (by omega) h
  have hu : ups (n : Int) (m + 1) = .int (n : Int) :: ups ((n + 1 : Nat) : Int) m := by
   unfold ups
   rw [List.range_succ_eq_map, List.map_cons, List.map_map]
   refine congr (congrArg _ (by simp)) (List.map_congr_left fun i _ => ?_)
   show D.int _ = D.int _
   congr 1
   simp only [Int.natCast_add, Int.natCast_one, Nat.succ_eq_add_one]
   omega
  rw [hu, w8, e1, List.range'_succ]
  cases g1 : g n
  ·rw [g1] at e2
   refine ⟨s2, ?_, h2⟩
   simp [e2, g1]
  ·rw [g1] at e2
   obtain ⟨s', e3, h3⟩ := a4I P g m (n + 1) s2 h2 fun i s a1 a2 p => k i s (by omega) (by omega) p
   refine ⟨s', ?_, h3⟩
   simp only [Option.bind_some, e2, if_true, e3, List.all_cons, g1, Bool.true_and]
end DL
namespace T
open PySem L2 DL
theorem bdW {k : Nat} {a b : Pt} (ha : Ps k a) (hb : Ps k b) : Bd (2 * k + 1) (u8 a b).1 ∧ Bd (2 * k + 1) (u8 a b).2 := by
 unfold u8
 constructor
 ·exact ((hb.x.mul ha.l).sub (ha.x.mul hb.l)).mono (by omega)
 ·exact ((hb.y.mul ha.l).sub (ha.y.mul hb.l)).mono (by omega)
theorem P9 {i j : Int} (h1 : A5 i = true) (h2 : A5 j = true) : r8 (.int i) (.int j) = some (.int (i * j)) := by simp [r8, h1, h2]
theorem b1z {k : Nat} (ps : List Pt) (c : Bool) (fs : Option FS) (hk : k ≤ 1900) (hp : ∀ p ∈ ps, Ps k p) (hl : ps.length ≤ 9) (h2 : 2 ≤ ps.length) : V7 [.tup [.bl c, .tup (ps.map pt)]] fs = some (.lst ((nbs c ps).map wD), fs) := by
 have hm := a1C c ps
 have hmn : (nbs c ps).length ≤ 9 := by have := W4 c ps; omega
 obtain ⟨s', lp, ⟨x3, x4, x5, rfl⟩⟩ := W0 (t := c6 3) (b := a2e) (fun n s => ∃ x3 x4 x5, s = ⟨[.val (.tup [.bl c, .tup (ps.map pt)]), .own (((nbs c ps).take n).map wD), .val (.tup (ps.map pt)), x3, x4, x5], fs⟩)
  (ups 0 (nbs c ps).length) 0 ⟨[.val (.tup [.bl c, .tup (ps.map pt)]), .own [], .val (.tup (ps.map pt)), .no, .no, .no], fs⟩ ⟨.no, .no, .no, rfl⟩ (by
   rintro i d s hd ⟨x3, x4, x5, rfl⟩
   obtain ⟨rfl, hi⟩ := a0h hd
   rw [Nat.zero_add] at *
   obtain ⟨a, b, q1, q2, q3⟩ := a3y hi
   have ha := hp a (List.mem_of_getElem? q1)
   have hb := hp b (List.mem_of_getElem? q2)
   have r1 : atI (ps.map pt) ((i : Nat) : Int) = some (pt a) := atN (by rw [List.getElem?_map, q1]; rfl)
   have r2 : atI (ps.map pt) (((i + 1) % ps.length : Nat) : Int) = some (pt b) := atN (by rw [List.getElem?_map, q2]; rfl)
   have fm : ((0 : Int) + (i : Int) + 1).fmod (ps.length : Int) = (((i + 1) % ps.length : Nat) : Int) := by
    rw [Int.fmod_eq_emod_of_nonneg _ (by omega)]; simp
   have n0 : ¬ (ps.length : Int) = 0 := by omega
   have tk : (nbs c ps).take (i + 1) = (nbs c ps).take i ++ [(a, b)] := by rw [List.take_succ, q3]; rfl
   have ll : (((nbs c ps).take i).map wD).length < sizeLine := by
    rw [List.length_map, List.length_take, sizeLine_eq]; omega
   have m1 := P9 (hb.x.bits (by omega)) (ha.l.bits (by omega))
   have m2 := P9 (ha.x.bits (by omega)) (hb.l.bits (by omega))
   have m3 := P9 (hb.y.bits (by omega)) (ha.l.bits (by omega))
   have m4 := P9 (ha.y.bits (by omega)) (hb.l.bits (by omega))
   refine ⟨⟨[.val (.tup [.bl c, .tup (ps.map pt)]), .own (((nbs c ps).take i).map wD), .val (.tup (ps.map pt)), .val (.int ((0 : Int) + i)), x4, x5], fs⟩,
    ⟨[.val (.tup [.bl c, .tup (ps.map pt)]), .own (((nbs c ps).take (i + 1)).map wD), .val (.tup (ps.map pt)), .val (.int ((0 : Int) + i)), .val (pt a), .val (pt b)], fs⟩, by simp [c6], .inl ?_, _, _, _, rfl⟩
   rw [tk, List.map_append]
   have z0 : (0 : Int) + (i : Int) = (i : Int) := by omega
   rw [z0] at fm ⊢
   generalize ((nbs c ps).take i).map wD = W at *
   have pm : v8 (.int ((i : Int) + 1)) (.int ((ps.map pt).length : Int)) = some (.int (((i + 1) % ps.length : Nat) : Int)) := by
    rw [List.length_map, ← fm]
    simp only [v8, ne_eq, n0, not_false_eq_true, if_true]
   generalize (((i + 1) % ps.length : Nat) : Int) = E at *
   generalize ps.map pt = R at *
   simp [a2e, c5, m6, e8, dOp, dUn, dC, dL, dV, c6, i4, dB, i3, a9, a6, a7, d0, i5, dCB, one, i7, i8, dIf, k9, dOr, j8, l6, m9, m7, i6, k6, k0, j3, j5, l0, j9, l4, l5, dTr, m8, ixT, ixL, o7, o9, o8, p8, p9, G5, pm, r1, r2, m1, m2, m3, m4, ll, wD, u8, sz2])
 rw [Nat.zero_add, M5, List.take_length] at lp
 refine u6 (s := ⟨[.val (.tup [.bl c, .tup (ps.map pt)]), .val (.lst ((nbs c ps).map wD)), .val (.tup (ps.map pt)), x3, x4, x5], fs⟩) ?_
 show a4c ⟨[.val (.tup [.bl c, .tup (ps.map pt)]), .no, .no, .no, .no, .no], fs⟩ = _
 have rg : (a6 (dOp i6 (dOp k6 (dCB (one j5) (a6 (dL 2) a7)) (dC (.int 1))) (dCB (one U9) (a6 (dOp pIx (dL 0) (dC (.int 0))) a7))) a7) ⟨[.val (.tup [.bl c, .tup (ps.map pt)]), .own [], .val (.tup (ps.map pt)), .no, .no, .no], fs⟩ = some ([.int ((nbs c ps).length : Int)], ⟨[.val (.tup [.bl c, .tup (ps.map pt)]), .own [], .val (.tup (ps.map pt)), .no, .no, .no], fs⟩) := by
  have e : (ps.length : Int) - 1 + (if c then 1 else 0) = ((nbs c ps).length : Int) := by
   rw [hm]
   cases c
   ·simp; omega
   ·simp; omega
  rw [← e]
  cases c
  ·simp [c5, m6, e8, dOp, dUn, dC, dL, dV, c6, i4, dB, i3, a9, a6, a7, d0, i5, dCB, one, i7, i8, dIf, k9, dOr, j8, l6, m9, m7, i6, k6, k0, j3, j5, l0, j9, l4, l5, dTr, m8, ixT, ixL, o7, o9, o8, p8, p9, C5, U9]
  ·simp [c5, m6, e8, dOp, dUn, dC, dL, dV, c6, i4, dB, i3, a9, a6, a7, d0, i5, dCB, one, i7, i8, dIf, k9, dOr, j8, l6, m9, m7, i6, k6, k0, j3, j5, l0, j9, l4, l5, dTr, m8, ixT, ixL, o7, o9, o8, p8, p9, C5, U9]
 have lp' := (Y0 rg (R5 (by omega))).trans lp
 unfold a4c
 rw [o0 (s1 := ⟨[.val (.tup [.bl c, .tup (ps.map pt)]), .own [], .no, .no, .no, .no], fs⟩) (by simp [D0, i8, a7]),
  o0 (s1 := ⟨[.val (.tup [.bl c, .tup (ps.map pt)]), .own [], .val (.tup (ps.map pt)), .no, .no, .no], fs⟩) (by simp [c5, m6, e8, dOp, dUn, dC, dL, dV, c6, i4, dB, i3, a9, a6, a7, d0, i5, dCB, one, i7, i8, dIf, k9, dOr, j8, l6, m9, m7, i6, k6, k0, j3, j5, l0, j9, l4, l5, dTr, m8, ixT, ixL, o7, o9, o8, p8, p9, B4]), o0 lp']
 simp [i3, dV]
noncomputable abbrev LIP : DFn := a2L LA LF
theorem b0V {b k : Nat} (d : D) (fs : Option FS) (h : Th b k d) (hb : b ≤ 1900) (hs : bk d ≤ 1000000) : LIP [d] fs = some (.bl (y0 d), fs) := b1Y d fs h hb hs
noncomputable abbrev LDl : DFn := a2P V7 LIP
theorem a72 {k : Nat} (ps : List Pt) (c : Bool) (fs : Option FS) (hk : k ≤ 1900) (hp : ∀ p ∈ ps, Ps k p) (hl : ps.length ≤ 9) (h2 : 2 ≤ ps.length) (y1 y2 : Sl) :
  ∃ s', w8 (c6 4) (L1 V7 LIP) (ups ((0 : Nat) : Int) (nbs c ps).length) ⟨[.val (.tup [.bl c, .tup (ps.map pt)]), y1, y2, .val (.lst ((nbs c ps).map wD)), .no, .no, .no, .no], fs⟩ = some (if (List.range' 0 (nbs c ps).length).all (gW c (nbs c ps)) then .next else .ret (.bl false), s') ∧
   (∃ x4 x5 x6 x7, s' = ⟨[.val (.tup [.bl c, .tup (ps.map pt)]), y1, y2, .val (.lst ((nbs c ps).map wD)), x4, x5, x6, x7], fs⟩) := by
 have hmn : (nbs c ps).length ≤ 9 := by have := W4 c ps; omega
 refine a4I (fun s => ∃ x4 x5 x6 x7, s = ⟨[.val (.tup [.bl c, .tup (ps.map pt)]), y1, y2, .val (.lst ((nbs c ps).map wD)), x4, x5, x6, x7], fs⟩) (gW c (nbs c ps)) _ 0 _ ⟨_, _, _, _, rfl⟩ ?_
 rintro i s - hi ⟨x4, x5, x6, x7, rfl⟩
 rw [Nat.zero_add] at hi
 obtain ⟨v, hv⟩ : ∃ v, (nbs c ps)[i]? = some v := ⟨_, List.getElem?_eq_getElem hi⟩
 obtain ⟨u, hu⟩ : ∃ u, (nbs c ps)[if i = 0 then (nbs c ps).length - 1 else i - 1]? = some u := ⟨_, List.getElem?_eq_getElem (by split <;> omega)⟩
 have r1 : atI ((nbs c ps).map wD) ((i : Int) - 1) = some (wD u) := by
  by_cases hz : i = 0
  ·subst hz
   rw [if_pos rfl] at hu
   exact U2 (by rw [List.length_map, List.getElem?_map, hu]; rfl)
  ·rw [if_neg hz] at hu
   rw [show (i : Int) - 1 = ((i - 1 : Nat) : Int) by omega]
   exact atN (by rw [List.getElem?_map, hu]; rfl)
 have r2 : atI ((nbs c ps).map wD) (i : Int) = some (wD v) := atN (by rw [List.getElem?_map, hv]; rfl)
 obtain ⟨mu1, mu2⟩ := V8 (List.mem_of_getElem? hu)
 obtain ⟨mv1, mv2⟩ := V8 (List.mem_of_getElem? hv)
 obtain ⟨bu1, bu2⟩ := bdW (hp _ mu1) (hp _ mu2)
 obtain ⟨bv1, bv2⟩ := bdW (hp _ mv1) (hp _ mv2)
 have wz := a9g v.1 v.2
 have gv : gW c (nbs c ps) i = (!decide (v.1 = v.2) && !((decide (0 < i) || c) && goI (u8 u.1 u.2) (u8 v.1 v.2))) := by simp only [gW, hv, hu]
 rw [gv]
 have hwu : wD u = .tup [.int (u8 u.1 u.2).1, .int (u8 u.1 u.2).2] := rfl
 have hwv : wD v = .tup [.int (u8 v.1 v.2).1, .int (u8 v.1 v.2).2] := rfl
 have m1 := P9 (bu1.bits (by omega)) (bv2.bits (by omega))
 have m2 := P9 (bu2.bits (by omega)) (bv1.bits (by omega))
 have m3 := P9 (bu1.bits (by omega)) (bv1.bits (by omega))
 have m4 := P9 (bu2.bits (by omega)) (bv2.bits (by omega))
 rw [hwu] at r1
 rw [hwv] at r2
 refine ⟨⟨[.val (.tup [.bl c, .tup (ps.map pt)]), y1, y2, .val (.lst ((nbs c ps).map wD)), .val (.int (i : Int)), x5, x6, x7], fs⟩, ?_⟩
 generalize (nbs c ps).map wD = W at *
 generalize ps.map pt = R at *
 unfold goI
 have ip : (decide (0 < i)) = decide (0 < (i : Int)) := by rw [Bool.eq_iff_iff]; simp
 rw [ip]
 have wz' : (decide (v.1 = v.2)) = (decide ((u8 v.1 v.2).1 = 0) && decide ((u8 v.1 v.2).2 = 0)) := by
  rw [Bool.eq_iff_iff, Bool.and_eq_true, decide_eq_true_iff, decide_eq_true_iff, decide_eq_true_iff, ← wz, Prod.ext_iff]
 rw [wz']
 clear wz wz' gv hu hv bu1 bu2 bv1 bv2 hwu hwv mu1 mu2 mv1 mv2
 generalize (u8 u.1 u.2).1 = a1 at *
 generalize (u8 u.1 u.2).2 = a2 at *
 generalize (u8 v.1 v.2).1 = b1 at *
 generalize (u8 v.1 v.2).2 = b2 at *
 generalize (i : Int) = I at *
 have pq := a8a b1 b2 0 0
 by_cases hz : b1 = 0 ∧ b2 = 0
 ·have pq' : pEq (.tup [.int b1, .int b2]) (.tup [.int 0, .int 0]) = some (.bl true) := by rw [pq]; simp [hz]
  refine ⟨⟨[.val (.tup [.bl c, .tup R]), y1, y2, .val (.lst W), .val (.int I), .val (.tup [.int a1, .int a2]), .val (.tup [.int b1, .int b2]), x7], fs⟩, by simp [c6], ?_, _, _, _, _, rfl⟩
  simp only [hz.1, hz.2, decide_true, Bool.and_self, Bool.not_true, Bool.false_and, Bool.false_eq_true, if_false] at *
  simp [L1, c5, m6, e8, dOp, dUn, dC, dL, dV, c6, i4, dB, i3, a9, a6, a7, d0, i5, dCB, one, i7, i8, dIf, k9, dOr, j8, l6, m9, m7, i6, k6, k0, j3, j5, l0, j9, l4, l5, dTr, m8, ixT, ixL, o7, o9, o8, p8, p9, r1, r2, pq', sz2]
 ·have pq' : pEq (.tup [.int b1, .int b2]) (.tup [.int 0, .int 0]) = some (.bl false) := by
   rw [pq]
   congr 2
   rw [Bool.eq_false_iff]; simpa using hz
  have nz : (decide (b1 = 0) && decide (b2 = 0)) = false := by rw [Bool.eq_false_iff]; simpa using hz
  rw [nz]
  refine ⟨⟨[.val (.tup [.bl c, .tup R]), y1, y2, .val (.lst W), .val (.int I), .val (.tup [.int a1, .int a2]), .val (.tup [.int b1, .int b2]), .val (.bl (decide (a1 * b2 = a2 * b1) && decide (0 < a1 * b1 + a2 * b2)))], fs⟩, by simp [c6], ?_, _, _, _, _, rfl⟩
  by_cases c1 : a1 * b2 = a2 * b1
  ·by_cases c2 : 0 < a1 * b1 + a2 * b2
   ·by_cases c3 : 0 < I
    ·simp [L1, c5, m6, e8, dOp, dUn, dC, dL, dV, c6, i4, dB, i3, a9, a6, a7, d0, i5, dCB, one, i7, i8, dIf, k9, dOr, j8, l6, m9, m7, i6, k6, k0, j3, j5, l0, j9, l4, l5, dTr, m8, ixT, ixL, o7, o9, o8, p8, p9, r1, r2, pq', sz2, C5, B4, m1, m2, m3, m4, D1, c1, c2, c3]
    ·cases c
     ·simp [L1, c5, m6, e8, dOp, dUn, dC, dL, dV, c6, i4, dB, i3, a9, a6, a7, d0, i5, dCB, one, i7, i8, dIf, k9, dOr, j8, l6, m9, m7, i6, k6, k0, j3, j5, l0, j9, l4, l5, dTr, m8, ixT, ixL, o7, o9, o8, p8, p9, r1, r2, pq', sz2, C5, B4, m1, m2, m3, m4, D1, c1, c2, c3]
     ·simp [L1, c5, m6, e8, dOp, dUn, dC, dL, dV, c6, i4, dB, i3, a9, a6, a7, d0, i5, dCB, one, i7, i8, dIf, k9, dOr, j8, l6, m9, m7, i6, k6, k0, j3, j5, l0, j9, l4, l5, dTr, m8, ixT, ixL, o7, o9, o8, p8, p9, r1, r2, pq', sz2, C5, B4, m1, m2, m3, m4, D1, c1, c2, c3]
   ·by_cases c3 : 0 < I
    ·simp [L1, c5, m6, e8, dOp, dUn, dC, dL, dV, c6, i4, dB, i3, a9, a6, a7, d0, i5, dCB, one, i7, i8, dIf, k9, dOr, j8, l6, m9, m7, i6, k6, k0, j3, j5, l0, j9, l4, l5, dTr, m8, ixT, ixL, o7, o9, o8, p8, p9, r1, r2, pq', sz2, C5, B4, m1, m2, m3, m4, D1, c1, c2, c3]
    ·cases c
     ·simp [L1, c5, m6, e8, dOp, dUn, dC, dL, dV, c6, i4, dB, i3, a9, a6, a7, d0, i5, dCB, one, i7, i8, dIf, k9, dOr, j8, l6, m9, m7, i6, k6, k0, j3, j5, l0, j9, l4, l5, dTr, m8, ixT, ixL, o7, o9, o8, p8, p9, r1, r2, pq', sz2, C5, B4, m1, m2, m3, m4, D1, c1, c2, c3]
     ·simp [L1, c5, m6, e8, dOp, dUn, dC, dL, dV, c6, i4, dB, i3, a9, a6, a7, d0, i5, dCB, one, i7, i8, dIf, k9, dOr, j8, l6, m9, m7, i6, k6, k0, j3, j5, l0, j9, l4, l5, dTr, m8, ixT, ixL, o7, o9, o8, p8, p9, r1, r2, pq', sz2, C5, B4, m1, m2, m3, m4, D1, c1, c2, c3]
  ·by_cases c3 : 0 < I
   ·simp [L1, c5, m6, e8, dOp, dUn, dC, dL, dV, c6, i4, dB, i3, a9, a6, a7, d0, i5, dCB, one, i7, i8, dIf, k9, dOr, j8, l6, m9, m7, i6, k6, k0, j3, j5, l0, j9, l4, l5, dTr, m8, ixT, ixL, o7, o9, o8, p8, p9, r1, r2, pq', sz2, C5, B4, m1, m2, D1, c1, c3]
   ·cases c
    ·simp [L1, c5, m6, e8, dOp, dUn, dC, dL, dV, c6, i4, dB, i3, a9, a6, a7, d0, i5, dCB, one, i7, i8, dIf, k9, dOr, j8, l6, m9, m7, i6, k6, k0, j3, j5, l0, j9, l4, l5, dTr, m8, ixT, ixL, o7, o9, o8, p8, p9, r1, r2, pq', sz2, C5, B4, m1, m2, D1, c1, c3]
    ·simp [L1, c5, m6, e8, dOp, dUn, dC, dL, dV, c6, i4, dB, i3, a9, a6, a7, d0, i5, dCB, one, i7, i8, dIf, k9, dOr, j8, l6, m9, m7, i6, k6, k0, j3, j5, l0, j9, l4, l5, dTr, m8, ixT, ixL, o7, o9, o8, p8, p9, r1, r2, pq', sz2, C5, B4, m1, m2, D1, c1, c3]
end T

namespace T
open PySem L2 DL
theorem b0B (bs : List Bool) (h : bs.length ≤ 9) : pIn (.bl false) (.lst (bs.map .bl)) = some (.bl (!bs.all id)) := by
 have h1 : w6 (.bl false) = true := rfl
 have h2 : w6 (.lst (bs.map .bl)) = true := by
  have := Ok.lst (OkL.all (k := 0) (n := 0) (ds := bs.map D.bl) (fun d hd => by
   obtain ⟨b, _, rfl⟩ := List.mem_map.mp hd
   exact Ok.bl b))
  exact this.eq
 simp only [pIn, a0y, h1, h2, Bool.and_self, if_true, id]
 congr 2
 clear h h2
 induction bs with
 | nil => rfl
 | cons b r ih =>
  simp only [List.map_cons, inD, D.pys, D.py, List.any_cons, List.all_cons] at ih ⊢
  cases b
  ·rfl
  ·simpa [PyData.eqv] using ih
set_option maxHeartbeats 8000000 in
theorem a9h {b k : Nat} (d : D) (fs : Option FS) (h : Th b k d) (hb : b ≤ 1900) (hs : bk d ≤ 1000000) : LDl [d] fs = some (.bl (B6 d), fs) := by
  show mFn 8 (W8 V7 LIP) [d] fs = _
  have hth := h.thing
  cases d with
  | feed => cases hth
  | scr _ => cases hth
  | non => rfl
  | bl _ => rfl
  | int _ => rfl
  | str _ => rfl
  | lst _ => rfl
  | tup ds =>
    by_cases hz : ds.length = 2
    · obtain ⟨x, y, rfl⟩ := a2t hz
      have hx := T3 h x (by simp)
      have hy := T3 h y (by simp)
      have by' : bk y ≤ 1000000 := by have := a0t (show y ∈ [x, y] by simp); rw [D5] at hs; omega
      have tx := hx.thing
      have ty := hy.thing
      cases x with
      | feed => cases tx
      | scr _ => cases tx
      | non => rfl
      | int _ => rfl
      | str _ => rfl
      | lst _ => rfl
      | tup _ => simp [mFn, W8, c5, m6, e8, dOp, dUn, dC, dL, dV, c6, i4, dB, i3, a9, a6, a7, d0, i5, dCB, one, i7, i8, dIf, k9, dOr, j8, l6, m9, m7, i6, k6, k0, j3, j5, l0, j9, l4, l5, dTr, m8, ixT, ixL, o7, o9, o8, p8, p9, C5, D4, v6, G2, B6]
      | bl c =>
        suffices H : ∃ sl', W8 V7 LIP ⟨[.val (.tup [.bl c, y]), .no, .no, .no, .no, .no, .no, .no], fs⟩ = some (.ret (.bl (B6 (.tup [.bl c, y]))), ⟨sl', fs⟩) by
          obtain ⟨sl', e⟩ := H
          exact u6 (s := ⟨sl', fs⟩) e
        unfold W8
        rw [o0 (s1 := ⟨[.val (.tup [.bl c, y]), .no, .no, .no, .no, .no, .no, .no], fs⟩) (by simp [c5, m6, e8, dOp, dUn, dC, dL, dV, c6, i4, dB, i3, a9, a6, a7, d0, i5, dCB, one, i7, i8, dIf, k9, dOr, j8, l6, m9, m7, i6, k6, k0, j3, j5, l0, j9, l4, l5, dTr, m8, ixT, ixL, o7, o9, o8, p8, p9, C5, D4, Z0, v6, G2]),
          o0 (s1 := ⟨[.val (.tup [.bl c, y]), .val (.int (lo c)), .val (.int (hi c)), .no, .no, .no, .no, .no], fs⟩) (by cases c <;> simp [c5, m6, e8, dOp, dUn, dC, dL, dV, c6, i4, dB, i3, a9, a6, a7, d0, i5, dCB, one, i7, i8, dIf, k9, dOr, j8, l6, m9, m7, i6, k6, k0, j3, j5, l0, j9, l4, l5, dTr, m8, ixT, ixL, o7, o9, o8, p8, p9, C5, sz2, lo, hi])]
        cases y with
        | feed => cases ty
        | scr _ => cases ty
        | non => exact ⟨_, D7 (by simp [c5, m6, e8, dOp, dUn, dC, dL, dV, c6, i4, dB, i3, a9, a6, a7, d0, i5, dCB, one, i7, i8, dIf, k9, dOr, j8, l6, m9, m7, i6, k6, k0, j3, j5, l0, j9, l4, l5, dTr, m8, ixT, ixL, o7, o9, o8, p8, p9, B4, a6m, v6]; exact ⟨rfl, rfl⟩)⟩
        | bl _ => exact ⟨_, D7 (by simp [c5, m6, e8, dOp, dUn, dC, dL, dV, c6, i4, dB, i3, a9, a6, a7, d0, i5, dCB, one, i7, i8, dIf, k9, dOr, j8, l6, m9, m7, i6, k6, k0, j3, j5, l0, j9, l4, l5, dTr, m8, ixT, ixL, o7, o9, o8, p8, p9, B4, Z0, v6]; exact ⟨rfl, rfl⟩)⟩
        | int _ => exact ⟨_, D7 (by simp [c5, m6, e8, dOp, dUn, dC, dL, dV, c6, i4, dB, i3, a9, a6, a7, d0, i5, dCB, one, i7, i8, dIf, k9, dOr, j8, l6, m9, m7, i6, k6, k0, j3, j5, l0, j9, l4, l5, dTr, m8, ixT, ixL, o7, o9, o8, p8, p9, B4, a4Y, v6]; exact ⟨rfl, rfl⟩)⟩
        | str _ => exact ⟨_, D7 (by simp [c5, m6, e8, dOp, dUn, dC, dL, dV, c6, i4, dB, i3, a9, a6, a7, d0, i5, dCB, one, i7, i8, dIf, k9, dOr, j8, l6, m9, m7, i6, k6, k0, j3, j5, l0, j9, l4, l5, dTr, m8, ixT, ixL, o7, o9, o8, p8, p9, B4, a4l, v6]; exact ⟨rfl, rfl⟩)⟩
        | lst _ => exact ⟨_, D7 (by simp [c5, m6, e8, dOp, dUn, dC, dL, dV, c6, i4, dB, i3, a9, a6, a7, d0, i5, dCB, one, i7, i8, dIf, k9, dOr, j8, l6, m9, m7, i6, k6, k0, j3, j5, l0, j9, l4, l5, dTr, m8, ixT, ixL, o7, o9, o8, p8, p9, B4, a6c, v6]; exact ⟨rfl, rfl⟩)⟩
        | tup es =>
          have hbk := by'
          rw [D5] at hbk
          have hn : es.length ≤ sizeLine := by
            have := X6 es
            rw [sizeLine_eq]; omega
          by_cases hr : lo c ≤ es.length ∧ es.length ≤ hi c
          · have g1 : (lo c : Int) ≤ (es.length : Int) := by omega
            have g2 : (es.length : Int) ≤ (hi c : Int) := by omega
            have h9 : es.length ≤ 9 := by have : hi c ≤ 9 := by cases c <;> decide
                                          omega
            have h2' : 2 ≤ es.length := by have : 2 ≤ lo c := by cases c <;> decide
                                           omega
            generalize (lo c : Int) = L at *
            generalize (hi c : Int) = U at *
            rw [o0 (s1 := ⟨[.val (.tup [.bl c, .tup es]), .val (.int L), .val (.int U), .no, .no, .no, .no, .no], fs⟩) (by simp [c5, m6, e8, dOp, dUn, dC, dL, dV, c6, i4, dB, i3, a9, a6, a7, d0, i5, dCB, one, i7, i8, dIf, k9, dOr, j8, l6, m9, m7, i6, k6, k0, j3, j5, l0, j9, l4, l5, dTr, m8, ixT, ixL, o7, o9, o8, p8, p9, B4, D4, v6, Y6, g1, g2])]
            have cm := a0k (idx := []) (fe := a9 LIP (a6 (dV 0) a7)) (g := fun d => .bl (y0 d)) [] fs es (by
              intro d hd
              have hb' := a0t hd
              have e := b0V d fs (T3 hy d hd) hb (by omega)
              exact ⟨⟨[.val d], fs⟩, by simp [a9, a6, a7, dV, e], rfl⟩)
            have fi := b0B (es.map y0) (by simpa using h9)
            rw [List.map_map] at fi
            have fi' : pIn (.bl false) (.lst (es.map fun d => .bl (y0 d))) = some (.bl (!es.all y0)) := by
              rw [show (es.map fun d => D.bl (y0 d)) = es.map (D.bl ∘ y0) from rfl, fi]
              simp
            cases hp : es.all y0
            · rw [hp] at fi'
              have : B6 (.tup [.bl c, .tup es]) = false := by simp [B6, hp]
              rw [this]
              exact ⟨_, D7 (by simp [c5, m6, e8, dOp, dUn, dC, dL, dV, c6, i4, dB, i3, a9, a6, a7, d0, i5, dCB, one, i7, i8, dIf, k9, dOr, j8, l6, m9, m7, i6, k6, k0, j3, j5, l0, j9, l4, l5, dTr, m8, ixT, ixL, o7, o9, o8, p8, p9, B4, C7, G7, hn, E9, cm, fi']; rfl)⟩
            · rw [hp] at fi'
              rw [o0 (s1 := ⟨[.val (.tup [.bl c, .tup es]), .val (.int L), .val (.int U), .no, .no, .no, .no, .no], fs⟩) (by simp [c5, m6, e8, dOp, dUn, dC, dL, dV, c6, i4, dB, i3, a9, a6, a7, d0, i5, dCB, one, i7, i8, dIf, k9, dOr, j8, l6, m9, m7, i6, k6, k0, j3, j5, l0, j9, l4, l5, dTr, m8, ixT, ixL, o7, o9, o8, p8, p9, B4, C7, G7, hn, E9, cm, fi'])]
              have v : B6 (.tup [.bl c, .tup es]) = F8 c (es.map B1) := by simp [B6, hr.1, hr.2, hp]
              rw [v]
              have en := a7a hp
              have pp := a7l (T3 hy) hp
              have ew := b1z (es.map B1) c fs hb pp (by simpa using h9) (by simpa using h2')
              obtain ⟨s', lp, x4, x5, x6, x7, rfl⟩ := a72 (es.map B1) c fs hb pp (by simpa using h9) (by simpa using h2') (.val (.int L)) (.val (.int U))
              have lb := a8y c (es.map B1) (by simpa using hr.1)
              rw [List.range_eq_range'] at lb
              rw [lb] at lp
              rw [← en] at ew lp
              have hmn : (nbs c (es.map B1)).length ≤ 9 := by
                have := W4 c (es.map B1)
                simp only [List.length_map] at this; omega
              rw [o0 (s1 := ⟨[.val (.tup [.bl c, .tup es]), .val (.int L), .val (.int U), .val (.lst ((nbs c (es.map B1)).map wD)), .no, .no, .no, .no], fs⟩) (by simp [c5, m6, e8, dOp, dUn, dC, dL, dV, c6, i4, dB, i3, a9, a6, a7, d0, i5, dCB, one, i7, i8, dIf, k9, dOr, j8, l6, m9, m7, i6, k6, k0, j3, j5, l0, j9, l4, l5, dTr, m8, ixT, ixL, o7, o9, o8, p8, p9, ew])]
              have rg : (a6 (dCB (one j5) (a6 (dL 3) a7)) a7) ⟨[.val (.tup [.bl c, .tup es]), .val (.int L), .val (.int U), .val (.lst ((nbs c (es.map B1)).map wD)), .no, .no, .no, .no], fs⟩ = some ([.int ((nbs c (es.map B1)).length : Int)], ⟨[.val (.tup [.bl c, .tup es]), .val (.int L), .val (.int U), .val (.lst ((nbs c (es.map B1)).map wD)), .no, .no, .no, .no], fs⟩) := by
                simp [c5, m6, e8, dOp, dUn, dC, dL, dV, c6, i4, dB, i3, a9, a6, a7, d0, i5, dCB, one, i7, i8, dIf, k9, dOr, j8, l6, m9, m7, i6, k6, k0, j3, j5, l0, j9, l4, l5, dTr, m8, ixT, ixL, o7, o9, o8, p8, p9]
              have lp' := (Y0 rg (R5 (by omega))).trans lp
              cases hq : F8 c (es.map B1)
              · rw [hq] at lp'
                exact ⟨_, D7 lp'⟩
              · rw [hq] at lp'
                exact ⟨_, (o0 lp').trans (by simp [i3, dC]; rfl)⟩
          · have : B6 (.tup [.bl c, .tup es]) = false := by
              simp only [B6]
              rw [show (decide (lo c ≤ es.length) && decide (es.length ≤ hi c)) = false by rw [Bool.eq_false_iff]; simpa using hr]
              rfl
            rw [this]
            by_cases g1 : (lo c : Int) ≤ (es.length : Int)
            · have g2 : ¬ (es.length : Int) ≤ (hi c : Int) := by omega
              generalize (lo c : Int) = L at *
              generalize (hi c : Int) = U at *
              exact ⟨_, D7 (by simp [c5, m6, e8, dOp, dUn, dC, dL, dV, c6, i4, dB, i3, a9, a6, a7, d0, i5, dCB, one, i7, i8, dIf, k9, dOr, j8, l6, m9, m7, i6, k6, k0, j3, j5, l0, j9, l4, l5, dTr, m8, ixT, ixL, o7, o9, o8, p8, p9, B4, D4, v6, Y6, g1, g2]; rfl)⟩
            · generalize (lo c : Int) = L at *
              generalize (hi c : Int) = U at *
              exact ⟨_, D7 (by simp [c5, m6, e8, dOp, dUn, dC, dL, dV, c6, i4, dB, i3, a9, a6, a7, d0, i5, dCB, one, i7, i8, dIf, k9, dOr, j8, l6, m9, m7, i6, k6, k0, j3, j5, l0, j9, l4, l5, dTr, m8, ixT, ixL, o7, o9, o8, p8, p9, B4, D4, v6, Y6, g1]; rfl)⟩
    · have hz' : ¬ (ds.length : Int) = 2 := by omega
      have : B6 (.tup ds) = false := by
        match ds, hz with
        | [], _ => rfl
        | [_], _ => unfold B6; split <;> first | rfl | simp_all
        | [_, _], hz => exact absurd rfl hz
        | _ :: _ :: _ :: _, _ => unfold B6; split <;> first | rfl | simp_all
      rw [this]
      simp [mFn, W8, c5, m6, e8, dOp, dUn, dC, dL, dV, c6, i4, dB, i3, a9, a6, a7, d0, i5, dCB, one, i7, i8, dIf, k9, dOr, j8, l6, m9, m7, i6, k6, k0, j3, j5, l0, j9, l4, l5, dTr, m8, ixT, ixL, o7, o9, o8, p8, p9, D4, v6, G2, hz']
end T

namespace DL
open PySem L2
theorem a9f (i : Int) : D.tup [.int i, .int 1] = fr (i : Rat) := rfl
noncomputable def t6 (w : Rat × Rat × Rat) : D := .lst [fr w.1, fr w.2.1, fr w.2.2]
structure WyS (k : Nat) (w : Rat × Rat × Rat) : Prop where
 x : Sz k w.1
 y : Sz k w.2.1
 l : Sz k w.2.2
 nz : ¬ (w.1 = 0 ∧ w.2.1 = 0)
 ex : w.1 * w.1 + w.2.1 * w.2.1 = w.2.2 * w.2.2
end DL
namespace T
open PySem L2 DL
noncomputable abbrev LWy : DFn := a0i LP LF u9
theorem a7Z {r : Int} (h0 : 0 ≤ r) (h1 : r < 6) : ∃ x y l : Int, atI [D.tup [.int 1, .int 0, .int 1], .tup [.int 1, .int 0, .int 1], .tup [.int 3, .int 4, .int 5], .tup [.int 4, .int 3, .int 5], .tup [.int 5, .int 12, .int 13], .tup [.int 8, .int 15, .int 17]] r = some (.tup [.int x, .int y, .int l]) ∧ 0 < x ∧ x ≤ 15 ∧ 0 ≤ y ∧ y ≤ 15 ∧ 0 < l ∧ l ≤ 17 ∧ x * x + y * y = l * l := by
 have : r = 0 ∨ r = 1 ∨ r = 2 ∨ r = 3 ∨ r = 4 ∨ r = 5 := by omega
 rcases this with rfl | rfl | rfl | rfl | rfl | rfl
 ·exact ⟨1, 0, 1, rfl, by decide⟩
 ·exact ⟨1, 0, 1, rfl, by decide⟩
 ·exact ⟨3, 4, 5, rfl, by decide⟩
 ·exact ⟨4, 3, 5, rfl, by decide⟩
 ·exact ⟨5, 12, 13, rfl, by decide⟩
 ·exact ⟨8, 15, 17, rfl, by decide⟩
theorem a9p {r : Int} (h0 : 0 ≤ r) (h1 : r < 5) : ∃ a : Int, atI [D.int 1, .int 2, .int 3, .int 4, .int 6] r = some (.int a) ∧ 0 < a ∧ a ≤ 6 := by
 have : r = 0 ∨ r = 1 ∨ r = 2 ∨ r = 3 ∨ r = 4 := by omega
 rcases this with rfl | rfl | rfl | rfl | rfl
 ·exact ⟨1, rfl, by decide⟩
 ·exact ⟨2, rfl, by decide⟩
 ·exact ⟨3, rfl, by decide⟩
 ·exact ⟨4, rfl, by decide⟩
 ·exact ⟨6, rfl, by decide⟩
theorem a6Z {i : Int} (h : i.natAbs < 2 ^ 10) : A5 i = true := (show Bd 10 i from h).bits (by omega)
theorem a0z {ds : List D} {i : Int} {d : D} (h : atI ds i = some d) : pIx (.lst ds) (.int i) = some d := (ixL ds i).trans h
theorem b2u {idx : List Nat} {fi : DA} {fc : DT} {fe : DE} {s s1 : DS} {ds R : List D} {fs' : Option FS} (h : fi s = some (ds, s1)) (hz : ds.length ≤ sizeLine) (c : C4 (fun d => some (.val d :: E9 idx s1.sl)) fc fe ds s1.fs = some (R, fs')) : C7 idx fi fc fe s = some (R, { s1 with fs := fs' }) := by
 unfold C7
 rw [h, Option.bind_some, if_pos hz, c]
 rfl
noncomputable abbrev swW (m : DFn) : DM := i4 (dB (dOp pEq (a9 m (a6 (dV 0) (a6 (dC (.int 2)) a7))) (dC (.int 0)))) (l5 1 2 (a6 (dV 2) (a6 (dV 1) a7))) i5
theorem a8P {m1 m2 m3 : DFn} {f f1 f2 f3 f4 f5 f6 f7 : FS} {r1 r3 r4 r5 r6 r7 x y l x' y' a b d : Int} {s v1 v2 v3 : D}
  (e1 : m3 [.feed, .int 6] (some f) = some (.int r1, some f1))
  (q : atI [D.tup [.int 1, .int 0, .int 1], .tup [.int 1, .int 0, .int 1], .tup [.int 3, .int 4, .int 5], .tup [.int 4, .int 3, .int 5], .tup [.int 5, .int 12, .int 13], .tup [.int 8, .int 15, .int 17]] r1 = some (.tup [.int x, .int y, .int l]))
  (sw : swW m3 ⟨[.val .feed, .val (.int x), .val (.int y), .val (.int l), .no], some f1⟩ = some (.next, ⟨[.val .feed, .val (.int x'), .val (.int y'), .val (.int l), .no], some f2⟩))
  (e3 : m3 [.feed, .int 2] (some f2) = some (.int r3, some f3)) (p3 : r8 (.int 2) (.int r3) = some (.int (2 * r3))) (q3 : r8 (.int x') (.int (1 - 2 * r3)) = some (.int (x' * (1 - 2 * r3))))
  (e4 : m3 [.feed, .int 2] (some f3) = some (.int r4, some f4)) (p4 : r8 (.int 2) (.int r4) = some (.int (2 * r4))) (q4 : r8 (.int y') (.int (1 - 2 * r4)) = some (.int (y' * (1 - 2 * r4))))
  (e5 : m3 [.feed, .int 5] (some f4) = some (.int r5, some f5)) (q5 : atI [D.int 1, .int 2, .int 3, .int 4, .int 6] r5 = some (.int a))
  (e6 : m3 [.feed, .int 2] (some f5) = some (.int r6, some f6)) (q6 : atI [D.int 1, .int l] r6 = some (.int b)) (p6 : r8 (.int a) (.int b) = some (.int (a * b))) (p7 : r8 (.int 2) (.int l) = some (.int (2 * l)))
  (e7 : m3 [.feed, .int 3] (some f6) = some (.int r7, some f7)) (q7 : atI [D.int 1, .int l, .int (2 * l)] r7 = some (.int d)) (ef : m2 [.int (a * b), .int d] (some f7) = some (s, some f7))
  (w1 : m1 [.tup [.int (x' * (1 - 2 * r3)), .int 1], s] (some f7) = some (v1, some f7)) (w2 : m1 [.tup [.int (y' * (1 - 2 * r4)), .int 1], s] (some f7) = some (v2, some f7)) (w3 : m1 [.tup [.int l, .int 1], s] (some f7) = some (v3, some f7)) :
  a0i m1 m2 m3 [.feed] (some f) = some (.lst [v1, v2, v3], some f7) := by
 refine u6 (s := ⟨[.val .feed, .val (.int (x' * (1 - 2 * r3))), .val (.int (y' * (1 - 2 * r4))), .val (.int l), .val s], some f7⟩) ?_
 show a30 m1 m2 m3 ⟨[.val .feed, .no, .no, .no, .no], some f⟩ = _
 unfold a30
 rw [o0 (s1 := ⟨[.val .feed, .val (.int x), .val (.int y), .val (.int l), .no], some f1⟩) (A4 (m5 (s1 := ⟨[.val .feed, .no, .no, .no, .no], some f⟩) rfl (B7 rfl e1) (a0z q)) rfl)]
 rw [o0 (s1 := ⟨[.val .feed, .val (.int x'), .val (.int y'), .val (.int l), .no], some f2⟩) sw,
  o0 (s1 := ⟨[.val .feed, .val (.int (x' * (1 - 2 * r3))), .val (.int y'), .val (.int l), .no], some f3⟩) (A4 (m5 rfl (m5 rfl (m5 rfl (B7 rfl e3) p3) rfl) q3) rfl),
  o0 (s1 := ⟨[.val .feed, .val (.int (x' * (1 - 2 * r3))), .val (.int (y' * (1 - 2 * r4))), .val (.int l), .no], some f4⟩) (A4 (m5 rfl (m5 rfl (m5 rfl (B7 rfl e4) p4) rfl) q4) rfl),
  o0 (s1 := ⟨[.val .feed, .val (.int (x' * (1 - 2 * r3))), .val (.int (y' * (1 - 2 * r4))), .val (.int l), .val (.int (a * b))], some f6⟩) (A4 (m5 (m5 rfl (B7 rfl e5) (a0z q5)) (m5 rfl (B7 rfl e6) (a0z q6)) p6) rfl)]
 rw [o0 (s1 := ⟨[.val .feed, .val (.int (x' * (1 - 2 * r3))), .val (.int (y' * (1 - 2 * r4))), .val (.int l), .val s], some f7⟩) (A4 (B7 (u0 rfl (u0 (m5 (x := .lst [.int 1, .int l, .int (2 * l)]) (s1 := ⟨[.val .feed, .val (.int (x' * (1 - 2 * r3))), .val (.int (y' * (1 - 2 * r4))), .val (.int l), .val (.int (a * b))], some f6⟩) (by
  show i7 (i8 _) _ = _
  unfold i7 i8
  rw [u0 rfl (u0 rfl (u0 (m5 rfl rfl p7) rfl))]
  rfl) (B7 rfl e7) (a0z q7)) rfl)) ef) rfl)]
 refine D9 ?_
 have c : C4 (fun d => some (.val d :: [.val s])) B0 (a9 m1 (a6 (d0 (a6 (dV 0) (a6 (dC (.int 1)) a7))) (a6 (dV 1) a7))) [.int (x' * (1 - 2 * r3)), .int (y' * (1 - 2 * r4)), .int l] (some f7) = some ([v1, v2, v3], some f7) := by
  have st : ∀ (k : D) (v : D) (r vs : List D), m1 [.tup [k, .int 1], s] (some f7) = some (v, some f7) → C4 (fun d => some (.val d :: [.val s])) B0 (a9 m1 (a6 (d0 (a6 (dV 0) (a6 (dC (.int 1)) a7))) (a6 (dV 1) a7))) r (some f7) = some (vs, some f7) →
    C4 (fun d => some (.val d :: [.val s])) B0 (a9 m1 (a6 (d0 (a6 (dV 0) (a6 (dC (.int 1)) a7))) (a6 (dV 1) a7))) (k :: r) (some f7) = some (v :: vs, some f7) := fun k v r vs h1 h2 => by
   have h3 : a9 m1 (a6 (d0 (a6 (dV 0) (a6 (dC (.int 1)) a7))) (a6 (dV 1) a7)) ⟨.val k :: [.val s], some f7⟩ = some (v, ⟨.val k :: [.val s], some f7⟩) := B7 (s1 := ⟨.val k :: [.val s], some f7⟩) (xs := [.tup [k, .int 1], s]) rfl h1
   rw [C4, Option.bind_some, show B0 ⟨.val k :: [.val s], some f7⟩ = some (true, ⟨.val k :: [.val s], some f7⟩) from rfl, Option.bind_some, if_pos rfl, h3, Option.bind_some, h2]
   rfl
  exact st _ _ _ _ w1 (st _ _ _ _ w2 (st _ _ _ _ w3 rfl))
 unfold i7
 rw [b2u (idx := [4]) (s1 := ⟨[.val .feed, .val (.int (x' * (1 - 2 * r3))), .val (.int (y' * (1 - 2 * r4))), .val (.int l), .val s], some f7⟩) (ds := [.int (x' * (1 - 2 * r3)), .int (y' * (1 - 2 * r4)), .int l]) rfl (show 3 ≤ sizeLine by decide) c]
 rfl
theorem a7C {x y l sx sy : Int} (hx : 0 ≤ x ∧ x ≤ 15) (hy : 0 ≤ y ∧ y ≤ 15) (hn : ¬ (x = 0 ∧ y = 0)) (pz : x * x + y * y = l * l) (bx : sx = 1 ∨ sx = -1) (bY : sy = 1 ∨ sy = -1) :
  (x * sx).natAbs ≤ 15 ∧ (y * sy).natAbs ≤ 15 ∧ ¬ (x * sx = 0 ∧ y * sy = 0) ∧ (x * sx) * (x * sx) + (y * sy) * (y * sy) = l * l := by
 have sq : sx * sx = 1 ∧ sy * sy = 1 := ⟨by rcases bx with rfl | rfl <;> rfl, by rcases bY with rfl | rfl <;> rfl⟩
 refine ⟨by rcases bx with rfl | rfl <;> omega, by rcases bY with rfl | rfl <;> omega, by rcases bx with rfl | rfl <;> rcases bY with rfl | rfl <;> omega, ?_⟩
 have e : ∀ a b : Int, b * b = 1 → a * b * (a * b) = a * a := fun a b h => by rw [Int.mul_assoc, Int.mul_left_comm b, h, Int.mul_one]
 rw [e x sx sq.1, e y sy sq.2, pz]
theorem a7w {X Y l : Int} {s : Rat} (hX : X.natAbs ≤ 15) (hY : Y.natAbs ≤ 15) (hn : ¬ (X = 0 ∧ Y = 0)) (pz : X * X + Y * Y = l * l) (l1 : 0 < l) (l2 : l ≤ 17) (ss : Sz 7 s) (sp : 0 < s) : WyS 20 ((X : Rat) * s, (Y : Rat) * s, (l : Rat) * s) := by
 have z : ∀ i : Int, i.natAbs < 2 ^ 7 → Sz 20 ((i : Rat) * s) := fun i h => ((Sz.int (k := 7) (M1 h) (by decide)).mul ss).mono (by decide)
 have nz : ∀ i : Int, (i : Rat) * s = 0 → i = 0 := fun i h => by
  rcases Rat.mul_eq_zero.mp h with q | q
  ·exact Rat.intCast_eq_zero_iff.mp q
  ·rw [q] at sp; exact absurd sp Rat.lt_irrefl
 refine ⟨z X (by omega), z Y (by omega), z l (by omega), fun h => hn ⟨nz X h.1, nz Y h.2⟩, ?_⟩
 have pr : (X : Rat) * X + (Y : Rat) * Y = (l : Rat) * l := by rw [← Rat.intCast_mul, ← Rat.intCast_mul, ← Rat.intCast_mul, ← Rat.intCast_add, pz]
 have e : ∀ a b c t : Rat, a * a + b * b = c * c → a * t * (a * t) + b * t * (b * t) = c * t * (c * t) := fun a b c t h => by grind
 exact e _ _ _ _ pr
theorem b2w {l r : Int} (h0 : 0 ≤ r) (h1 : r < 2) (l1 : 0 < l) (l2 : l ≤ 17) : ∃ b : Int, atI [D.int 1, D.int l] r = some (.int b) ∧ 0 < b ∧ b ≤ 17 := by
 have : r = 0 ∨ r = 1 := by omega
 rcases this with rfl | rfl
 ·exact ⟨1, rfl, by decide⟩
 ·exact ⟨l, rfl, l1, l2⟩
theorem b1L {l r : Int} (h0 : 0 ≤ r) (h1 : r < 3) (l1 : 0 < l) (l2 : l ≤ 17) : ∃ d : Int, atI [D.int 1, D.int l, D.int (2 * l)] r = some (.int d) ∧ 0 < d ∧ d ≤ 34 := by
 have : r = 0 ∨ r = 1 ∨ r = 2 := by omega
 rcases this with rfl | rfl | rfl
 ·exact ⟨1, rfl, by decide⟩
 ·exact ⟨l, rfl, l1, by omega⟩
 ·exact ⟨2 * l, rfl, by omega, by omega⟩
theorem a9b {m : DFn} {f1 f2 : FS} {r x y l : Int} (e2 : m [.feed, .int 2] (some f1) = some (.int r, some f2)) (hx : 0 ≤ x ∧ x ≤ 15) (hy : 0 ≤ y ∧ y ≤ 15) (hn : ¬ (x = 0 ∧ y = 0)) (pz : x * x + y * y = l * l) :
  ∃ x' y' : Int, (0 ≤ x' ∧ x' ≤ 15) ∧ (0 ≤ y' ∧ y' ≤ 15) ∧ ¬ (x' = 0 ∧ y' = 0) ∧ x' * x' + y' * y' = l * l ∧ swW m ⟨[.val .feed, .val (.int x), .val (.int y), .val (.int l), .no], some f1⟩ = some (.next, ⟨[.val .feed, .val (.int x'), .val (.int y'), .val (.int l), .no], some f2⟩) := by
 by_cases hr : r = 0
 ·exact ⟨y, x, hy, hx, fun h => hn ⟨h.2, h.1⟩, by rw [Int.add_comm]; exact pz, by simp [c5, m6, e8, dOp, dUn, dC, dL, dV, c6, i4, dB, i3, a9, a6, a7, d0, i5, dCB, one, i7, i8, dIf, k9, dOr, j8, l6, m9, m7, pIx, i6, k6, k0, j3, j5, l0, j9, l4, l5, dTr, m8, e2, D1, hr]⟩
 ·exact ⟨x, y, hx, hy, hn, pz, by simp [c5, m6, e8, dOp, dUn, dC, dL, dV, c6, i4, dB, i3, a9, a6, a7, d0, i5, dCB, one, i7, i8, dIf, k9, dOr, j8, l6, m9, m7, pIx, i6, k6, k0, j3, j5, l0, j9, l4, l5, dTr, m8, e2, D1, hr]⟩
theorem a0R {i j : Int} (hi : i.natAbs < 2 ^ 10) (hj : j.natAbs < 2 ^ 10) : r8 (.int i) (.int j) = some (.int (i * j)) := P9 (a6Z hi) (a6Z hj)
theorem b1E {a b d : Int} (a1 : 0 < a) (a2 : a ≤ 6) (b1 : 0 < b) (b2 : b ≤ 17) (d1 : 0 < d) (d2 : d ≤ 34) (fs : Option FS) : LF [.int (a * b), .int d] fs = some (fr (Rat.divInt (a * b) d), fs) ∧ Sz 7 (Rat.divInt (a * b) d) ∧ 0 < Rat.divInt (a * b) d := by
 have h0 : 0 < a * b := Int.mul_pos a1 b1
 have h1 : a * b ≤ 6 * 17 := Int.mul_le_mul a2 b2 (by omega) (by omega)
 have ab : (a * b).natAbs < 2 ^ 7 := by omega
 refine ⟨K9 (a * b) d fs (by omega) (M1 (k := 7) (by omega)) (by omega), Sz.of_divInt (by omega) ab (by omega), ?_⟩
 rw [Rat.divInt_eq_div, Rat.div_def]
 exact Rat.mul_pos (Rat.intCast_pos.mpr h0) (Rat.inv_pos.mpr (Rat.intCast_pos.mpr d1))
theorem a2h (X : Int) (s : Rat) (fs : Option FS) (h : X.natAbs ≤ 17) (ss : Sz 7 s) : LP [.tup [.int X, .int 1], fr s] fs = some (fr ((X : Rat) * s), fs) :=
 M4 (X : Rat) s fs (Sz.int (k := 7) (M1 (by omega)) (by decide)) ss (by decide)
theorem W3 {n : Nat} (i : Nat) (h : n + 7 < 2 ^ 30) (hi : i ≤ 7 := by decide) : n + i < 2 ^ 30 := Nat.lt_of_le_of_lt (Nat.add_le_add_left hi n) h
theorem a59 {r : Int} (h0 : 0 ≤ r) (h1 : r < 2) : r8 (.int 2) (.int r) = some (.int (2 * r)) := a0R (by decide) (by omega)
theorem a49 {x r : Int} (hx : 0 ≤ x ∧ x ≤ 15) (h0 : 0 ≤ r) (h1 : r < 2) : r8 (.int x) (.int (1 - 2 * r)) = some (.int (x * (1 - 2 * r))) := a0R (by omega) (by omega)
theorem b0w {a b : Int} (a1 : 0 < a) (a2 : a ≤ 6) (b1 : 0 < b) (b2 : b ≤ 17) : r8 (.int a) (.int b) = some (.int (a * b)) := a0R (by omega) (by omega)
theorem a8b {l : Int} (l1 : 0 < l) (l2 : l ≤ 17) : r8 (.int 2) (.int l) = some (.int (2 * l)) := a0R (by decide) (by omega)
theorem b0s {l : Int} (l1 : 0 < l) (l2 : l ≤ 17) : l.natAbs ≤ 17 := by omega
theorem pm1 {r : Int} (h0 : 0 ≤ r) (h1 : r < 2) : 1 - 2 * r = 1 ∨ 1 - 2 * r = -1 := by omega
theorem way {n : Nat} {f : FS} (h : Fd n f) (hn : n < 2 ^ 28) : ∃ w f', LWy [.feed] (some f) = some (t6 w, some f') ∧ WyS 20 w ∧ Fd (n + 7) f' := by
 have hN : n + 7 < 2 ^ 30 := by omega
 obtain ⟨r1, f1, e1, a1, a2, h1⟩ := C1 6 h (by decide) (W3 0 hN) (by decide)
 obtain ⟨x, y, l, q, x1, x2, y1, y2, l1, l2, pyth⟩ := a7Z a1 a2
 obtain ⟨r2, f2, e2, b1, b2, h2⟩ := C1 2 h1 (by decide) (W3 1 hN) (by decide)
 obtain ⟨r3, f3, e3, c1, c2, h3⟩ := C1 2 h2 (by decide) (W3 2 hN) (by decide)
 obtain ⟨r4, f4, e4, d1, d2, h4⟩ := C1 2 h3 (by decide) (W3 3 hN) (by decide)
 obtain ⟨r5, f5, e5, g1, g2, h5⟩ := C1 5 h4 (by decide) (W3 4 hN) (by decide)
 obtain ⟨r6, f6, e6, i1, i2, h6⟩ := C1 2 h5 (by decide) (W3 5 hN) (by decide)
 obtain ⟨r7, f7, e7, j1, j2, h7⟩ := C1 3 h6 (by decide) (W3 6 hN) (by decide)
 obtain ⟨a, qa, qa1, qa2⟩ := a9p g1 g2
 obtain ⟨b, qb, qb1, qb2⟩ := b2w i1 i2 l1 l2
 obtain ⟨d, qd, qd1, qd2⟩ := b1L j1 j2 l1 l2
 obtain ⟨x', y', hx', hy', hnz, pz, sw⟩ := a9b e2 ⟨by omega, x2⟩ ⟨y1, y2⟩ (by omega) pyth
 obtain ⟨ub, vb, nz, pq⟩ := a7C (sx := 1 - 2 * r3) (sy := 1 - 2 * r4) hx' hy' hnz pz (pm1 c1 c2) (pm1 d1 d2)
 obtain ⟨ef, ss, sp⟩ := b1E qa1 qa2 qb1 qb2 qd1 qd2 (some f7)
 exact ⟨_, f7, a8P e1 q sw e3 (a59 c1 c2) (a49 hx' c1 c2) e4 (a59 d1 d2) (a49 hy' d1 d2) e5 qa e6 qb (b0w qa1 qa2 qb1 qb2) (a8b l1 l2) e7 qd ef
  (a2h _ _ _ (Nat.le_trans ub (by decide)) ss) (a2h _ _ _ (Nat.le_trans vb (by decide)) ss) (a2h _ _ _ (b0s l1 l2) ss), a7w ub vb nz pq l1 l2 ss sp, h7⟩
end T

namespace DL
open PySem L2
theorem V5 {a b c : Pt} (h : u7 a b c ≠ 0) : goB a b c = false ∧ a ≠ b ∧ b ≠ c := by
 refine ⟨by simp [goB, h], fun e => h ?_, fun e => h ?_⟩
 ·subst e; unfold u7; grind
 ·subst e; unfold u7; grind
theorem a3m {a b c : Pt} (h1 : u7 a b c ≠ 0) (h2 : u7 b c a ≠ 0) (h3 : u7 c a b ≠ 0) : F8 true [a, b, c] = true := by
 obtain ⟨g1, n1, n2⟩ := V5 h1
 obtain ⟨g2, _, n3⟩ := V5 h2
 obtain ⟨g3, _, _⟩ := V5 h3
 simp [F8, nbs, g1, g2, g3, n1, n2, n3]
theorem a23 {a b c d : Pt} (h1 : u7 a b c ≠ 0) (h2 : u7 b c d ≠ 0) (h3 : u7 c d a ≠ 0) (h4 : u7 d a b ≠ 0) : F8 true [a, b, c, d] = true := by
 obtain ⟨g1, n1, n2⟩ := V5 h1
 obtain ⟨g2, _, n3⟩ := V5 h2
 obtain ⟨g3, _, n4⟩ := V5 h3
 obtain ⟨g4, _, _⟩ := V5 h4
 simp [F8, nbs, g1, g2, g3, g4, n1, n2, n3, n4]
theorem a9X {a b c : Pt} (hab : a ≠ b) (hbc : b ≠ c) : goB a b c = (decide (u7 a b c = 0) && decide (0 < (b.1 - a.1) * (c.1 - b.1) + (b.2 - a.2) * (c.2 - b.2))) := by
 rw [a3B hab hbc]
 obtain ⟨e1, e2⟩ := a0g a b
 obtain ⟨f1, f2⟩ := a0g b c
 have hp := Rat.mul_pos (F1 a) (F1 b)
 have hq := Rat.mul_pos (F1 b) (F1 c)
 generalize (pL a : Rat) * (pL b : Rat) = p at *
 generalize (pL b : Rat) * (pL c : Rat) = q at *
 have hpq := Rat.mul_pos hp hq
 have c1 : ((u8 a b).1 * (u8 b c).2 = (u8 a b).2 * (u8 b c).1) ↔ u7 a b c = 0 := by
  rw [← Rat.intCast_inj, Rat.intCast_mul, Rat.intCast_mul, e1, e2, f1, f2]
  unfold u7
  constructor
  ·intro h
   have : (p * q) * ((b.1 - a.1) * (c.2 - b.2) - (b.2 - a.2) * (c.1 - b.1)) = 0 := by grind
   rcases Rat.mul_eq_zero.mp this with z | z
   ·grind
   ·grind
  ·intro h; grind
 have c2 : (0 < (u8 a b).1 * (u8 b c).1 + (u8 a b).2 * (u8 b c).2) ↔ 0 < (b.1 - a.1) * (c.1 - b.1) + (b.2 - a.2) * (c.2 - b.2) := by
  rw [← Rat.intCast_pos, Rat.intCast_add, Rat.intCast_mul, Rat.intCast_mul, e1, e2, f1, f2]
  have : p * (b.1 - a.1) * (q * (c.1 - b.1)) + p * (b.2 - a.2) * (q * (c.2 - b.2)) = (p * q) * ((b.1 - a.1) * (c.1 - b.1) + (b.2 - a.2) * (c.2 - b.2)) := by grind
  rw [this]
  exact Rat.mul_pos_iff_of_pos_left hpq
 unfold goI
 rw [Bool.eq_iff_iff, Bool.and_eq_true, Bool.and_eq_true, decide_eq_true_iff, decide_eq_true_iff, decide_eq_true_iff, decide_eq_true_iff, c1, c2]
structure Open (ps : List Pt) : Prop where
 ne : ∀ (j : Nat) a b, ps[j]? = some a → ps[j + 1]? = some b → a ≠ b
 go : ∀ (j : Nat) a b c, ps[j]? = some a → ps[j + 1]? = some b → ps[j + 2]? = some c → goB a b c = false
theorem a0n {α : Type} {l : List α} {j : Nat} {p : α × α} (h : (nbs false l)[j]? = some p) : l[j]? = some p.1 ∧ l[j + 1]? = some p.2 := by
 obtain ⟨h1, h2⟩ := List.getElem?_zip_eq_some.mp (show (l.zip (l.drop 1))[j]? = some p from h)
 rw [List.getElem?_drop, Nat.add_comm] at h2
 exact ⟨h1, h2⟩
theorem Open.line {ps : List Pt} (h : Open ps) : F8 false ps = true := by
 unfold F8
 simp only [Bool.and_eq_true, List.all_eq_true]
 constructor
 ·intro p hp
  obtain ⟨j, hj⟩ := List.mem_iff_getElem?.mp hp
  obtain ⟨q1, q2⟩ := a0n hj
  simp [h.ne j _ _ q1 q2]
 ·intro q hq
  obtain ⟨j, hj⟩ := List.mem_iff_getElem?.mp hq
  obtain ⟨q1, q2⟩ := a0n hj
  obtain ⟨r1, r2⟩ := a0n q1
  obtain ⟨t1, t2⟩ := a0n q2
  rw [h.go j _ _ _ r1 r2 t2]
  rfl
theorem Open.one (a : Pt) : Open [a] := ⟨fun j x y h1 h2 => by simp at h2, fun j x y z h1 h2 h3 => by simp at h2⟩
theorem Open.app {ps : List Pt} {z : Pt} (h : Open ps) (hn : ∀ a, ps[ps.length - 1]? = some a → a ≠ z) (hg : ∀ a b, 2 ≤ ps.length → ps[ps.length - 2]? = some a → ps[ps.length - 1]? = some b → goB a b z = false) : Open (ps ++ [z]) := by
 have at' : ∀ {j : Nat} {a : Pt}, (ps ++ [z])[j]? = some a → (j < ps.length ∧ ps[j]? = some a) ∨ (j = ps.length ∧ a = z) := fun {j a} e => by
  by_cases hj : j < ps.length
  ·exact .inl ⟨hj, by rwa [List.getElem?_append_left hj] at e⟩
  ·have hl := (List.getElem?_eq_some_iff.mp e).1
   simp only [List.length_append, List.length_singleton] at hl
   have ej : j = ps.length := by omega
   rw [List.getElem?_append_right (by omega), ej, Nat.sub_self] at e
   exact .inr ⟨ej, by simpa using e.symm⟩
 constructor
 ·intro j a b h1 h2
  rcases at' h2 with ⟨l2, e2⟩ | ⟨l2, rfl⟩
  ·rcases at' h1 with ⟨l1, e1⟩ | ⟨l1, _⟩
   ·exact h.ne j a b e1 e2
   ·omega
  ·rcases at' h1 with ⟨l1, e1⟩ | ⟨l1, _⟩
   ·exact hn a (by rw [show ps.length - 1 = j by omega]; exact e1)
   ·omega
 ·intro j a b c h1 h2 h3
  rcases at' h3 with ⟨l3, e3⟩ | ⟨l3, rfl⟩
  ·rcases at' h1 with ⟨l1, e1⟩ | ⟨l1, _⟩
   ·rcases at' h2 with ⟨l2, e2⟩ | ⟨l2, _⟩
    ·exact h.go j a b c e1 e2 e3
    ·omega
   ·omega
  ·rcases at' h1 with ⟨l1, e1⟩ | ⟨l1, _⟩
   ·rcases at' h2 with ⟨l2, e2⟩ | ⟨l2, _⟩
    ·exact hg a b (by omega) (by rw [show ps.length - 2 = j by omega]; exact e1) (by rw [show ps.length - 1 = j + 1 by omega]; exact e2)
    ·omega
   ·omega
end DL

namespace DL
open PySem L2
noncomputable def goR (u v : Rat × Rat × Rat) : Bool := decide (u.1 * v.2.1 = u.2.1 * v.1) && decide (0 < u.1 * v.1 + u.2.1 * v.2.1)
theorem a7A {a : Pt} {u v : Rat × Rat × Rat} (hu : ¬ (u.1 = 0 ∧ u.2.1 = 0)) (hv : ¬ (v.1 = 0 ∧ v.2.1 = 0)) : goB a (a.1 + u.1, a.2 + u.2.1) (a.1 + u.1 + v.1, a.2 + u.2.1 + v.2.1) = goR u v := by
 have n1 : a ≠ (a.1 + u.1, a.2 + u.2.1) := fun e => hu (by
  have e1 := congrArg Prod.fst e
  have e2 := congrArg Prod.snd e
  simp only at e1 e2
  constructor <;> grind)
 have n2 : ((a.1 + u.1, a.2 + u.2.1) : Pt) ≠ (a.1 + u.1 + v.1, a.2 + u.2.1 + v.2.1) := fun e => hv (by
  have e1 := congrArg Prod.fst e
  have e2 := congrArg Prod.snd e
  simp only at e1 e2
  constructor <;> grind)
 rw [a9X n1 n2]
 unfold goR
 rw [Bool.eq_iff_iff, Bool.and_eq_true, Bool.and_eq_true, decide_eq_true_iff, decide_eq_true_iff, decide_eq_true_iff, decide_eq_true_iff]
 have c1 : u7 a (a.1 + u.1, a.2 + u.2.1) (a.1 + u.1 + v.1, a.2 + u.2.1 + v.2.1) = u.1 * v.2.1 - u.2.1 * v.1 := by unfold u7; grind
 have c2 : (a.1 + u.1 - a.1) * (a.1 + u.1 + v.1 - (a.1 + u.1)) + (a.2 + u.2.1 - a.2) * (a.2 + u.2.1 + v.2.1 - (a.2 + u.2.1)) = u.1 * v.1 + u.2.1 * v.2.1 := by grind
 rw [c1, c2]
 constructor
 ·rintro ⟨h1, h2⟩; exact ⟨by grind, h2⟩
 ·rintro ⟨h1, h2⟩; exact ⟨by grind, h2⟩
end DL
namespace T
open PySem L2 DL
theorem a8K (q : Rat) : 0 < q.num ↔ 0 < q := by
 have hd : (0 : Rat) < ((q.den : Int) : Rat) := Rat.intCast_pos.mpr (by have := q.den_pos; omega)
 rw [← Rat.intCast_pos, a0Q, Rat.mul_comm]
 exact Rat.mul_pos_iff_of_pos_left hd
theorem a7I (a b c : D) : atI [a, b, c] 0 = some a := rfl
theorem a87 (a b c : D) : atI [a, b, c] 1 = some b := rfl
theorem b0I (a b c : D) : atI [a, b, c] 2 = some c := rfl
noncomputable abbrev LGo : DFn := a3Z LS LP
theorem a6d {k : Nat} (u v : Rat × Rat × Rat) (fs : Option FS) (hu : WyS k u) (hv : WyS k v) (hk : k ≤ 200) : LGo [t6 u, t6 v] fs = some (.bl (goR u v), fs) := by
 have p1 := M4 u.1 v.2.1 fs hu.x hv.y (by omega)
 have p2 := M4 u.2.1 v.1 fs hu.y hv.x (by omega)
 have p3 := M4 u.1 v.1 fs hu.x hv.x (by omega)
 have p4 := M4 u.2.1 v.2.1 fs hu.y hv.y (by omega)
 have p5 := a0v (u.1 * v.1) (u.2.1 * v.2.1) fs (hu.x.mul hv.x) (hu.y.mul hv.y) (by omega)
 have pe := a4k (hu.x.mul hv.y) (hu.y.mul hv.x) (by omega) (by omega)
 have np : (0 < (u.1 * v.1 + u.2.1 * v.2.1).num) ↔ 0 < u.1 * v.1 + u.2.1 * v.2.1 := a8K _
 refine u6 (s := ⟨[.val (t6 u), .val (t6 v), .val (fr (u.1 * v.2.1)), .val (fr (u.2.1 * v.1)), .val (fr (u.1 * v.1 + u.2.1 * v.2.1))], fs⟩) ?_
 show a17 LS LP ⟨[.val (t6 u), .val (t6 v), .no, .no, .no], fs⟩ = _
 unfold t6 at *
 unfold goR
 generalize u.1 * v.2.1 = A at *
 generalize u.2.1 * v.1 = B at *
 generalize u.1 * v.1 + u.2.1 * v.2.1 = C at *
 unfold a17
 rw [o0 (s1 := ⟨[.val (.lst [fr u.1, fr u.2.1, fr u.2.2]), .val (.lst [fr v.1, fr v.2.1, fr v.2.2]), .val (fr A), .no, .no], fs⟩) (A4 (L5 (u0 (m5 rfl rfl rfl) (u0 (m5 rfl rfl rfl) rfl)) p1) rfl),
  o0 (s1 := ⟨[.val (.lst [fr u.1, fr u.2.1, fr u.2.2]), .val (.lst [fr v.1, fr v.2.1, fr v.2.2]), .val (fr A), .val (fr B), .no], fs⟩) (A4 (L5 (u0 (m5 rfl rfl rfl) (u0 (m5 rfl rfl rfl) rfl)) p2) rfl),
  o0 (s1 := ⟨[.val (.lst [fr u.1, fr u.2.1, fr u.2.2]), .val (.lst [fr v.1, fr v.2.1, fr v.2.2]), .val (fr A), .val (fr B), .val (fr C)], fs⟩) (A4 (L5 (u0 (L5 (u0 (m5 rfl rfl rfl) (u0 (m5 rfl rfl rfl) rfl)) p3) (u0 (L5 (u0 (m5 rfl rfl rfl) (u0 (m5 rfl rfl rfl) rfl)) p4) rfl)) p5) rfl)]
 refine D9 ?_
 by_cases h : A = B
 ·subst h
  simp only [decide_true] at pe
  have dd : decide (0 < C.num) = decide (0 < C) := by rw [Bool.eq_iff_iff, decide_eq_true_iff, decide_eq_true_iff]; exact np
  simp [c5, m6, e8, dOp, dUn, dC, dL, dV, c6, i4, dB, i3, a9, a6, a7, d0, i5, dCB, one, i7, i8, dIf, k9, dOr, j8, l6, m9, m7, i6, k6, k0, j3, j5, l0, j9, l4, l5, dTr, m8, ixT, ixL, o7, o9, o8, p8, p9, pe, dd]
 ·rw [decide_eq_false h] at pe
  simp [c5, m6, e8, dOp, dUn, dC, dL, dV, c6, i4, dB, i3, a9, a6, a7, d0, i5, dCB, one, i7, i8, dIf, k9, dOr, j8, l6, m9, m7, i6, k6, k0, j3, j5, l0, j9, l4, l5, dTr, m8, ixT, ixL, o7, o9, o8, p8, p9, pe, h]
theorem a83 (ds : List D) : PyData.eqv (D.py (.lst ds)) (D.py (.lst [])) = decide (ds = []) := by
 cases ds with
 | nil => rfl
 | cons d r => simp [D.py, D.pys, PyData.eqv, PyData.eqvAll]
theorem a9S {k : Nat} {ws : List (Rat × Rat × Rat)} (h : ∀ w ∈ ws, WyS k w) (hk : k ≤ 1920) : w6 (.lst (ws.map t6)) = true := by
 have := Ok.lst (OkL.all (k := 2) (n := 9) (ds := ws.map t6) (fun d hd => by
  obtain ⟨w, hw, rfl⟩ := List.mem_map.mp hd
  have := h w hw
  exact (Ok.lst (OkL.cons (Ok.fr this.x hk) (OkL.cons (Ok.fr this.y hk) (OkL.cons (Ok.fr this.l hk) OkL.nil)))).mono (by decide) (by decide)))
 exact this.eq
theorem a2o {k : Nat} {ws : List (Rat × Rat × Rat)} (h : ∀ w ∈ ws, WyS k w) (hk : k ≤ 1920) : pNe (.lst (ws.map t6)) (.lst []) = some (.bl (!decide (ws = []))) ∧ pEq (.lst (ws.map t6)) (.lst []) = some (.bl (decide (ws = []))) := by
 have h1 := a9S h hk
 have h2 : w6 (.lst []) = true := rfl
 have e := a83 (ws.map t6)
 have e2 : (decide (ws.map t6 = [])) = decide (ws = []) := by rw [Bool.eq_iff_iff]; simp
 constructor
 ·simp only [pNe, h1, h2, Bool.and_self, if_true, e, e2]
 ·simp only [pEq, h1, h2, Bool.and_self, if_true, e, e2]
end T

namespace T
open PySem L2 DL
noncomputable abbrev LOp : DFn := a28 LGo LG u9 R4 LWy LPl
noncomputable abbrev lOp : DM := a2b LGo LG u9 R4 LWy LPl
structure OpI (most : Int) (n i : Nat) (ps : List Pt) (ws : List (Rat × Rat × Rat)) (f : FS) : Prop where
 op : Open ps
 len : ps.length = ws.length + 1
 any : 1 ≤ i → 1 ≤ ws.length
 few : ps.length ≤ i + 1
 sz : ∀ p ∈ ps, PtS (5 + 21 * i) p
 wy : ∀ w ∈ ws, WyS 20 w
 rel : ∀ (j : Nat) w a b, ws[j]? = some w → ps[j]? = some a → ps[j + 1]? = some b → b = (a.1 + w.1, a.2 + w.2.1)
 fd : Fd (n + 8 * i) f
noncomputable def opS (most : Int) (ps : List Pt) (ws : List (Rat × Rat × Rat)) (x4 x5 : Sl) (f : FS) : DS := ⟨[.val .feed, .val (.int most), .own (ps.map pt), .own (ws.map t6), x4, x5], some f⟩
noncomputable def w5 (w : Rat × Rat × Rat) (x : Sl) : Prop := x = .val (t6 w) ∨ x = .own [fr w.1, fr w.2.1, fr w.2.2]
theorem a7z {most : Int} {n i : Nat} {ps : List Pt} {ws : List (Rat × Rat × Rat)} {f : FS} (w : Rat × Rat × Rat) (hw : WyS 20 w) (x4 : Sl) (hws : ∀ w ∈ ws, WyS 20 w) (h : Fd n f) (hn : n < 2 ^ 28) :
  ∃ w' x' f', i4 (k9 (dB (dOp pNe (dL 3) (i7 (i8 a7)))) (dB (dOp pEq (a9 u9 (a6 (dV 0) (a6 (dC (.int 8)) a7))) (dC (.int 0))))) (D0 5 (i8 (a6 (a9 R4 (a6 (dOp pIx (dOp pIx (dL 3) (dUn k0 (dC (.int 1)))) (dC (.int 0))) a7)) (a6 (a9 R4 (a6 (dOp pIx (dOp pIx (dL 3) (dUn k0 (dC (.int 1)))) (dC (.int 1))) a7)) (a6 (dOp pIx (dOp pIx (dL 3) (dUn k0 (dC (.int 1)))) (dC (.int 2))) a7))))) i5
   (opS most ps ws x4 (.val (t6 w)) f) = some (.next, opS most ps ws x4 x' f') ∧ w5 w' x' ∧ WyS 20 w' ∧ Fd (n + 1) f' := by
 obtain ⟨en, _⟩ := a2o hws (by omega)
 by_cases hz : ws = []
 ·refine ⟨w, .val (t6 w), f, ?_, .inl rfl, hw, h.mono (by omega)⟩
  rw [decide_eq_true hz] at en
  exact a1j (b1T (P1 (m5 (s1 := opS most ps ws x4 (.val (t6 w)) f) rfl (a0A rfl) en)))
 ·obtain ⟨r, f', e, a1, a2, h'⟩ := C1 8 h
  rw [decide_eq_false hz] at en
  by_cases hr : r = 0
  ·have hl : ws.length - 1 < ws.length := by have := List.length_pos_iff.mpr hz; omega
   obtain ⟨u, hu⟩ : ∃ u, ws[ws.length - 1]? = some u := ⟨_, List.getElem?_eq_getElem hl⟩
   have su := hws u (List.mem_of_getElem? hu)
   have la : atI (ws.map t6) (-1) = some (t6 u) := U2 (by rw [List.length_map, List.getElem?_map, hu]; rfl)
   have n1 := a5N u.1 (some f')
   have n2 := a5N u.2.1 (some f')
   refine ⟨(-u.1, -u.2.1, u.2.2), .own [fr (-u.1), fr (-u.2.1), fr u.2.2], f', ?_, .inr rfl, ⟨su.x.neg, su.y.neg, su.l, fun z => su.nz (by constructor <;> grind), by have := su.ex; grind⟩, h'⟩
   unfold opS
   generalize ws.map t6 = W at *
   generalize ps.map pt = R at *
   have s3 : (3 : Nat) ≤ sizeLine := by decide
   unfold t6 at *
   simp [c5, m6, e8, dOp, dUn, dC, dL, dV, c6, i4, dB, i3, a9, a6, a7, d0, i5, dCB, one, i7, i8, dIf, k9, dOr, j8, l6, m9, m7, i6, k6, k0, j3, j5, l0, j9, l4, l5, dTr, m8, ixT, ixL, o7, o9, o8, p8, p9, en, e, D1, hr, la, a7I, a87, b0I, n1, n2, D0, s3]
  ·refine ⟨w, .val (t6 w), f', ?_, .inl rfl, hw, h'⟩
   exact a1j (b2C (s1 := opS most ps ws x4 (.val (t6 w)) f) (P1 (m5 rfl (a0A rfl) en)) (P1 (m5 (s1 := opS most ps ws x4 (.val (t6 w)) f') (by unfold opS; exact K1 rfl e) rfl ((D1 r 0).trans (by rw [decide_eq_false hr])))))
end T

namespace T
open PySem L2 DL
noncomputable abbrev opT : DM := i4 (dOr (dB (dOp pEq (dL 3) (i7 (i8 a7)))) (j8 (dTr (a9 LGo (a6 (dOp pIx (dL 3) (dUn k0 (dC (.int 1)))) (a6 (dV 5) a7)))))) (c5 (G5 3 (dV 5)) (G5 2 (a9 LG (a6 (dOp pIx (dL 2) (dUn k0 (dC (.int 1)))) (a6 (dOp pIx (dL 5) (dC (.int 0))) (a6 (dOp pIx (dL 5) (dC (.int 1))) a7)))))) i5
theorem a7X {most : Int} {k : Nat} {ps : List Pt} {ws : List (Rat × Rat × Rat)} {f : FS} (w : Rat × Rat × Rat) (hw : WyS 20 w) (x4 x5 : Sl) (hx : w5 w x5) (hws : ∀ w ∈ ws, WyS 20 w) {a : Pt} (ha : ps[ps.length - 1]? = some a) (sa : PtS k a) (hk : k ≤ 1000)
  (h1 : ps.length ≤ 1000) (h2 : ws.length ≤ 1000) (hg : ∀ u, ws[ws.length - 1]? = some u → goR u w = false) :
  opT (opS most ps ws x4 x5 f) = some (.next, opS most (ps ++ [(a.1 + w.1, a.2 + w.2.1)]) (ws ++ [w]) x4 (.val (t6 w)) f) := by
 obtain ⟨_, en⟩ := a2o hws (by omega)
 have lp : atI (ps.map pt) (-1) = some (pt a) := U2 (by rw [List.length_map, List.getElem?_map, ha]; rfl)
 have gn := V9 a w.1 w.2.1 (some f) sa.x sa.y hw.x hw.y (by omega)
 have l1 : (ps.map pt).length < sizeLine := by rw [List.length_map, sizeLine_eq]; omega
 have l2 : (ws.map t6).length < sizeLine := by rw [List.length_map, sizeLine_eq]; omega
 have e1 : (ps ++ [(a.1 + w.1, a.2 + w.2.1)]).map pt = ps.map pt ++ [pt (a.1 + w.1, a.2 + w.2.1)] := by simp
 have e2 : (ws ++ [w]).map t6 = ws.map t6 ++ [t6 w] := by simp
 have hv : dV 5 (opS most ps ws x4 x5 f) = some (t6 w, opS most ps ws x4 (.val (t6 w)) f) := by rcases hx with rfl | rfl <;> rfl
 have fin : ∀ y5, dV 5 (opS most ps ws x4 y5 f) = some (t6 w, opS most ps ws x4 (.val (t6 w)) f) → (c5 (G5 3 (dV 5)) (G5 2 (a9 LG (a6 (dOp pIx (dL 2) (dUn k0 (dC (.int 1)))) (a6 (dOp pIx (dL 5) (dC (.int 0))) (a6 (dOp pIx (dL 5) (dC (.int 1))) a7)))))) (opS most ps ws x4 y5 f) = some (.next, opS most (ps ++ [(a.1 + w.1, a.2 + w.2.1)]) (ws ++ [w]) x4 (.val (t6 w)) f) := fun y5 hy => by
  rw [o0 (s1 := ⟨[.val .feed, .val (.int most), .own (ps.map pt), .own (ws.map t6 ++ [t6 w]), x4, .val (t6 w)], some f⟩) (a6i (s1 := opS most ps ws x4 (.val (t6 w)) f) rfl hy rfl l2)]
  unfold opS
  rw [e1, e2]
  exact a6i (s1 := ⟨[.val .feed, .val (.int most), .own (ps.map pt), .own (ws.map t6 ++ [t6 w]), x4, .val (t6 w)], some f⟩) rfl (L5 (u0 (m5 rfl rfl ((ixL _ _).trans lp)) (u0 (m5 rfl rfl rfl) (u0 (m5 rfl rfl rfl) rfl))) gn) rfl l1
 unfold opT
 have t1 : ∀ z, pEq (.lst (ws.map t6)) (.lst []) = some (.bl z) → dB (dOp pEq (dL 3) (i7 (i8 a7))) (opS most ps ws x4 x5 f) = some (z, opS most ps ws x4 x5 f) := fun z h => P1 (m5 rfl (a0A rfl) h)
 by_cases hz : ws = []
 ·rw [decide_eq_true hz] at en
  rw [N3 (a5h (t1 true en))]
  exact fin x5 hv
 ·rw [decide_eq_false hz] at en
  have hl : ws.length - 1 < ws.length := by have := List.length_pos_iff.mpr hz; omega
  obtain ⟨u, hu⟩ : ∃ u, ws[ws.length - 1]? = some u := ⟨_, List.getElem?_eq_getElem hl⟩
  have la : atI (ws.map t6) (-1) = some (t6 u) := U2 (by rw [List.length_map, List.getElem?_map, hu]; rfl)
  have go := a6d u w (some f) (hws u (List.mem_of_getElem? hu)) hw (by omega)
  rw [hg u hu] at go
  rw [N3 (a03 (t1 false en) (a3n (b := false) (a4W (a1s (sl' := (opS most ps ws x4 (.val (t6 w)) f).sl) (u0 (m5 rfl rfl ((ixL _ _).trans la)) (u0 hv rfl)) go))))]
  exact fin _ rfl
theorem b1C {most : Int} {ps : List Pt} {ws : List (Rat × Rat × Rat)} {f : FS} (w : Rat × Rat × Rat) (hw : WyS 20 w) (x4 x5 : Sl) (hx : w5 w x5) (hws : ∀ w ∈ ws, WyS 20 w) {u : Rat × Rat × Rat} (hu : ws[ws.length - 1]? = some u) (hg : goR u w = true) :
  opT (opS most ps ws x4 x5 f) = some (.next, opS most ps ws x4 (.val (t6 w)) f) := by
 obtain ⟨_, en⟩ := a2o hws (by omega)
 have hz : ws ≠ [] := fun z => by subst z; simp at hu
 rw [decide_eq_false hz] at en
 have la : atI (ws.map t6) (-1) = some (t6 u) := U2 (by rw [List.length_map, List.getElem?_map, hu]; rfl)
 have go := a6d u w (some f) (hws u (List.mem_of_getElem? hu)) hw (by omega)
 rw [hg] at go
 have hv : dV 5 (opS most ps ws x4 x5 f) = some (t6 w, opS most ps ws x4 (.val (t6 w)) f) := by rcases hx with rfl | rfl <;> rfl
 unfold opT
 rw [a0C (a03 (s1 := opS most ps ws x4 x5 f) (P1 (m5 rfl (a0A rfl) en)) (a3n (b := true) (a4W (a1s (sl' := (opS most ps ws x4 (.val (t6 w)) f).sl) (u0 (m5 rfl rfl ((ixL _ _).trans la)) (u0 hv rfl)) go))))]
 rfl
theorem b25 {most : Int} {n i : Nat} {ps : List Pt} {ws : List (Rat × Rat × Rat)} {f : FS} (x4 x5 : Sl) (I : OpI most n i ps ws f) (hi : i < 40) (hn : n < 2 ^ 27) :
  ∃ ps' ws' x5' f', lOp (opS most ps ws x4 x5 f) = some (.next, opS most ps' ws' x4 x5' f') ∧ OpI most n (i + 1) ps' ws' f' := by
 obtain ⟨w0, f1, e1, hw0, h1⟩ := way I.fd (by omega)
 obtain ⟨w, x', f2, e2, hx, hw, h2⟩ := a7z (most := most) (i := i) (ps := ps) w0 hw0 x4 I.wy h1 (by omega)
 have hl := I.len
 obtain ⟨a, ha⟩ : ∃ a, ps[ps.length - 1]? = some a := ⟨_, List.getElem?_eq_getElem (by omega)⟩
 have sa := I.sz a (List.mem_of_getElem? ha)
 have pre : ∀ r, opT (opS most ps ws x4 x' f2) = r → lOp (opS most ps ws x4 x5 f) = r := fun r er => by
  unfold lOp a2b
  rw [o0 (s1 := opS most ps ws x4 (.val (t6 w0)) f1) (by unfold opS; exact A4 (K1 rfl e1) rfl), o0 e2]
  exact er
 have few := I.few
 by_cases hc : ∃ u, ws[ws.length - 1]? = some u ∧ goR u w = true
 ·obtain ⟨u, hu, hg⟩ := hc
  refine ⟨ps, ws, .val (t6 w), f2, pre _ (b1C w hw x4 x' hx I.wy hu hg), I.op, I.len, fun _ => ?_, by omega, fun p hp => (I.sz p hp).mono (by omega), I.wy, I.rel, h2.mono (by omega)⟩
  have := (List.getElem?_eq_some_iff.mp hu).1
  omega
 ·have hg : ∀ u, ws[ws.length - 1]? = some u → goR u w = false := fun u hu => by
   cases h : goR u w
   ·rfl
   ·exact absurd ⟨u, hu, h⟩ hc
  refine ⟨ps ++ [(a.1 + w.1, a.2 + w.2.1)], ws ++ [w], .val (t6 w), f2, pre _ (a7X w hw x4 x' hx I.wy ha sa (by omega) (by omega) (by omega) hg), ?_, by simp [hl], fun _ => by simp, by simp; omega, fun p hp => ?_, fun v hv => ?_, fun j v b c q1 q2 q3 => ?_, h2.mono (by omega)⟩
  ·refine I.op.app (fun b hb e => hw.nz ?_) fun b c h2' hb hc' => ?_
   ·rw [ha] at hb
    cases hb
    have z1 := congrArg Prod.fst e
    have z2 := congrArg Prod.snd e
    simp only at z1 z2
    constructor <;> grind
   ·rw [ha] at hc'
    cases hc'
    obtain ⟨u, hu⟩ : ∃ u, ws[ws.length - 1]? = some u := ⟨_, List.getElem?_eq_getElem (by omega)⟩
    have hu' := hu
    rw [show ws.length - 1 = ps.length - 2 by omega] at hu'
    have rl := I.rel _ u b a hu' hb (by rw [show ps.length - 2 + 1 = ps.length - 1 by omega]; exact ha)
    subst rl
    rw [a7A (I.wy u (List.mem_of_getElem? hu)).nz hw.nz]
    exact hg u hu
  ·rcases List.mem_append.mp hp with hp | hp
   ·exact (I.sz p hp).mono (by omega)
   ·have ep : p = (a.1 + w.1, a.2 + w.2.1) := by simpa using hp
    subst ep
    exact ⟨(sa.x.add hw.x).mono (by omega), (sa.y.add hw.y).mono (by omega)⟩
  ·rcases List.mem_append.mp hv with hv | hv
   ·exact I.wy v hv
   ·have ep : v = w := by simpa using hv
    subst ep; exact hw
  ·by_cases hj : j < ws.length
   ·rw [List.getElem?_append_left hj] at q1
    rw [List.getElem?_append_left (by omega)] at q2 q3
    exact I.rel j v b c q1 q2 q3
   ·have hjl := (List.getElem?_eq_some_iff.mp q1).1
    simp only [List.length_append, List.length_singleton] at hjl
    have ej : j = ws.length := by omega
    subst ej
    rw [List.getElem?_append_right (by omega), Nat.sub_self] at q1
    rw [List.getElem?_append_left (by omega)] at q2
    rw [List.getElem?_append_right (by omega), show ws.length + 1 - ps.length = 0 by omega] at q3
    rw [show ws.length = ps.length - 1 by omega, ha] at q2
    cases q2
    have e1 : w = v := by simpa using q1
    have e2 : (a.1 + w.1, a.2 + w.2.1) = c := by simpa using q3
    subst e1
    exact e2.symm
end T

namespace T
open PySem L2 DL
structure LnS (c : Bool) (ps : List Pt) : Prop where
 ok : F8 c ps = true
 lo : lo c ≤ ps.length
 hi : ps.length ≤ hi c
 sz : ∀ p ∈ ps, PtS 200 p
 ex : ∀ q ∈ nbs c ps, ∃ r : Rat, dsq q.1 q.2 = r * r
theorem b1P {n : Nat} {f : FS} (most : Int) (hm : 2 ≤ most ∧ most ≤ 9) (h : Fd n f) (hn : n < 2 ^ 26) : ∃ ps f', LOp [.feed, .int most] (some f) = some (.tup [.bl false, .tup (ps.map pt)], some f') ∧ LnS false ps ∧ Fd (n + 100) f' := by
 obtain ⟨p0, f0, e0, s0, h0⟩ := a35 h (by omega)
 obtain ⟨r, f1, e1, r1, r2, h1⟩ := C1 (most - 1) h0
 obtain ⟨m, hmm⟩ : ∃ m : Nat, (1 : Int) + r = (m : Int) := ⟨(1 + r).toNat, by omega⟩
 have rm : K4 [.int ((1 : Int) + r)] = some (ups 0 m) := by rw [hmm]; exact R5 (by omega)
 obtain ⟨s', lp, ps, ws, x4, x5, f', rfl, I⟩ := W0 (t := c6 4) (b := lOp) (fun i s => ∃ ps ws x4 x5 f', s = opS most ps ws x4 x5 f' ∧ OpI most (n + 9) i ps ws f') (ups 0 m) 0 (opS most [p0] [] .no .no f1)
  ⟨[p0], [], .no, .no, f1, rfl, Open.one p0, rfl, fun z => absurd z (by omega), by simp, (fun p hp => by
   have : p = p0 := by simpa using hp
   subst this; exact s0.mono (by omega)), (fun w hw => by cases hw), (fun j w a b q => by simp at q), h1⟩ (by
   rintro i d s hd ⟨ps, ws, x4, x5, f', rfl, I⟩
   obtain ⟨rfl, hi⟩ := a0h hd
   rw [Nat.zero_add] at *
   obtain ⟨ps', ws', x5', f'', e, I'⟩ := b25 (.val (.int ((0 : Int) + i))) x5 I (by omega) (by omega)
   exact ⟨opS most ps ws (.val (.int ((0 : Int) + i))) x5 f', _, rfl, .inl e, ps', ws', _, x5', f'', rfl, I'⟩)
 rw [Nat.zero_add, M5] at I
 have l1 := I.len
 have l2 := I.any (by omega)
 have l3 := I.few
 refine ⟨ps, f', u6 (s := ⟨[.val .feed, .val (.int most), .own (ps.map pt), .own (ws.map t6), x4, x5], some f'⟩) ?_, ⟨I.op.line, by show 2 ≤ _; omega, by show _ ≤ 9; omega, fun p hp => (I.sz p hp).mono (by omega), fun q hq => ?_⟩, I.fd.mono (by omega)⟩
 rotate_left
 ·obtain ⟨j, hj⟩ := List.getElem?_of_mem hq
  obtain ⟨q1, q2⟩ := a0n hj
  have lj := (List.getElem?_eq_some_iff.mp q2).1
  obtain ⟨w, hw⟩ : ∃ w, ws[j]? = some w := ⟨_, List.getElem?_eq_getElem (by omega)⟩
  have rl := I.rel j w q.1 q.2 hw q1 q2
  have we := (I.wy w (List.mem_of_getElem? hw)).ex
  refine ⟨w.2.2, ?_⟩
  rw [rl, ← we]
  unfold dsq
  grind
 show a3Q LGo LG u9 R4 LWy LPl ⟨[.val .feed, .val (.int most), .no, .no, .no, .no], some f⟩ = _
 unfold a3Q
 have rg : (a6 (dOp i6 (dC (.int 1)) (a9 u9 (a6 (dV 0) (a6 (dOp k6 (dL 1) (dC (.int 1))) a7)))) a7) (opS most [p0] [] .no .no f0) = some ([.int ((1 : Int) + r)], opS most [p0] [] .no .no f1) := by
  exact u0 (m5 rfl (K1 (u0 rfl (u0 (m5 rfl rfl rfl) rfl)) e1) rfl) rfl
 have s1 : (1 : Nat) ≤ sizeLine := by decide
 rw [o0 (s1 := ⟨[.val .feed, .val (.int most), .own [pt p0], .no, .no, .no], some f0⟩) (a4m (s1 := ⟨[.val .feed, .val (.int most), .no, .no, .no, .no], some f0⟩) (b1m (K1 rfl e0)) (show 2 < 6 by decide)),
  o0 (s1 := opS most [p0] [] .no .no f0) (a4m (s1 := ⟨[.val .feed, .val (.int most), .own [pt p0], .no, .no, .no], some f0⟩) rfl (show 3 < 6 by decide)), o0 ((Y0 rg rm).trans lp)]
 exact D9 (b1K rfl (a1y rfl rfl))
end T

namespace T
open PySem L2 DL
noncomputable abbrev LCl : DFn := a2m u9 LG LP LF LWy LPl
noncomputable def V2 (p : Pt) (x y : Rat) : List Pt := [p, (p.1 + x, p.2 + 0), (p.1 + x, p.2 + y), (p.1 + 0, p.2 + y)]
noncomputable def T4 : List (List Int) := [[0, 1, 2], [0, 2, 1], [0, 2, 1, 3], [0, 1, 3, 2], [3, 1, 0]]
noncomputable def P8 (o : List Int) (p : Pt) (x y : Rat) : List Pt := o.filterMap fun i => (V2 p x y)[i.toNat]?
theorem b3H {p : Pt} {x y : Rat} (hx : x * y ≠ 0) {o : List Int} (ho : o ∈ T4) : F8 true (P8 o p x y) = true ∧ 3 ≤ (P8 o p x y).length ∧ (P8 o p x y).length ≤ 4 := by
 simp only [T4, List.mem_cons, List.not_mem_nil, or_false] at ho
 rcases ho with rfl | rfl | rfl | rfl | rfl
 ·exact ⟨a3m (fun z => hx (by simp only [u7] at z; grind)) (fun z => hx (by simp only [u7] at z; grind)) (fun z => hx (by simp only [u7] at z; grind)), Nat.le_of_ble_eq_true rfl, Nat.le_of_ble_eq_true rfl⟩
 ·exact ⟨a3m (fun z => hx (by simp only [u7] at z; grind)) (fun z => hx (by simp only [u7] at z; grind)) (fun z => hx (by simp only [u7] at z; grind)), Nat.le_of_ble_eq_true rfl, Nat.le_of_ble_eq_true rfl⟩
 ·exact ⟨a23 (fun z => hx (by simp only [u7] at z; grind)) (fun z => hx (by simp only [u7] at z; grind)) (fun z => hx (by simp only [u7] at z; grind)) (fun z => hx (by simp only [u7] at z; grind)), Nat.le_of_ble_eq_true rfl, Nat.le_of_ble_eq_true rfl⟩
 ·exact ⟨a23 (fun z => hx (by simp only [u7] at z; grind)) (fun z => hx (by simp only [u7] at z; grind)) (fun z => hx (by simp only [u7] at z; grind)) (fun z => hx (by simp only [u7] at z; grind)), Nat.le_of_ble_eq_true rfl, Nat.le_of_ble_eq_true rfl⟩
 ·exact ⟨a3m (fun z => hx (by simp only [u7] at z; grind)) (fun z => hx (by simp only [u7] at z; grind)) (fun z => hx (by simp only [u7] at z; grind)), Nat.le_of_ble_eq_true rfl, Nat.le_of_ble_eq_true rfl⟩
theorem b0i {p : Pt} {x y : Rat} (hr : ∃ r : Rat, x * x + y * y = r * r) {o : List Int} (ho : o ∈ T4) : ∀ q ∈ nbs true (P8 o p x y), ∃ r : Rat, dsq q.1 q.2 = r * r := by
 obtain ⟨r, hr⟩ := hr
 have d1 : ∀ a b : Pt, (∃ s t : Rat, (s = 1 ∨ s = -1) ∧ (t = 1 ∨ t = -1) ∧ a.1 - b.1 = s * x ∧ a.2 - b.2 = t * y) → ∃ r : Rat, dsq a b = r * r := by
  rintro a b ⟨s, t, hs, ht, e1, e2⟩
  refine ⟨r, ?_⟩
  unfold dsq
  rw [e1, e2, ← hr]
  rcases hs with rfl | rfl <;> rcases ht with rfl | rfl <;> grind
 have d2 : ∀ a b : Pt, a.2 = b.2 → ∃ r : Rat, dsq a b = r * r := by
  intro a b e
  refine ⟨a.1 - b.1, ?_⟩
  unfold dsq
  rw [e]; grind
 have d3 : ∀ a b : Pt, a.1 = b.1 → ∃ r : Rat, dsq a b = r * r := by
  intro a b e
  refine ⟨a.2 - b.2, ?_⟩
  unfold dsq
  rw [e]; grind
 intro q hq
 simp only [T4, List.mem_cons, List.not_mem_nil, or_false] at ho
 rcases ho with rfl | rfl | rfl | rfl | rfl <;> (
  have hq' := hq
  simp [P8, V2, nbs] at hq'
  rcases hq' with rfl | rfl | rfl | rfl
  all_goals first
   | exact d2 _ _ rfl
   | exact d3 _ _ rfl
   | exact d2 _ _ (by grind)
   | exact d3 _ _ (by grind)
   | exact d1 _ _ ⟨1, 1, .inl rfl, .inl rfl, by grind, by grind⟩
   | exact d1 _ _ ⟨1, -1, .inl rfl, .inr rfl, by grind, by grind⟩
   | exact d1 _ _ ⟨-1, 1, .inr rfl, .inl rfl, by grind, by grind⟩
   | exact d1 _ _ ⟨-1, -1, .inr rfl, .inr rfl, by grind, by grind⟩)
theorem b1H {o : List Int} {p : Pt} {x y : Rat} {q : Pt} (h : q ∈ P8 o p x y) : q ∈ V2 p x y := by
 obtain ⟨i, _, hi⟩ := List.mem_filterMap.mp h
 exact List.mem_of_getElem? hi
theorem a9A {r : Int} (h0 : 0 ≤ r) (h1 : r < 5) : ∃ o ∈ T4, atI [D.tup [.int 0, .int 1, .int 2], .tup [.int 0, .int 2, .int 1], .tup [.int 0, .int 2, .int 1, .int 3], .tup [.int 0, .int 1, .int 3, .int 2], .tup [.int 3, .int 1, .int 0]] r = some (.tup (o.map .int)) := by
 have : r = 0 ∨ r = 1 ∨ r = 2 ∨ r = 3 ∨ r = 4 := by omega
 rcases this with rfl | rfl | rfl | rfl | rfl
 ·exact ⟨[0, 1, 2], by decide, rfl⟩
 ·exact ⟨[0, 2, 1], by decide, rfl⟩
 ·exact ⟨[0, 2, 1, 3], by decide, rfl⟩
 ·exact ⟨[0, 1, 3, 2], by decide, rfl⟩
 ·exact ⟨[3, 1, 0], by decide, rfl⟩
theorem a9L : ∀ o ∈ T4, ∀ i ∈ o, 0 ≤ i ∧ i < 4 := by decide
theorem a5n (cs : List D) (fs : Option FS) : ∀ o : List Int, (∀ i ∈ o, 0 ≤ i ∧ i < cs.length) → C4 (fun d => some [.val d, .val (.lst cs)]) B0 (dOp pIx (dL 1) (dL 0)) (o.map .int) fs = some (o.filterMap fun i => cs[i.toNat]?, fs)
 | [], _ => rfl
 | i :: r, h => by
  have hi := h i (List.mem_cons_self ..)
  have ih := a5n cs fs r fun x hx => h x (List.mem_cons_of_mem _ hx)
  obtain ⟨x, ex⟩ : ∃ x, cs[i.toNat]? = some x := ⟨_, List.getElem?_eq_getElem (show i.toNat < cs.length by omega)⟩
  have ea : atI cs i = some x := by rw [← ex]; exact a0p hi.1 hi.2
  rw [List.map_cons, C4, List.filterMap_cons, ex]
  simp [B0, dOp, dL, ixL, ea, ih]
theorem b2s {o : List Int} (ho : o ∈ T4) (cs : List D) (hc : cs.length = 4) (fs : Option FS) : C4 (fun d => some [.val d, .val (.lst cs)]) B0 (dOp pIx (dL 1) (dL 0)) (o.map .int) fs = some (o.filterMap fun i => cs[i.toNat]?, fs) :=
 a5n cs fs o fun i hi => by have := a9L o ho i hi; omega
theorem a9e (o : List Int) (p : Pt) (x y : Rat) : (o.filterMap fun i => ((V2 p x y).map pt)[i.toNat]?) = (P8 o p x y).map pt := by
 unfold P8
 rw [List.map_filterMap]
 congr 1
 funext i
 simp
end T

namespace T
open PySem L2 DL
theorem b1f {k l : Nat} {p q : Rat} (ha : Sz k p) (hb : Sz l q) (hk : k ≤ 1920) (hl : l ≤ 1920) : pNe (fr p) (fr q) = some (.bl (!decide (p = q))) := by
 have h1 := (Ok.fr ha hk).eq
 have h2 := (Ok.fr hb hl).eq
 have e := a4k ha hb hk hl
 have e' : pEq (fr p) (fr q) = some (.bl (PyData.eqv (fr p).py (fr q).py)) := by
  show (if w6 (fr p) && w6 (fr q) then some (D.bl (PyData.eqv (fr p).py (fr q).py)) else none) = _
  rw [h1, h2]; rfl
 rw [e] at e'
 have ee : decide (p = q) = PyData.eqv (fr p).py (fr q).py := by simpa using e'
 show (if w6 (fr p) && w6 (fr q) then some (D.bl (!PyData.eqv (fr p).py (fr q).py)) else none) = _
 rw [h1, h2, ← ee]; rfl
theorem b2m {p q : DE} {s s1 s2 : DS} {x y : D} {w : Bool} (h1 : p s = some (x, s1)) (h2 : q s1 = some (y, s2)) (h3 : pEq x y = some (.bl w)) : dB (dOp pEq p q) s = some (w, s2) := by
 unfold dB
 rw [m5 h1 h2 h3]
 rfl
theorem a7P {p q : DE} {s s1 s2 : DS} {x y : D} {w : Bool} (h1 : p s = some (x, s1)) (h2 : q s1 = some (y, s2)) (h3 : pNe x y = some (.bl w)) : dB (dOp pNe p q) s = some (w, s2) := by
 unfold dB
 rw [m5 h1 h2 h3]
 rfl
theorem a5o {f : DA} {s s1 : DS} {ds : List D} (h : f s = some (ds, s1)) (hz : ds.length ≤ sizeLine) : d0 f s = some (.tup ds, s1) := by
 unfold d0
 rw [h, Option.bind_some, if_pos hz]
noncomputable abbrev a4B (mD mW mP mG : DFn) : DM := i4 (dB (dOp pEq (a9 mD (a6 (dV 0) (a6 (dC (.int 2)) a7))) (dC (.int 0)))) (c5 (e8 (a9 mW (a6 (dV 0) a7)) (c6 3)) (i4 (dB (dOp pNe (a9 mP (a6 (dOp pIx (dL 1) (dC (.int 0))) (a6 (dOp pIx (dL 3) (dC (.int 1))) a7))) (a9 mP (a6 (dOp pIx (dL 1) (dC (.int 1))) (a6 (dOp pIx (dL 3) (dC (.int 0))) a7))))) (c5 (e8 (a9 mG (a6 (dV 2) (a6 (dOp pIx (dL 1) (dC (.int 0))) (a6 (dOp pIx (dL 1) (dC (.int 1))) a7)))) (c6 4)) (c5 (e8 (a9 mG (a6 (dV 2) (a6 (dOp pIx (dL 3) (dC (.int 0))) (a6 (dOp pIx (dL 3) (dC (.int 1))) a7)))) (c6 5)) (i3 (d0 (a6 (dC (.bl true)) (a6 (d0 (a6 (dV 2) (a6 (dV 4) (a6 (a9 mG (a6 (dV 4) (a6 (dOp pIx (dL 3) (dC (.int 0))) (a6 (dOp pIx (dL 3) (dC (.int 1))) a7)))) (a6 (dV 5) a7))))) a7)))))) i5)) i5
noncomputable abbrev cS (p : D) (w x3 x4 x5 : Sl) (f : FS) : DS := ⟨[.val .feed, w, .val p, x3, x4, x5, .no, .no, .no, .no, .no], some f⟩
theorem a4M {mD mW mP mG : DFn} {f f1 f2 : FS} {p a b c d e g A B : D} {w : Bool} (e1 : mD [.feed, .int 2] (some f) = some (.int 0, some f1)) (e2 : mW [.feed] (some f1) = some (.lst [d, e, g], some f2)) (p1 : mP [a, e] (some f2) = some (A, some f2)) (p2 : mP [b, d] (some f2) = some (B, some f2)) (pn : pNe A B = some (.bl w)) :
  (w = false → a4B mD mW mP mG (cS p (.val (.lst [a, b, c])) .no .no .no f) = some (.next, cS p (.val (.lst [a, b, c])) (.val (.lst [d, e, g])) .no .no f2)) ∧
  (w = true → ∀ X Y Z : D, mG [p, a, b] (some f2) = some (X, some f2) → mG [p, d, e] (some f2) = some (Y, some f2) → mG [X, d, e] (some f2) = some (Z, some f2) → a4B mD mW mP mG (cS p (.val (.lst [a, b, c])) .no .no .no f) = some (.ret (.tup [.bl true, .tup [p, X, Z, Y]]), cS p (.val (.lst [a, b, c])) (.val (.lst [d, e, g])) (.val X) (.val Y) f2)) := by
 have c0 : dB (dOp pEq (a9 mD (a6 (dV 0) (a6 (dC (.int 2)) a7))) (dC (.int 0))) (cS p (.val (.lst [a, b, c])) .no .no .no f) = some (true, cS p (.val (.lst [a, b, c])) .no .no .no f1) :=
  b2m (s1 := cS p (.val (.lst [a, b, c])) .no .no .no f1) (B7 (s1 := cS p (.val (.lst [a, b, c])) .no .no .no f) rfl e1) rfl (D1 0 0)
 have c1 : dB (dOp pNe (a9 mP (a6 (dOp pIx (dL 1) (dC (.int 0))) (a6 (dOp pIx (dL 3) (dC (.int 1))) a7))) (a9 mP (a6 (dOp pIx (dL 1) (dC (.int 1))) (a6 (dOp pIx (dL 3) (dC (.int 0))) a7)))) (cS p (.val (.lst [a, b, c])) (.val (.lst [d, e, g])) .no .no f2) = some (w, cS p (.val (.lst [a, b, c])) (.val (.lst [d, e, g])) .no .no f2) :=
  a7P (s1 := cS p (.val (.lst [a, b, c])) (.val (.lst [d, e, g])) .no .no f2) (B7 (s1 := cS p (.val (.lst [a, b, c])) (.val (.lst [d, e, g])) .no .no f2) (xs := [a, e]) rfl p1) (B7 (s1 := cS p (.val (.lst [a, b, c])) (.val (.lst [d, e, g])) .no .no f2) (xs := [b, d]) rfl p2) pn
 constructor
 ·rintro rfl
  show i4 _ _ _ _ = _
  rw [N3 c0, o0 (s1 := cS p (.val (.lst [a, b, c])) (.val (.lst [d, e, g])) .no .no f2) (A4 (B7 (s1 := cS p (.val (.lst [a, b, c])) .no .no .no f1) rfl e2) rfl), a0C c1]
  rfl
 ·rintro rfl X Y Z g1 g2 g3
  show i4 _ _ _ _ = _
  rw [N3 c0, o0 (s1 := cS p (.val (.lst [a, b, c])) (.val (.lst [d, e, g])) .no .no f2) (A4 (B7 (s1 := cS p (.val (.lst [a, b, c])) .no .no .no f1) rfl e2) rfl), N3 c1,
   o0 (s1 := cS p (.val (.lst [a, b, c])) (.val (.lst [d, e, g])) (.val X) .no f2) (A4 (B7 (s1 := cS p (.val (.lst [a, b, c])) (.val (.lst [d, e, g])) .no .no f2) (xs := [p, a, b]) rfl g1) rfl),
   o0 (s1 := cS p (.val (.lst [a, b, c])) (.val (.lst [d, e, g])) (.val X) (.val Y) f2) (A4 (B7 (s1 := cS p (.val (.lst [a, b, c])) (.val (.lst [d, e, g])) (.val X) .no f2) (xs := [p, d, e]) rfl g2) rfl)]
  exact D9 (a5o (ds := [.bl true, .tup [p, X, Z, Y]]) (s1 := cS p (.val (.lst [a, b, c])) (.val (.lst [d, e, g])) (.val X) (.val Y) f2) (u0 rfl (u0 (a5o (ds := [p, X, Z, Y]) (s1 := cS p (.val (.lst [a, b, c])) (.val (.lst [d, e, g])) (.val X) (.val Y) f2) (u0 rfl (u0 rfl (u0 (B7 (s1 := cS p (.val (.lst [a, b, c])) (.val (.lst [d, e, g])) (.val X) (.val Y) f2) (xs := [X, d, e]) rfl g3) (u0 rfl rfl)))) (show 4 ≤ sizeLine by decide)) rfl)) (show 2 ≤ sizeLine by decide))
noncomputable abbrev clA : DM := i4 (dB (dOp pEq (a9 u9 (a6 (dV 0) (a6 (dC (.int 2)) a7))) (dC (.int 0)))) (c5 (e8 (a9 LWy (a6 (dV 0) a7)) (c6 3)) (i4 (dB (dOp pNe (a9 LP (a6 (dOp pIx (dL 1) (dC (.int 0))) (a6 (dOp pIx (dL 3) (dC (.int 1))) a7))) (a9 LP (a6 (dOp pIx (dL 1) (dC (.int 1))) (a6 (dOp pIx (dL 3) (dC (.int 0))) a7))))) (c5 (e8 (a9 LG (a6 (dV 2) (a6 (dOp pIx (dL 1) (dC (.int 0))) (a6 (dOp pIx (dL 1) (dC (.int 1))) a7)))) (c6 4)) (c5 (e8 (a9 LG (a6 (dV 2) (a6 (dOp pIx (dL 3) (dC (.int 0))) (a6 (dOp pIx (dL 3) (dC (.int 1))) a7)))) (c6 5)) (i3 (d0 (a6 (dC (.bl true)) (a6 (d0 (a6 (dV 2) (a6 (dV 4) (a6 (a9 LG (a6 (dV 4) (a6 (dOp pIx (dL 3) (dC (.int 0))) (a6 (dOp pIx (dL 3) (dC (.int 1))) a7)))) (a6 (dV 5) a7))))) a7)))))) i5)) i5
theorem a9d {n : Nat} {f : FS} (w : Rat × Rat × Rat) (p : Pt) (hw : WyS 20 w) (hp : PtS 5 p) (h : Fd n f) (hn : n < 2 ^ 27) :
  ∃ f', Fd (n + 8) f' ∧ ((∃ x3, clA ⟨[.val .feed, .val (t6 w), .val (pt p), .no, .no, .no, .no, .no, .no, .no, .no], some f⟩ = some (.next, ⟨[.val .feed, .val (t6 w), .val (pt p), x3, .no, .no, .no, .no, .no, .no, .no], some f'⟩)) ∨
   ∃ ps sl, clA ⟨[.val .feed, .val (t6 w), .val (pt p), .no, .no, .no, .no, .no, .no, .no, .no], some f⟩ = some (.ret (.tup [.bl true, .tup (ps.map pt)]), ⟨sl, some f'⟩) ∧ LnS true ps) := by
 obtain ⟨r, f1, e1, r1, r2, h1⟩ := C1 2 h
 by_cases hr : r = 0
 ·obtain ⟨v, f2, e2, hv, h2⟩ := way h1 (by omega)
  have p1 := M4 w.1 v.2.1 (some f2) hw.x hv.y (by omega)
  have p2 := M4 w.2.1 v.1 (some f2) hw.y hv.x (by omega)
  have pn := b1f (hw.x.mul hv.y) (hw.y.mul hv.x) (by omega) (by omega)
  refine ⟨f2, h2.mono (by omega), ?_⟩
  by_cases hz : w.1 * v.2.1 = w.2.1 * v.1
  ·left
   refine ⟨.val (t6 v), ?_⟩
   rw [decide_eq_true hz] at pn
   subst hr
   exact (a4M e1 e2 p1 p2 pn).1 rfl
  ·right
   have g1 := V9 p w.1 w.2.1 (some f2) hp.x hp.y hw.x hw.y (by omega)
   have g2 := V9 p v.1 v.2.1 (some f2) hp.x hp.y hv.x hv.y (by omega)
   have g3 := V9 (p.1 + w.1, p.2 + w.2.1) v.1 v.2.1 (some f2) (hp.x.add hw.x) (hp.y.add hw.y) hv.x hv.y (by omega)
   rw [decide_eq_false hz] at pn
   have s4 : (4 : Nat) ≤ sizeLine := by decide
   refine ⟨[p, (p.1 + w.1, p.2 + w.2.1), (p.1 + w.1 + v.1, p.2 + w.2.1 + v.2.1), (p.1 + v.1, p.2 + v.2.1)],
    [.val .feed, .val (t6 w), .val (pt p), .val (t6 v), .val (pt (p.1 + w.1, p.2 + w.2.1)), .val (pt (p.1 + v.1, p.2 + v.2.1)), .no, .no, .no, .no, .no], ?_, ?_, by show 3 ≤ 4; omega, by show 4 ≤ 8; omega, ?_, ?_⟩
   ·subst hr
    exact (a4M (c := fr w.2.2) (g := fr v.2.2) e1 e2 p1 p2 pn).2 rfl _ _ _ g1 g2 g3
   ·exact a23 (fun z => hz (by simp only [u7] at z; grind)) (fun z => hz (by simp only [u7] at z; grind)) (fun z => hz (by simp only [u7] at z; grind)) (fun z => hz (by simp only [u7] at z; grind))
   ·intro q hq
    simp only [List.mem_cons, List.not_mem_nil, or_false] at hq
    rcases hq with rfl | rfl | rfl | rfl
    ·exact hp.mono (by omega)
    ·exact ⟨(hp.x.add hw.x).mono (by omega), (hp.y.add hw.y).mono (by omega)⟩
    ·exact ⟨((hp.x.add hw.x).add hv.x).mono (by omega), ((hp.y.add hw.y).add hv.y).mono (by omega)⟩
    ·exact ⟨(hp.x.add hv.x).mono (by omega), (hp.y.add hv.y).mono (by omega)⟩
   ·intro q hq
    have hq' : q = (p, (p.1 + w.1, p.2 + w.2.1)) ∨ q = ((p.1 + w.1, p.2 + w.2.1), (p.1 + w.1 + v.1, p.2 + w.2.1 + v.2.1)) ∨ q = ((p.1 + w.1 + v.1, p.2 + w.2.1 + v.2.1), (p.1 + v.1, p.2 + v.2.1)) ∨ q = ((p.1 + v.1, p.2 + v.2.1), p) := by
     simpa [nbs] using hq
    have wx := hw.ex
    have vx := hv.ex
    rcases hq' with rfl | rfl | rfl | rfl
    ·exact ⟨w.2.2, by rw [← wx]; unfold dsq; grind⟩
    ·exact ⟨v.2.2, by rw [← vx]; unfold dsq; grind⟩
    ·exact ⟨w.2.2, by rw [← wx]; unfold dsq; grind⟩
    ·exact ⟨v.2.2, by rw [← vx]; unfold dsq; grind⟩
 ·refine ⟨f1, h1.mono (by omega), .inl ⟨.no, ?_⟩⟩
  simp [clA, c5, m6, e8, dOp, dUn, dC, dL, dV, c6, i4, dB, i3, a9, a6, a7, d0, i5, dCB, one, i7, i8, dIf, k9, dOr, j8, l6, m9, m7, pIx, i6, k6, k0, j3, j5, l0, j9, l4, l5, dTr, m8, e1, D1, hr]
noncomputable abbrev clT (m1 m2 m3 m4 : DFn) : DM := (c5 (e8 (a9 m4 (a6 (dOp i6 (dC (.int 1)) (a9 m1 (a6 (dV 0) (a6 (dC (.int 3)) a7)))) (a6 (dOp i6 (dC (.int 1)) (a9 m1 (a6 (dV 0) (a6 (dC (.int 2)) a7)))) a7))) (c6 6)) (c5 (l5 7 8 (a6 (a9 m3 (a6 (dV 6) (a6 (d0 (a6 (dC (.int 3)) (a6 (dC (.int 1)) a7))) a7))) (a6 (a9 m3 (a6 (dV 6) (a6 (d0 (a6 (dC (.int 4)) (a6 (dC (.int 1)) a7))) a7))) a7))) (c5 (D0 9 (i8 (a6 (dV 2) (a6 (a9 m2 (a6 (dV 2) (a6 (dV 7) (a6 (d0 (a6 (dC (.int 0)) (a6 (dC (.int 1)) a7))) a7)))) (a6 (a9 m2 (a6 (dV 2) (a6 (dV 7) (a6 (dV 8) a7)))) (a6 (a9 m2 (a6 (dV 2) (a6 (d0 (a6 (dC (.int 0)) (a6 (dC (.int 1)) a7))) (a6 (dV 8) a7)))) a7)))))) (c5 (e8 (dOp pIx (i7 (i8 (a6 (d0 (a6 (dC (.int 0)) (a6 (dC (.int 1)) (a6 (dC (.int 2)) a7)))) (a6 (d0 (a6 (dC (.int 0)) (a6 (dC (.int 2)) (a6 (dC (.int 1)) a7)))) (a6 (d0 (a6 (dC (.int 0)) (a6 (dC (.int 2)) (a6 (dC (.int 1)) (a6 (dC (.int 3)) a7))))) (a6 (d0 (a6 (dC (.int 0)) (a6 (dC (.int 1)) (a6 (dC (.int 3)) (a6 (dC (.int 2)) a7))))) (a6 (d0 (a6 (dC (.int 3)) (a6 (dC (.int 1)) (a6 (dC (.int 0)) a7)))) a7))))))) (a9 m1 (a6 (dV 0) (a6 (dC (.int 5)) a7)))) (c6 10)) (i3 (d0 (a6 (dC (.bl true)) (a6 (dCB (one L6) (a6 (i7 (a0T [9] (C7 [9] (G7 (dV 10)) B0 (dOp pIx (dL 1) (dL 0))))) a7)) a7))))))))
theorem b2R {i j : Nat} {f : DA} {s s1 s2 : DS} {a b : D} (h : f s = some ([a, b], s1)) (e : { s1 with sl := (s1.sl.set i (.val a)).set j (.val b) } = s2) : l5 i j f s = some (.next, s2) := by
 unfold l5
 rw [h, ← e]
 rfl
theorem b3Q {i : Nat} {f : DA} {s s1 s2 : DS} {ds : List D} (h : f s = some (ds, s1)) (hi : i < s1.sl.length) (e : { s1 with sl := s1.sl.set i (.own ds) } = s2) : D0 i f s = some (.next, s2) := by
 unfold D0
 rw [h, Option.bind_some, if_pos hi, ← e]
theorem a8l {f : DA} {s s1 : DS} {ds : List D} (h : f s = some (ds, s1)) (hz : ds.length ≤ sizeLine) : i8 f s = some (ds, s1) := by
 unfold i8
 rw [h, Option.bind_some, if_pos hz]
theorem a9z {m1 m2 m3 m4 : DFn} {f f4 f5 f6 : FS} {r1 r2 r3 : Int} {p sc x y a b c : D} {J Z : List D} {w x3 : Sl}
  (e4 : m1 [.feed, .int 3] (some f) = some (.int r1, some f4)) (e5 : m1 [.feed, .int 2] (some f4) = some (.int r2, some f5)) (ef : m4 [.int (1 + r1), .int (1 + r2)] (some f5) = some (sc, some f5))
  (q3 : m3 [sc, .tup [.int 3, .int 1]] (some f5) = some (x, some f5)) (q4 : m3 [sc, .tup [.int 4, .int 1]] (some f5) = some (y, some f5))
  (g1 : m2 [p, x, .tup [.int 0, .int 1]] (some f5) = some (a, some f5)) (g2 : m2 [p, x, y] (some f5) = some (b, some f5)) (g3 : m2 [p, .tup [.int 0, .int 1], y] (some f5) = some (c, some f5))
  (e6 : m1 [.feed, .int 5] (some f5) = some (.int r3, some f6)) (eo : atI [D.tup [.int 0, .int 1, .int 2], .tup [.int 0, .int 2, .int 1], .tup [.int 0, .int 2, .int 1, .int 3], .tup [.int 0, .int 1, .int 3, .int 2], .tup [.int 3, .int 1, .int 0]] r3 = some (.tup J)) (ol : J.length ≤ sizeLine)
  (oc : C4 (fun d => some [.val d, .val (.lst [p, a, b, c])]) B0 (dOp pIx (dL 1) (dL 0)) J (some f6) = some (Z, some f6)) :
  clT m1 m2 m3 m4 ⟨[.val .feed, w, .val p, x3, .no, .no, .no, .no, .no, .no, .no], some f⟩ = some (.ret (.tup [.bl true, .tup Z]), ⟨[.val .feed, w, .val p, x3, .no, .no, .val sc, .val x, .val y, .val (.lst [p, a, b, c]), .val (.tup J)], some f6⟩) := by
 unfold clT
 rw [o0 (s1 := ⟨[.val .feed, w, .val p, x3, .no, .no, .val sc, .no, .no, .no, .no], some f5⟩) (A4 (B7 (u0 (m5 rfl (B7 rfl e4) rfl) (u0 (m5 rfl (B7 rfl e5) rfl) rfl)) ef) rfl),
  o0 (s1 := ⟨[.val .feed, w, .val p, x3, .no, .no, .val sc, .val x, .val y, .no, .no], some f5⟩) (b2R (u0 (B7 rfl q3) (u0 (B7 rfl q4) rfl)) rfl),
  o0 (s1 := ⟨[.val .feed, w, .val p, x3, .no, .no, .val sc, .val x, .val y, .own [p, a, b, c], .no], some f5⟩) (b3Q (a8l (ds := [p, a, b, c]) (s1 := ⟨[.val .feed, w, .val p, x3, .no, .no, .val sc, .val x, .val y, .no, .no], some f5⟩) (u0 rfl (u0 (B7 rfl g1) (u0 (B7 rfl g2) (u0 (B7 rfl g3) rfl)))) (show 4 ≤ sizeLine by decide)) (show 9 < 11 by decide) rfl),
  o0 (s1 := ⟨[.val .feed, w, .val p, x3, .no, .no, .val sc, .val x, .val y, .own [p, a, b, c], .val (.tup J)], some f6⟩) (A4 (m5 (s1 := ⟨[.val .feed, w, .val p, x3, .no, .no, .val sc, .val x, .val y, .own [p, a, b, c], .no], some f5⟩) rfl (B7 rfl e6) (a0z eo)) rfl)]
 refine D9 ?_
 simp [c5, m6, e8, dOp, dUn, dC, dL, dV, c6, i4, dB, i3, a9, a6, a7, d0, i5, dCB, one, i7, i8, dIf, k9, dOr, j8, l6, m9, m7, pIx, i6, k6, k0, j3, j5, l0, j9, l4, l5, dTr, m8, a0T, a0d, a1P, C7, G7, ol, E9, S6, oc, L6, sz2]
theorem a8L {n : Nat} {f : FS} (h : Fd n f) (hn : n < 2 ^ 26) : ∃ ps f', LCl [.feed] (some f) = some (.tup [.bl true, .tup (ps.map pt)], some f') ∧ LnS true ps ∧ Fd (n + 100) f' := by
 obtain ⟨w, f1, e1, hw, h1⟩ := way h (by omega)
 obtain ⟨p, f2, e2, hp, h2⟩ := a35 h1 (by omega)
 obtain ⟨f3, h3, hA⟩ := a9d w p hw hp h2 (by omega)
 have pre : ∀ rest : DM, c5 (e8 (a9 LWy (a6 (dV 0) a7)) (c6 1)) (c5 (e8 (a9 LPl (a6 (dV 0) a7)) (c6 2)) (c5 clA rest)) ⟨[.val .feed, .no, .no, .no, .no, .no, .no, .no, .no, .no, .no], some f⟩ = c5 clA rest ⟨[.val .feed, .val (t6 w), .val (pt p), .no, .no, .no, .no, .no, .no, .no, .no], some f2⟩ := fun rest => by
  rw [o0 (s1 := ⟨[.val .feed, .val (t6 w), .no, .no, .no, .no, .no, .no, .no, .no, .no], some f1⟩) (A4 (K1 rfl e1) rfl), o0 (s1 := ⟨[.val .feed, .val (t6 w), .val (pt p), .no, .no, .no, .no, .no, .no, .no, .no], some f2⟩) (A4 (K1 rfl e2) rfl)]
 rcases hA with ⟨x3, e3⟩ | ⟨ps, sl, e3, hl⟩
 ·obtain ⟨r1, f4, e4, a1, a2, h4⟩ := C1 3 h3
  obtain ⟨r2, f5, e5, b1, b2, h5⟩ := C1 2 h4
  have bd : Bd 4 (1 + r2) := M1 (by omega)
  have ef := K9 (1 + r1) (1 + r2) (some f5) (by omega) bd (by omega)
  have ss : Sz 4 (Rat.divInt (1 + r1) (1 + r2)) := Sz.of_divInt (by omega) (by omega) (by omega)
  have sp : (0 : Rat) < Rat.divInt (1 + r1) (1 + r2) := by
   rw [Rat.divInt_eq_div, Rat.div_def]
   exact Rat.mul_pos (Rat.intCast_pos.mpr (by omega)) (Rat.inv_pos.mpr (Rat.intCast_pos.mpr (by omega)))
  generalize Rat.divInt (1 + r1) (1 + r2) = sc at *
  have S3 : Sz 4 ((3 : Int) : Rat) := Sz.int (M1 (by decide)) (by omega)
  have S4 : Sz 4 ((4 : Int) : Rat) := Sz.int (M1 (by decide)) (by omega)
  have q3 := M4 sc _ (some f5) ss S3 (by omega)
  have q4 := M4 sc _ (some f5) ss S4 (by omega)
  rw [← a9f] at q3 q4
  have sx : Sz 8 (sc * ((3 : Int) : Rat)) := (ss.mul S3).mono (by omega)
  have sy : Sz 8 (sc * ((4 : Int) : Rat)) := (ss.mul S4).mono (by omega)
  have xy : sc * ((3 : Int) : Rat) * (sc * ((4 : Int) : Rat)) ≠ 0 := by
   have : (0 : Rat) < sc * ((3 : Int) : Rat) * (sc * ((4 : Int) : Rat)) := Rat.mul_pos (Rat.mul_pos sp (Rat.intCast_pos.mpr (by decide))) (Rat.mul_pos sp (Rat.intCast_pos.mpr (by decide)))
   intro z; rw [z] at this; exact absurd this Rat.lt_irrefl
  have hex : ∃ r : Rat, sc * ((3 : Int) : Rat) * (sc * ((3 : Int) : Rat)) + sc * ((4 : Int) : Rat) * (sc * ((4 : Int) : Rat)) = r * r := by
   refine ⟨sc * ((5 : Int) : Rat), ?_⟩
   have e3 : ((3 : Int) : Rat) = 3 := rfl
   have e4 : ((4 : Int) : Rat) = 4 := rfl
   have e5 : ((5 : Int) : Rat) = 5 := rfl
   rw [e3, e4, e5]
   grind
  generalize sc * ((3 : Int) : Rat) = x at *
  generalize sc * ((4 : Int) : Rat) = y at *
  have S0 : Sz 4 (0 : Rat) := Sz.lit (by decide)
  have g1 := V9 p x 0 (some f5) hp.x hp.y sx S0 (by omega)
  have g2 := V9 p x y (some f5) hp.x hp.y sx sy (by omega)
  have g3 := V9 p 0 y (some f5) hp.x hp.y S0 sy (by omega)
  have z0 : fr 0 = D.tup [.int 0, .int 1] := rfl
  rw [z0] at g1 g3
  obtain ⟨r3, f6, e6, c1, c2, h6⟩ := C1 5 h5
  obtain ⟨o, ho, eo⟩ := a9A c1 c2
  obtain ⟨l1, l2, l3⟩ := b3H (p := p) xy ho
  have oc := b2s ho ((V2 p x y).map pt) rfl (some f6)
  rw [a9e] at oc
  have ol : (o.map D.int).length ≤ sizeLine := by
   rw [List.length_map, sizeLine_eq]
   simp only [T4, List.mem_cons, List.not_mem_nil, or_false] at ho
   rcases ho with rfl | rfl | rfl | rfl | rfl <;> decide
  refine ⟨P8 o p x y, f6, u6 (s := ⟨[.val .feed, .val (t6 w), .val (pt p), x3, .no, .no, .val (fr sc), .val (fr x), .val (fr y), .val (.lst ((V2 p x y).map pt)), .val (.tup (o.map .int))], some f6⟩) ?_, ⟨l1, l2, by show _ ≤ 8; omega, fun q hq => ?_, b0i hex ho⟩, h6.mono (by omega)⟩
  ·show a0H u9 LG LP LF LWy LPl ⟨[.val .feed, .no, .no, .no, .no, .no, .no, .no, .no, .no, .no], some f⟩ = _
   unfold a0H
   rw [pre, o0 e3]
   exact a9z e4 e5 ef q3 q4 g1 g2 g3 e6 eo ol oc
  ·have hq' := b1H hq
   simp only [V2, List.mem_cons, List.not_mem_nil, or_false] at hq'
   rcases hq' with rfl | rfl | rfl | rfl
   ·exact hp.mono (by omega)
   ·exact ⟨(hp.x.add sx).mono (by omega), (hp.y.add S0).mono (by omega)⟩
   ·exact ⟨(hp.x.add sx).mono (by omega), (hp.y.add sy).mono (by omega)⟩
   ·exact ⟨(hp.x.add S0).mono (by omega), (hp.y.add sy).mono (by omega)⟩
 ·refine ⟨ps, f3, u6 (s := ⟨sl, some f3⟩) ?_, hl, h3.mono (by omega)⟩
  show a0H u9 LG LP LF LWy LPl ⟨[.val .feed, .no, .no, .no, .no, .no, .no, .no, .no, .no, .no], some f⟩ = _
  unfold a0H
  rw [pre]
  exact D7 e3
noncomputable abbrev LLn : DFn := a2X u9 LCl LOp
theorem b0M {n : Nat} {f : FS} (most : Int) (hm : 2 ≤ most ∧ most ≤ 9) (h : Fd n f) (hn : n < 2 ^ 25) : ∃ c ps f', LLn [.feed, .int most] (some f) = some (.tup [.bl c, .tup (ps.map pt)], some f') ∧ LnS c ps ∧ Fd (n + 101) f' := by
 obtain ⟨r, f1, e1, r1, r2, h1⟩ := C1 4 h
 by_cases hr : r = 0
 ·obtain ⟨ps, f2, e2, hl, h2⟩ := a8L h1 (by omega)
  refine ⟨true, ps, f2, u6 (s := ⟨[.val .feed, .val (.int most)], some f2⟩) ?_, hl, h2.mono (by omega)⟩
  show a24 u9 LCl LOp ⟨[.val .feed, .val (.int most)], some f⟩ = _
  exact D9 ((b2a (P1 (m5 (K1 rfl e1) rfl ((D1 r 0).trans (by rw [decide_eq_true hr]))))).trans (K1 rfl e2))
 ·obtain ⟨ps, f2, e2, hl, h2⟩ := b1P most hm h1 (by omega)
  refine ⟨false, ps, f2, u6 (s := ⟨[.val .feed, .val (.int most)], some f2⟩) ?_, hl, h2.mono (by omega)⟩
  show a24 u9 LCl LOp ⟨[.val .feed, .val (.int most)], some f⟩ = _
  exact D9 ((b2Q (P1 (m5 (K1 rfl e1) rfl ((D1 r 0).trans (by rw [decide_eq_false hr]))))).trans (K1 rfl e2))
end T

namespace T
open PySem L2 DL
noncomputable abbrev LR5 : DFn := a3E FLn LDl
theorem b3p (x : Str) : pEq (.str x) (.str x) = some (.bl true) := by rw [b0q]; simp
theorem Z9 {b k : Nat} (d : D) (fs : Option FS) (h : Th b k d) (hb : b ≤ 1900) (hk : k ≤ 64) (hs : bk d ≤ 8000) : LR5 [d] fs = some (.bl true, fs) := by
 have k1 := (Th.ok (by omega) _ h).repr hk hs
 have k2 := a7d (b2D (B6 d))
 refine u6 (s := ⟨[.val d, .val (.str d.py.shown)], fs⟩) ?_
 show a19 FLn LDl ⟨[.val d, .no], fs⟩ = _
 simp [a19, c5, m6, e8, dOp, dUn, dC, dL, dV, c6, i4, dB, i3, a9, a6, a7, d0, i5, dCB, one, i7, i8, dIf, k9, dOr, j8, l6, m9, m7, i6, k6, k0, j3, j5, l0, j9, l4, l5, dTr, m8, ixT, ixL, o7, o9, o8, p8, p9, k1, k2, a0j d fs h hb (by omega), a9h d fs h hb (by omega), b3p]
noncomputable abbrev LHw : DFn := a2O LA LP LS LX
theorem a7H {k : Nat} (a b : Pt) (fs : Option FS) (ha : PtS k a) (hb : PtS k b) (hk : k ≤ 400) : ∃ c, LHw [pt a, pt b] fs = some (pt c, fs) ∧ PtS (2 * k + 4) c := by
 have x1 := lxy a fs ha.ps (by omega)
 have x2 := lxy b fs hb.ps (by omega)
 have s1 := a0v a.1 b.1 fs ha.x hb.x (by omega)
 have s2 := a0v a.2 b.2 fs ha.y hb.y (by omega)
 have z1 := ha.x.add hb.x
 have z2 := ha.y.add hb.y
 have hh : Sz 2 (Rat.divInt 1 2) := Sz.of_divInt (by decide) (by decide) (by decide)
 have ef : fr (Rat.divInt 1 2) = D.tup [.int 1, .int 2] := by unfold fr; rfl
 have m1 := M4 (a.1 + b.1) (Rat.divInt 1 2) fs z1 hh (by omega)
 have m2 := M4 (a.2 + b.2) (Rat.divInt 1 2) fs z2 hh (by omega)
 have zz1 := z1.mul hh
 have zz2 := z2.mul hh
 have la := lat _ _ fs zz1 zz2 (by omega)
 refine ⟨((a.1 + b.1) * Rat.divInt 1 2, (a.2 + b.2) * Rat.divInt 1 2), u6 (s := ⟨[.val (pt a), .val (pt b), .val (fr (a.1 + b.1)), .val (fr (a.2 + b.2)), .val (fr b.1), .val (fr b.2)], fs⟩) ?_, ⟨zz1.mono (by omega), zz2.mono (by omega)⟩⟩
 show a2U LA LP LS LX ⟨[.val (pt a), .val (pt b), .no, .no, .no, .no], fs⟩ = _
 rw [ef] at m1 m2
 generalize (a.1 + b.1) * Rat.divInt 1 2 = U at *
 generalize (a.2 + b.2) * Rat.divInt 1 2 = V at *
 simp [a2U, c5, m6, e8, dOp, dUn, dC, dL, dV, c6, i4, dB, i3, a9, a6, a7, d0, i5, dCB, one, i7, i8, dIf, k9, dOr, j8, l6, m9, m7, pIx, i6, k6, k0, j3, j5, l0, j9, l4, l5, dTr, m8, x1, x2, s1, s2, m1, m2, la, sz2]
theorem a5G : ∀ (ds : List D) {n : Nat} {f : FS}, Fd n f → n + 8 * ds.length < 2 ^ 27 → ∃ (ps : List Pt) (f' : FS), C4 (fun d => some [.val d, .val .feed]) B0 (a9 LPl (a6 (dV 1) a7)) ds (some f) = some (ps.map pt, some f') ∧ ps.length = ds.length ∧ (∀ p ∈ ps, PtS 5 p) ∧ Fd (n + 8 * ds.length) f'
 | [], n, f, h, _ => ⟨[], f, rfl, rfl, fun p hp => (by cases hp), h⟩
 | d :: r, n, f, h, hn => by
  simp only [List.length_cons] at hn
  obtain ⟨a, f1, e1, s1, h1⟩ := a35 h (by omega)
  obtain ⟨ps, f2, e2, l2, s2, h2⟩ := a5G r h1 (by omega)
  refine ⟨a :: ps, f2, ?_, by simp [l2], fun p hp => ?_, h2.mono (by simp only [List.length_cons]; omega)⟩
  ·have e3 : a9 LPl (a6 (dV 1) a7) ⟨[.val d, .val .feed], some f⟩ = some (pt a, ⟨[.val d, .val .feed], some f1⟩) := by simp [c5, m6, e8, dOp, dUn, dC, dL, dV, c6, i4, dB, i3, a9, a6, a7, d0, i5, dCB, one, i7, i8, dIf, k9, dOr, j8, l6, m9, m7, pIx, i6, k6, k0, j3, j5, l0, j9, l4, l5, dTr, m8, e1]
   simp only [C4, B0, Option.bind_some, if_true, e3, e2, Option.map_some, List.map_cons]
  ·rcases List.mem_cons.mp hp with rfl | hp
   ·exact s1
   ·exact s2 p hp
theorem a6p {k b : Nat} {ps : List Pt} (c : Bool) (h : ∀ p ∈ ps, PtS k p) (hk : 2 * k ≤ b) : Th b 2 (.tup (ps.map pt)) ∧ Th b 3 (.tup [.bl c, .tup (ps.map pt)]) := by
 have h1 : Th b 2 (.tup (ps.map pt)) := by
  unfold Th
  exact Ths.of (fun d hd => by
   obtain ⟨p, hp, rfl⟩ := List.mem_map.mp hd
   exact b2q (h p hp).ps (by omega))
 refine ⟨h1, ?_⟩
 unfold Th
 simp only [Ths, and_true]
 exact ⟨by unfold Th; trivial, h1⟩
theorem a6n : ∀ ps : List Pt, bks (ps.map pt) = 4 * ps.length
 | [] => rfl
 | p :: r => by
  rw [List.map_cons, E1, a6n r, a96, List.length_cons]; omega
theorem a6H (c : Bool) (ps : List Pt) : bk (.tup [.bl c, .tup (ps.map pt)]) = 4 * ps.length + 2 := by
 rw [D5, E1, E1, R0, D5, a6n, a01]; omega
noncomputable abbrev E5 : DM := a3q FLn LR5 L4 (LBt 64) u9 LHw LPl LLn Q3
noncomputable abbrev E4 : DM := a1f FLn LR5 L4 (LBt 64) u9 LHw LPl LLn Q3
noncomputable abbrev E3 : DM := a0o FLn LR5 L4 (LBt 64) u9 LHw LPl LLn Q3
noncomputable def S5 (x0 x2 x3 x4 x5 x6 x7 x8 : Sl) (f : FS) : DS := ⟨[x0, .val .feed, x2, x3, x4, x5, x6, x7, x8, .no, .no, .no, .no], some f⟩
theorem t5 {n b k : Nat} {f : FS} (d : D) (hd : Th b k d) (hk : k ≤ 10) (hb : 130 ≤ b) (hb2 : b ≤ 1000) (hs : bk d ≤ 100000) (h : Fd n f) (hn : n < 2 ^ 22) (x0 x2 x3 x4 x5 x6 x8 : Sl) :
  ∃ d' f', E5 (S5 x0 x2 x3 x4 x5 x6 (.val d) x8 f) = some (.next, S5 x0 x2 x3 x4 x5 x6 (.val d') x8 f') ∧ Th (b + 1) (k + 1) d' ∧ bk d' ≤ 2 * bk d + b + 10 ∧ Fd (n + 40) f' := by
 obtain ⟨d', f', e, t, s, g⟩ := a22 64 d (k := k) (b := b) (by omega) (by decide) hd hb hb2 hs h (by omega)
 refine ⟨d', f', ?_, t, s, g.mono (by omega)⟩
 unfold S5
 simp [a3q, c5, m6, e8, dOp, dUn, dC, dL, dV, c6, i4, dB, i3, a9, a6, a7, d0, i5, dCB, one, i7, i8, dIf, k9, dOr, j8, l6, m9, m7, i6, k6, k0, j3, j5, l0, j9, l4, l5, dTr, m8, ixT, ixL, o7, o9, o8, p8, p9, e]
theorem t5s {n : Nat} {f : FS} (d : D) (m : Nat) (hm : m ≤ 2) (hd : Th 410 4 d) (hs : bk d ≤ 600) (h : Fd n f) (hn : n < 2 ^ 21) (x0 x2 x3 x4 x5 x6 x8 : Sl) :
  ∃ d' f' y8, w8 (c6 8) E5 (ups 0 m) (S5 x0 x2 x3 x4 x5 x6 (.val d) x8 f) = some (.next, S5 x0 x2 x3 x4 x5 x6 (.val d') y8 f') ∧ Th 420 6 d' ∧ bk d' ≤ 7000 ∧ Fd (n + 80) f' := by
 have pu : ∀ (x7 x8 : Sl) (f : FS) (v : D), c6 8 v (S5 x0 x2 x3 x4 x5 x6 x7 x8 f) = some (S5 x0 x2 x3 x4 x5 x6 x7 (.val v) f) := fun _ _ _ _ => by simp [c6, S5]
 have : m = 0 ∨ m = 1 ∨ m = 2 := by omega
 rcases this with rfl | rfl | rfl
 ·exact ⟨d, f, x8, rfl, Th.mono (by decide) _ (by decide) hd, by omega, h.mono (by omega)⟩
 ·obtain ⟨d1, f1, e1, t1, s1, h1⟩ := t5 d hd (by decide) (by decide) (by decide) (by omega) h (by omega) x0 x2 x3 x4 x5 x6 (.val (.int 0))
  refine ⟨d1, f1, .val (.int 0), ?_, Th.mono (by decide) _ (by decide) t1, by omega, h1.mono (by omega)⟩
  show w8 (c6 8) E5 [.int 0] _ = _
  simp only [w8, pu, Option.bind_some, e1]
 ·obtain ⟨d1, f1, e1, t1, s1, h1⟩ := t5 d hd (by decide) (by decide) (by decide) (by omega) h (by omega) x0 x2 x3 x4 x5 x6 (.val (.int 0))
  obtain ⟨d2, f2, e2, t2, s2, h2⟩ := t5 d1 t1 (by decide) (by decide) (by decide) (by omega) h1 (by omega) x0 x2 x3 x4 x5 x6 (.val (.int 1))
  refine ⟨d2, f2, .val (.int 1), ?_, Th.mono (by decide) _ (by decide) t2, by omega, h2.mono (by omega)⟩
  show w8 (c6 8) E5 [.int 0, .int 1] _ = _
  simp only [w8, pu, Option.bind_some, e1, e2]
theorem b0O {r : Int} (a1 : 0 ≤ r) (a2 : r < 4) : ∃ m : Nat, m ≤ 2 ∧ atI [D.int 0, D.int 0, D.int 1, D.int 2] r = some (.int (m : Int)) := by
 have : r = 0 ∨ r = 1 ∨ r = 2 ∨ r = 3 := by omega
 rcases this with rfl | rfl | rfl | rfl
 ·exact ⟨0, by decide, rfl⟩
 ·exact ⟨0, by decide, rfl⟩
 ·exact ⟨1, by decide, rfl⟩
 ·exact ⟨2, by decide, rfl⟩
set_option maxHeartbeats 4000000 in
theorem t4 {n : Nat} {f : FS} (a : D) (ha : Th 400 3 a) (hab : bk a ≤ 60) (h : Fd n f) (hn : n < 2 ^ 20) (x0 x2 x4 x5 x6 x7 x8 : Sl) :
  ∃ y7 y8 f', E4 (S5 x0 x2 (.val a) x4 x5 x6 x7 x8 f) = some (.next, S5 x0 x2 (.val a) x4 x5 x6 y7 y8 f') ∧ Fd (n + 100) f' := by
 obtain ⟨d, f1, e1, t1, s1, h1⟩ := a22 64 a (k := 3) (b := 400) (by decide) (by decide) ha (by decide) (by decide) (by omega) h (by omega)
 obtain ⟨r, f2, e2, a1, a2, h2⟩ := C1 4 h1
 obtain ⟨m, hm, hq⟩ := b0O a1 a2
 obtain ⟨d', f3, y8, e3, t3, s3, h3⟩ := t5s d m hm (Th.mono (by decide) _ (by decide) t1) (by omega) h2 (by omega) x0 x2 (.val a) x4 x5 x6 x8
 have rg : K4 [.int (m : Int)] = some (ups 0 m) := R5 (by omega)
 refine ⟨.val d', y8, f3, ?_, h3.mono (by omega)⟩
 have q4 : (4 : Nat) ≤ sizeLine := by decide
 show a1f _ _ _ _ _ _ _ _ _ _ = _
 unfold a1f
 rw [o0 (s1 := S5 x0 x2 (.val a) x4 x5 x6 (.val d) x8 f1) (by unfold S5; simp [c5, m6, e8, dOp, dUn, dC, dL, dV, c6, i4, dB, i3, a9, a6, a7, d0, i5, dCB, one, i7, i8, dIf, k9, dOr, j8, l6, m9, m7, i6, k6, k0, j3, j5, l0, j9, l4, l5, dTr, m8, ixT, ixL, o7, o9, o8, p8, p9, e1])]
 rw [o0 (s1 := S5 x0 x2 (.val a) x4 x5 x6 (.val d') y8 f3) (by rw [Y0 (xs := [.int (m : Int)]) (s1 := S5 x0 x2 (.val a) x4 x5 x6 (.val d) x8 f2) (by unfold S5; simp [c5, m6, e8, dOp, dUn, dC, dL, dV, c6, i4, dB, i3, a9, a6, a7, d0, i5, dCB, one, i7, i8, dIf, k9, dOr, j8, l6, m9, m7, i6, k6, k0, j3, j5, l0, j9, l4, l5, dTr, m8, ixT, ixL, o7, o9, o8, p8, p9, q4, e2, hq]) rg]; exact e3)]
 have lr := Z9 d' (some f3) t3 (by decide) (by decide) (by omega)
 unfold S5
 simp [c5, m6, e8, dOp, dUn, dC, dL, dV, c6, i4, dB, i3, a9, a6, a7, d0, i5, dCB, one, i7, i8, dIf, k9, dOr, j8, l6, m9, m7, i6, k6, k0, j3, j5, l0, j9, l4, l5, dTr, m8, ixT, ixL, o7, o9, o8, p8, p9, lr]
theorem t4s {n : Nat} {f : FS} (a : D) (ha : Th 400 3 a) (hab : bk a ≤ 60) (h : Fd n f) (hn : n < 2 ^ 19) (x0 x2 x4 x5 x6 x7 x8 : Sl) :
  ∃ y6 y7 y8 f', w8 (c6 6) E4 (ups 0 5) (S5 x0 x2 (.val a) x4 x5 x6 x7 x8 f) = some (.next, S5 x0 x2 (.val a) x4 x5 y6 y7 y8 f') ∧ Fd (n + 500) f' := by
 obtain ⟨s', e, y6, y7, y8, f', rfl, hf⟩ := W0 (t := c6 6) (b := E4) (fun i s => ∃ y6 y7 y8 f', s = S5 x0 x2 (.val a) x4 x5 y6 y7 y8 f' ∧ Fd (n + 100 * i) f') (ups 0 5) 0 _ ⟨x6, x7, x8, f, rfl, h⟩ (by
  rintro i d s hd ⟨y6, y7, y8, g, rfl, hg⟩
  obtain ⟨rfl, hi⟩ := a0h hd
  obtain ⟨z7, z8, g', e, hg'⟩ := t4 a ha hab hg (by omega) x0 x2 x4 x5 (.val (.int (0 + (i : Int)))) y7 y8
  exact ⟨_, _, rfl, .inl e, _, _, _, _, rfl, hg'.mono (by omega)⟩)
 exact ⟨y6, y7, y8, f', e, hf⟩
theorem b3g (a : Pt) : y0 (pt a) = true := by
 simp only [pt, y0, Bool.and_eq_true, decide_eq_true_iff]
 exact ⟨by have := a1W a; omega, a4y a⟩
theorem b3S {c : Bool} {ps : List Pt} (h : LnS c ps) : B6 (.tup [.bl c, .tup (ps.map pt)]) = true := by
 have e1 : (ps.map pt).all y0 = true := List.all_eq_true.mpr fun d hd => by
  obtain ⟨p, _, rfl⟩ := List.mem_map.mp hd
  exact b3g p
 have e2 : (ps.map pt).map B1 = ps := by
  rw [List.map_map]
  have : ∀ p ∈ ps, (B1 ∘ pt) p = p := fun p _ => a2Y p
  exact (List.map_congr_left this).trans (List.map_id _)
 have l1 := h.lo
 have l2 := h.hi
 simp only [B6, e1, e2, h.ok, List.length_map, decide_eq_true l1, decide_eq_true l2, Bool.and_self]
structure Gd (even : Bool) (c : Bool) (ps : List Pt) : Prop where
 ge : 2 ≤ ps.length
 le : ps.length ≤ 9
 sz : ∀ p ∈ ps, PtS 200 p
 ln : even = true → B6 (.tup [.bl c, .tup (ps.map pt)]) = true
noncomputable abbrev a3O : DM := e8 (dOp pIx (i7 (i8 (a6 (a9 LLn (a6 (dV 1) (a6 (dC (.int 6)) a7))) (a6 (d0 (a6 (dC (.bl false)) (a6 (dCB (one L6) (a6 (i7 (C7 [1] (O7 (a6 (dOp i6 (dC (.int 2)) (a9 u9 (a6 (dV 1) (a6 (dC (.int 7)) a7)))) a7)) B0 (a9 LPl (a6 (dV 1) a7)))) a7)) a7))) a7)))) (dOp v8 (dL 2) (dC (.int 2)))) (c6 3)
theorem b04 (i : Nat) : ∃ e : Bool, ((i : Int).fmod 2 = if e then 0 else 1) := by
 rw [Int.fmod_eq_emod_of_nonneg _ (by decide)]
 rcases Nat.mod_two_eq_zero_or_one i with h | h
 ·exact ⟨true, by simp; omega⟩
 ·exact ⟨false, by simp; omega⟩
set_option maxHeartbeats 4000000 in
theorem b1d {n : Nat} {f : FS} (i : Nat) (e : Bool) (he : (i : Int).fmod 2 = if e then 0 else 1) (h : Fd n f) (hn : n < 2 ^ 20) (x0 x3 x4 x5 x6 x7 x8 : Sl) :
  ∃ c ps f', a3O (S5 x0 (.val (.int (i : Int))) x3 x4 x5 x6 x7 x8 f) = some (.next, S5 x0 (.val (.int (i : Int))) (.val (.tup [.bl c, .tup (ps.map pt)])) x4 x5 x6 x7 x8 f') ∧ Gd e c ps ∧ Fd (n + 200) f' := by
 obtain ⟨c, ps, f1, e1, hl, h1⟩ := b0M 6 (by decide) h (by omega)
 obtain ⟨r, f2, e2, r1, r2, h2⟩ := C1 7 h1
 obtain ⟨m, hm⟩ : ∃ m : Nat, (2 : Int) + r = (m : Int) := ⟨(2 + r).toNat, by omega⟩
 have rg : K4 [.int ((2 : Int) + r)] = some (ups 0 m) := by rw [hm]; exact R5 (by omega)
 obtain ⟨qs, f3, e3, l3, s3, h3⟩ := a5G (ups 0 m) h2 (by rw [M5]; omega)
 rw [M5] at l3 h3
 have ul : (ups 0 m).length ≤ sizeLine := by rw [M5, sizeLine_eq]; omega
 have pm : v8 (.int (i : Int)) (.int 2) = some (.int (if e then 0 else 1)) := by rw [← he]; simp [v8]
 have key : ∀ d, atI [D.tup [.bl c, .tup (ps.map pt)], D.tup [.bl false, .tup (qs.map pt)]] (if e then 0 else 1) = some d → a3O (S5 x0 (.val (.int (i : Int))) x3 x4 x5 x6 x7 x8 f) = some (.next, S5 x0 (.val (.int (i : Int))) (.val d) x4 x5 x6 x7 x8 f3) := fun d hd => by
  unfold a3O S5
  generalize ps.map pt = P at *
  generalize qs.map pt = R at *
  generalize (if e then 0 else 1 : Int) = E at *
  generalize (i : Int) = I at *
  generalize ups 0 m = U at *
  simp [c5, m6, e8, dOp, dUn, dC, dL, dV, c6, i4, dB, i3, a9, a6, a7, d0, i5, dCB, one, i7, i8, dIf, k9, dOr, j8, l6, m9, m7, i6, k6, k0, j3, j5, l0, j9, l4, l5, dTr, m8, ixT, ixL, o7, o9, o8, p8, p9, e1, C7, O7, e2, rg, ul, E9, S6, e3, L6, sz2, pm, hd]
 cases e with
 | true =>
  refine ⟨c, ps, f3, key _ rfl, ⟨?_, ?_, hl.sz, fun _ => b3S hl⟩, h3.mono (by omega)⟩
  ·have := hl.lo
   have : 2 ≤ lo c := by cases c <;> decide
   omega
  ·have := hl.hi
   have : hi c ≤ 9 := by cases c <;> decide
   omega
 | false =>
  refine ⟨false, qs, f3, key _ rfl, ⟨by omega, by omega, fun p hp => (s3 p hp).mono (by omega), fun z => by cases z⟩, h3.mono (by omega)⟩
set_option maxHeartbeats 4000000 in
theorem t3 {n : Nat} {f : FS} (i : Nat) (h : Fd n f) (hn : n < 2 ^ 18) (x0 x3 x4 x5 x6 x7 x8 : Sl) :
  ∃ y3 y4 y5 y6 y7 y8 f', E3 (S5 x0 (.val (.int (i : Int))) x3 x4 x5 x6 x7 x8 f) = some (.next, S5 x0 (.val (.int (i : Int))) y3 y4 y5 y6 y7 y8 f') ∧ Fd (n + 700) f' := by
 obtain ⟨e, he⟩ := b04 i
 obtain ⟨c, ps, f1, e1, G, h1⟩ := b1d i e he h (by omega) x0 x3 x4 x5 x6 x7 x8
 have pm : v8 (.int (i : Int)) (.int 2) = some (.int (if e then 0 else 1)) := by rw [← he]; simp [v8]
 obtain ⟨a, b, r, rfl⟩ : ∃ a b r, ps = a :: b :: r := by
  match ps, G.ge with
  | a :: b :: r, _ => exact ⟨a, b, r, rfl⟩
 have le := G.le
 simp only [List.length_cons] at le
 obtain ⟨m, em, sm⟩ := a7H a b (some f1) (G.sz a (by simp)) (G.sz b (by simp)) (by decide)
 obtain ⟨tr, tg⟩ := a6p (b := 400) c G.sz (by decide)
 have bg := a6H c (a :: b :: r)
 simp only [List.length_cons] at bg
 have rt := Z9 _ (some f1) tg (by decide) (by decide) (by omega)
 have pl := a0j _ (some f1) tg (by decide) (by omega)
 obtain ⟨tr2, tg2⟩ := a6p (k := 404) (b := 808) (ps := a :: m :: b :: r) c (fun p hp => by
  rcases List.mem_cons.mp hp with rfl | hp
  ·exact (G.sz p (by simp)).mono (by decide)
  ·rcases List.mem_cons.mp hp with rfl | hp
   ·exact sm
   ·exact (G.sz p (List.mem_cons_of_mem _ hp)).mono (by decide)) (by decide)
 have bg2 := a6H c (a :: m :: b :: r)
 simp only [List.length_cons] at bg2
 have rt2 := Z9 _ (some f1) tg2 (by decide) (by decide) (by omega)
 obtain ⟨y6, y7, y8, f2, e2, h2⟩ := t4s _ tg (by omega) h1 (by omega) x0 (.val (.int (i : Int))) (.val (pt a)) (.val (pt b)) x6 x7 x8
 have r5 : K4 [.int 5] = some (ups 0 5) := R5 (n := 5) (by decide)
 have hln := G.ln
 have c2 : B3 ((a :: b :: r).map pt) none (some 2) = [pt a, pt b] := by
  have := a2C ((a :: b :: r).map pt) 2 (by simp)
  simpa using this
 have c1 : B3 ((a :: b :: r).map pt) none (some 1) = [pt a] := by rw [a6k]; simp
 have cf : B3 ((a :: b :: r).map pt) (some 1) none = pt b :: r.map pt := by rw [a34]; simp
 have q1 : (1 : Nat) ≤ sizeLine := by decide
 have ls : 2 + (r.length + 1) ≤ sizeLine := by rw [sizeLine_eq]; omega
 refine ⟨.val (.tup [.bl c, .tup ((a :: b :: r).map pt)]), .val (pt a), .val (pt b), y6, y7, y8, f2, ?_, h2.mono (by omega)⟩
 show a0o _ _ _ _ _ _ _ _ _ _ = _
 unfold a0o
 rw [o0 e1]
 clear e1 tr tg tr2 tg2
 simp only [List.map_cons] at rt pl rt2 c2 c1 cf hln e2 ⊢
 have ls' : 2 + (pt b :: r.map pt).length ≤ sizeLine := by simpa using ls
 rw [o0 (s1 := S5 x0 (.val (.int (i : Int))) (.val (.tup [.bl c, .tup (pt a :: pt b :: r.map pt)])) x4 x5 x6 x7 x8 f1) (by
  generalize r.map pt = R at *
  unfold S5
  cases e with
  | true =>
   rw [hln rfl] at pl
   simp only [if_true] at pm
   simp [c5, m6, e8, dOp, dUn, dC, dL, dV, c6, i4, dB, i3, a9, a6, a7, d0, i5, dCB, one, i7, i8, dIf, k9, dOr, j8, l6, m9, m7, i6, k6, k0, j3, j5, l0, j9, l4, l5, dTr, m8, ixT, ixL, o7, o9, o8, p8, p9, rt, pl, pm, D1, Z2]
  | false =>
   simp only [Bool.false_eq_true, if_false] at pm
   simp [c5, m6, e8, dOp, dUn, dC, dL, dV, c6, i4, dB, i3, a9, a6, a7, d0, i5, dCB, one, i7, i8, dIf, k9, dOr, j8, l6, m9, m7, i6, k6, k0, j3, j5, l0, j9, l4, l5, dTr, m8, ixT, ixL, o7, o9, o8, p8, p9, rt, pm, D1]),
  o0 (s1 := S5 x0 (.val (.int (i : Int))) (.val (.tup [.bl c, .tup (pt a :: pt b :: r.map pt)])) (.val (pt a)) (.val (pt b)) x6 x7 x8 f1) (by
  generalize r.map pt = R at *
  unfold S5
  simp [c5, m6, e8, dOp, dUn, dC, dL, dV, c6, i4, dB, i3, a9, a6, a7, d0, i5, dCB, one, i7, i8, dIf, k9, dOr, j8, l6, m9, m7, i6, k6, k0, j3, j5, l0, j9, l4, l5, dTr, m8, ixT, ixL, o7, o9, o8, p8, p9, dSl, dAt, dNo, B4, c2]),
  o0 (s1 := S5 x0 (.val (.int (i : Int))) (.val (.tup [.bl c, .tup (pt a :: pt b :: r.map pt)])) (.val (pt a)) (.val (pt b)) x6 x7 x8 f1) (by
  generalize r.map pt = R at *
  unfold S5
  simp only [List.length_cons] at ls'
  simp [c5, m6, e8, dOp, dUn, dC, dL, dV, c6, i4, dB, i3, a9, a6, a7, d0, i5, dCB, one, i7, i8, dIf, k9, dOr, j8, l6, m9, m7, i6, k6, k0, j3, j5, l0, j9, l4, l5, dTr, m8, ixT, ixL, o7, o9, o8, p8, p9, dSl, dAt, dNo, C5, B4, c1, cf, em, q1, sz2, ls', rt2]), Y0 (xs := [.int 5]) rfl r5]
 exact e2
end T

namespace T
open PySem L2 DL
noncomputable def stp : D → D
 | .int i => .tup [.int (i.fdiv 2 + i.fmod 2), .int (i.fdiv 2), .int 1]
 | _ => .non
theorem stx (I : Int) (fs : Option FS) (dk : F6 2 = true) : d0 (a6 (dOp i6 (dOp C2 (dL 0) (dC (.int 2))) (dOp v8 (dL 0) (dC (.int 2)))) (a6 (dOp C2 (dL 0) (dC (.int 2))) (a6 (dC (.int 1)) a7))) ⟨[.val (.int I)], fs⟩ = some (stp (.int I), ⟨[.val (.int I)], fs⟩) := by
 have d1 : C2 (.int I) (.int 2) = some (.int (I.fdiv 2)) := by simp only [C2, dk, if_true]
 have d2 : v8 (.int I) (.int 2) = some (.int (I.fmod 2)) := by simp [v8]
 have s3 : (3 : Nat) ≤ sizeLine := by decide
 simp [d0, a6, dOp, dL, dC, a7, i6, d1, d2, stp, s3]
theorem a78 (i : Int) : bk (stp (.int i)) = 3 := by rw [stp, D5, E1, E1, E1, R0, M9, M9, M9]
theorem a6b : ∀ l : List D, (∀ d ∈ l, bk d = 3) → bks l = 4 * l.length
 | [], _ => rfl
 | d :: r, h => by rw [E1, h d (by simp), a6b r fun x hx => h x (List.mem_cons_of_mem _ hx), List.length_cons]; omega
theorem a3C {m : Nat} (hm : m ≤ 10) {d : D} (hd : d ∈ ups 0 m) : ∃ i : Nat, d = .int (i : Int) ∧ i < 10 := by
 obtain ⟨i, hi⟩ := List.mem_iff_getElem?.mp hd
 obtain ⟨rfl, h⟩ := a0h hi
 exact ⟨i, by rw [Int.zero_add], by omega⟩
theorem a8n {i : Nat} (hi : i < 10) : Th 10 1 (stp (.int (i : Int))) := by
 have e1 : ((i : Int).fdiv 2) = ((i / 2 : Nat) : Int) := by rw [Int.fdiv_eq_ediv_of_nonneg _ (by decide)]; rfl
 have e2 : ((i : Int).fmod 2) = ((i % 2 : Nat) : Int) := by rw [Int.fmod_eq_emod_of_nonneg _ (by decide)]; rfl
 rw [stp, e1, e2]
 unfold Th
 simp only [Ths, Th, and_true]
 exact ⟨M1 (by omega), M1 (by omega), M1 (by decide)⟩
theorem a99 (M : Int) (U : List D) (fs : Option FS) (rg : K4 [.int M] = some U) (ul : U.length ≤ sizeLine) (cm : C4 (fun d => some [.val d]) B0 (d0 (a6 (dOp i6 (dOp C2 (dL 0) (dC (.int 2))) (dOp v8 (dL 0) (dC (.int 2)))) (a6 (dOp C2 (dL 0) (dC (.int 2))) (a6 (dC (.int 1)) a7)))) U fs = some (U.map stp, fs)) :
  L4 [.int M] fs = some (.tup (U.map stp), fs) := by
 refine u6 (s := ⟨[.val (.int M)], fs⟩) ?_
 show a39 ⟨[.val (.int M)], fs⟩ = _
 unfold a39
 have e : C7 [] (O7 (a6 (dV 0) a7)) B0 (d0 (a6 (dOp i6 (dOp C2 (dL 0) (dC (.int 2))) (dOp v8 (dL 0) (dC (.int 2)))) (a6 (dOp C2 (dL 0) (dC (.int 2))) (a6 (dC (.int 1)) a7)))) ⟨[.val (.int M)], fs⟩ = some (U.map stp, ⟨[.val (.int M)], fs⟩) := by
  have r0 : O7 (a6 (dV 0) a7) ⟨[.val (.int M)], fs⟩ = some (U, ⟨[.val (.int M)], fs⟩) := by simp [O7, a6, dV, a7, rg]
  have cp : E9 [] [Sl.val (.int M)] = [] := rfl
  simp only [C7, r0, Option.bind_some, if_pos ul, cp, cm, Option.map_some]
 generalize C7 [] (O7 (a6 (dV 0) a7)) B0 (d0 (a6 (dOp i6 (dOp C2 (dL 0) (dC (.int 2))) (dOp v8 (dL 0) (dC (.int 2)))) (a6 (dOp C2 (dL 0) (dC (.int 2))) (a6 (dC (.int 1)) a7)))) = g at *
 simp [i3, dCB, one, a6, a7, i7, e, L6]
theorem b3U (m : Nat) (hm : m ≤ 10) (fs : Option FS) : ∃ ds, L4 [.int (m : Int)] fs = some (.tup ds, fs) ∧ (∀ d ∈ ds, Th 10 1 d) ∧ bks ds ≤ 40 := by
 have rg : K4 [.int (m : Int)] = some (ups 0 m) := R5 (by omega)
 have dk : F6 2 = true := by decide
 have cm := a0k (idx := []) (fe := d0 (a6 (dOp i6 (dOp C2 (dL 0) (dC (.int 2))) (dOp v8 (dL 0) (dC (.int 2)))) (a6 (dOp C2 (dL 0) (dC (.int 2))) (a6 (dC (.int 1)) a7)))) (g := stp) [] fs (ups 0 m) (by
  intro d hd
  obtain ⟨i, rfl, hi⟩ := a3C hm hd
  exact ⟨⟨[.val (.int (i : Int))], fs⟩, stx _ fs dk, rfl⟩)
 have ul : (ups 0 m).length ≤ sizeLine := by rw [M5, sizeLine_eq]; omega
 refine ⟨(ups 0 m).map stp, a99 _ _ fs rg ul cm, fun d hd => ?_, ?_⟩
 ·obtain ⟨x, hx, rfl⟩ := List.mem_map.mp hd
  obtain ⟨i, rfl, hi⟩ := a3C hm hx
  exact a8n hi
 ·rw [a6b _ (fun d hd => by
   obtain ⟨x, hx, rfl⟩ := List.mem_map.mp hd
   obtain ⟨i, rfl, hi⟩ := a3C hm hx
   exact a78 _), List.length_map, M5]
  omega
theorem t2v (b1 b2 b3 b4 b5 b6 b7 st rt : DFn) (ds : List D) (M : Int) (x0 x1 x2 x3 x4 x5 x6 x7 x8 x10 x11 x12 : Sl) (fs : Option FS) (e : st [.int M] fs = some (.tup ds, fs)) (r1 : rt [.tup [.bl false, .tup ds]] fs = some (.bl true, fs)) (r2 : rt [.tup [.bl true, .tup ds]] fs = some (.bl true, fs)) : W1 b7 rt st b1 b2 b3 b4 b5 b6 ⟨[x0, x1, x2, x3, x4, x5, x6, x7, x8, .val (.int M), x10, x11, x12], fs⟩ = some (.next, ⟨[x0, x1, x2, x3, x4, x5, x6, x7, x8, .val (.int M), x10, x11, x12], fs⟩) := by
 simp [W1, c5, m6, e8, dOp, dUn, dC, dL, dV, c6, i4, dB, i3, a9, a6, a7, d0, i5, dCB, one, i7, i8, dIf, k9, dOr, j8, l6, m9, m7, pIx, i6, k6, k0, j3, j5, l0, j9, l4, l5, dTr, m8, e, sz2, r1, r2]
theorem t2 (b1 b2 b3 b4 b5 b6 b7 : DFn) (m : Nat) (hm : m ≤ 10) (x0 x1 x2 x3 x4 x5 x6 x7 x8 x10 x11 x12 : Sl) (fs : Option FS) : W1 b7 LR5 L4 b1 b2 b3 b4 b5 b6 ⟨[x0, x1, x2, x3, x4, x5, x6, x7, x8, .val (.int (m : Int)), x10, x11, x12], fs⟩ = some (.next, ⟨[x0, x1, x2, x3, x4, x5, x6, x7, x8, .val (.int (m : Int)), x10, x11, x12], fs⟩) := by
 obtain ⟨ds, e, ht, hb⟩ := b3U m hm fs
 have th : ∀ c, Th 10 3 (.tup [.bl c, .tup ds]) := fun c => by
  unfold Th
  simp only [Ths, and_true]
  refine ⟨by unfold Th; trivial, ?_⟩
  unfold Th
  exact Ths.of ht
 have bb : ∀ c, bk (.tup [.bl c, .tup ds]) ≤ 8000 := fun c => by rw [D5, E1, E1, R0, D5, a01]; omega
 exact t2v b1 b2 b3 b4 b5 b6 b7 _ _ ds _ x0 x1 x2 x3 x4 x5 x6 x7 x8 x10 x11 x12 fs e (Z9 _ fs (th false) (by decide) (by decide) (bb false)) (Z9 _ fs (th true) (by decide) (by decide) (bb true))
noncomputable def C0 : D := .tup [.int 0, .int 0, .int 1]
noncomputable def D8 : D := .tup [.int 1, .int 0, .int 1]
noncomputable def G6 : List D := [.tup [.bl false, .lst [C0, D8]], .lst [.bl false, .tup [C0, D8]], .tup [.int 0, .tup [C0, D8]], .tup [.bl false, .tup [C0, C0]], .non, .tup [], .tup [.bl false]]
theorem th1 : Th 10 1 C0 ∧ Th 10 1 D8 := by
 have i : ∀ z : Int, z.natAbs < 8 → Bd 10 z := fun z h => M1 (by omega)
 have a0 := i 0 (by decide)
 have a1 := i 1 (by decide)
 constructor
 ·simp only [C0, Th, Ths, and_true]; exact ⟨a0, a0, a1⟩
 ·simp only [D8, Th, Ths, and_true]; exact ⟨a1, a0, a1⟩
theorem th3 (c : Bool) : Th 10 3 (.tup [.bl c, .tup [C0, D8, C0]]) := by
 unfold Th; simp only [Ths, and_true]; exact ⟨by unfold Th; trivial, by unfold Th; simp only [Ths, and_true]; exact ⟨th1.1, th1.2, th1.1⟩⟩
theorem b2c : ∀ d ∈ G6, Th 10 3 d ∧ bk d ≤ 20 ∧ B6 d = false := by
 obtain ⟨h1, h2⟩ := th1
 have i0 : Bd 10 0 := M1 (by decide)
 intro d hd
 simp only [G6, List.mem_cons, List.not_mem_nil, or_false] at hd
 rcases hd with rfl | rfl | rfl | rfl | rfl | rfl | rfl
 ·exact ⟨by unfold Th; simp only [Ths, and_true]; exact ⟨by unfold Th; trivial, by unfold Th; simp only [Ths, and_true]; exact ⟨h1, h2⟩⟩, by decide, rfl⟩
 ·exact ⟨by unfold Th; simp only [Ths, and_true]; exact ⟨by unfold Th; trivial, by unfold Th; simp only [Ths, and_true]; exact ⟨h1, h2⟩⟩, by decide, rfl⟩
 ·exact ⟨by unfold Th; simp only [Ths, and_true]; exact ⟨by unfold Th; exact i0, by unfold Th; simp only [Ths, and_true]; exact ⟨h1, h2⟩⟩, by decide, rfl⟩
 ·exact ⟨by unfold Th; simp only [Ths, and_true]; exact ⟨by unfold Th; trivial, by unfold Th; simp only [Ths, and_true]; exact ⟨h1, h1⟩⟩, by decide, by decide +kernel⟩
 ·exact ⟨by unfold Th; trivial, by decide, rfl⟩
 ·exact ⟨by unfold Th; simp only [Ths], by decide, rfl⟩
 ·exact ⟨by unfold Th; simp only [Ths, and_true]; unfold Th; trivial, by decide, rfl⟩
theorem t1v (b0 b1 b2 b3 b4 b5 b6 b7 b8 : DFn) (d : D) (x0 x1 x2 x3 x4 x5 x6 x8 x9 x10 x11 x12 : Sl) (fs : Option FS) (e : b0 [d] fs = some (.bl false, fs)) : Y9 b0 b1 b2 b3 b4 b5 b6 b7 b8 ⟨[x0, x1, x2, x3, x4, x5, x6, .val d, x8, x9, x10, x11, x12], fs⟩ = some (.next, ⟨[x0, x1, x2, x3, x4, x5, x6, .val d, x8, x9, x10, x11, x12], fs⟩) := by
 simp [Y9, c5, m6, e8, dOp, dUn, dC, dL, dV, c6, i4, dB, i3, a9, a6, a7, d0, i5, dCB, one, i7, i8, dIf, k9, dOr, j8, l6, m9, m7, pIx, i6, k6, k0, j3, j5, l0, j9, l4, l5, dTr, m8, e, Z2]
theorem b13 (b1 b2 b3 b4 b5 b6 b7 : DFn) (x0 x1 x2 x3 x4 x5 x6 x7 x8 x9 x10 x11 x12 : Sl) (fs : Option FS) :
  ∃ y9, w8 (c6 9) (W1 b7 LR5 L4 b1 b2 b3 b4 b5 b6) [.int 1, .int 2, .int 3, .int 8, .int 9, .int 10] ⟨[x0, x1, x2, x3, x4, x5, x6, x7, x8, x9, x10, x11, x12], fs⟩ = some (.next, ⟨[x0, x1, x2, x3, x4, x5, x6, x7, x8, y9, x10, x11, x12], fs⟩) := by
 obtain ⟨s', e, y9, rfl⟩ := W0 (t := c6 9) (b := W1 b7 LR5 L4 b1 b2 b3 b4 b5 b6) (fun _ s => ∃ y9, s = ⟨[x0, x1, x2, x3, x4, x5, x6, x7, x8, y9, x10, x11, x12], fs⟩) [.int 1, .int 2, .int 3, .int 8, .int 9, .int 10] 0 _ ⟨x9, rfl⟩ (by
  rintro i d s hd ⟨y9, rfl⟩
  have hm := List.mem_of_getElem? hd
  obtain ⟨m, hm', rfl⟩ : ∃ m : Nat, m ≤ 10 ∧ d = .int (m : Int) := by
   simp only [List.mem_cons, List.not_mem_nil, or_false] at hm
   rcases hm with rfl | rfl | rfl | rfl | rfl | rfl
   ·exact ⟨1, by decide, rfl⟩
   ·exact ⟨2, by decide, rfl⟩
   ·exact ⟨3, by decide, rfl⟩
   ·exact ⟨8, by decide, rfl⟩
   ·exact ⟨9, by decide, rfl⟩
   ·exact ⟨10, by decide, rfl⟩
  exact ⟨_, _, rfl, .inl (t2 b1 b2 b3 b4 b5 b6 b7 m hm' x0 x1 x2 x3 x4 x5 x6 x7 x8 x10 x11 x12 fs), _, rfl⟩)
 exact ⟨y9, e⟩
theorem b1S (b1 b2 b3 b4 b5 b6 b7 b8 : DFn) (x0 x1 x2 x3 x4 x5 x6 x7 x8 x9 x10 x11 x12 : Sl) (fs : Option FS) :
  ∃ y7, w8 (c6 7) (Y9 FLn b1 b2 b3 b4 b5 b6 b7 b8) G6 ⟨[x0, x1, x2, x3, x4, x5, x6, x7, x8, x9, x10, x11, x12], fs⟩ = some (.next, ⟨[x0, x1, x2, x3, x4, x5, x6, y7, x8, x9, x10, x11, x12], fs⟩) := by
 obtain ⟨s', e, y7, rfl⟩ := W0 (t := c6 7) (b := Y9 FLn b1 b2 b3 b4 b5 b6 b7 b8) (fun _ s => ∃ y7, s = ⟨[x0, x1, x2, x3, x4, x5, x6, y7, x8, x9, x10, x11, x12], fs⟩) G6 0 _ ⟨x7, rfl⟩ (by
  rintro i d s hd ⟨y7, rfl⟩
  obtain ⟨h1, h2, h3⟩ := b2c d (List.mem_of_getElem? hd)
  have pl := a0j d fs h1 (by decide) (by omega)
  rw [h3] at pl
  exact ⟨_, _, rfl, .inl (t1v FLn b1 b2 b3 b4 b5 b6 b7 b8 d x0 x1 x2 x3 x4 x5 x6 x8 x9 x10 x11 x12 fs pl), _, rfl⟩)
 exact ⟨y7, e⟩
theorem a8Z (b0 b1 b2 b3 b4 b5 b6 b7 b8 : DFn) (ns : List Int) (f' : FS) (x2 x3 x4 x5 x6 x7 x8 y7 y9 : Sl) (e0 : b8 [.scr ns] none = some (.feed, some ⟨ns, 0, 0, 0, 0⟩))
  (e1 : w8 (c6 2) (a0o b0 b1 b2 b3 b4 b5 b6 b7 b8) (ups 0 6) (S5 (.val (.scr ns)) .no .no .no .no .no .no .no ⟨ns, 0, 0, 0, 0⟩) = some (.next, S5 (.val (.scr ns)) x2 x3 x4 x5 x6 x7 x8 f'))
  (e2 : w8 (c6 9) (W1 b0 b1 b2 b3 b4 b5 b6 b7 b8) [.int 1, .int 2, .int 3, .int 8, .int 9, .int 10] (S5 (.val (.scr ns)) x2 x3 x4 x5 x6 x7 x8 f') = some (.next, ⟨[.val (.scr ns), .val .feed, x2, x3, x4, x5, x6, x7, x8, y9, .no, .no, .no], some f'⟩))
  (e3 : w8 (c6 7) (Y9 b0 b1 b2 b3 b4 b5 b6 b7 b8) G6 ⟨[.val (.scr ns), .val .feed, x2, x3, x4, x5, x6, x7, x8, y9, .val C0, .val D8, .val (.lst G6)], some f'⟩ = some (.next, ⟨[.val (.scr ns), .val .feed, x2, x3, x4, x5, x6, y7, x8, y9, .val C0, .val D8, .val (.lst G6)], some f'⟩))
  (p1 : b0 [.tup [.bl false, .tup [C0, D8, C0]]] (some f') = some (.bl true, some f')) (p2 : b0 [.tup [.bl true, .tup [C0, D8, C0]]] (some f') = some (.bl false, some f')) :
  a1i b0 b1 b2 b3 b4 b5 b6 b7 b8 [.scr ns] none = some (.bl true, some f') := by
 have r6 : K4 [.int 6] = some (ups 0 6) := R5 (n := 6) (by decide)
 have s3 : (3 : Nat) ≤ sizeLine := by decide
 have s6 : (6 : Nat) ≤ sizeLine := by decide
 have s7 : (7 : Nat) ≤ sizeLine := by decide
 have s1 : (1 : Nat) ≤ sizeLine := by decide
 refine u6 (s := ⟨[.val (.scr ns), .val .feed, x2, x3, x4, x5, x6, y7, x8, y9, .val C0, .val D8, .val (.lst G6)], some f'⟩) ?_
 show a2R _ _ _ _ _ _ _ _ _ ⟨[.val (.scr ns), .no, .no, .no, .no, .no, .no, .no, .no, .no, .no, .no, .no], none⟩ = _
 unfold a2R
 rw [o0 (s1 := S5 (.val (.scr ns)) .no .no .no .no .no .no .no ⟨ns, 0, 0, 0, 0⟩) (by unfold S5; simp [c5, m6, e8, dOp, dUn, dC, dL, dV, c6, i4, dB, i3, a9, a6, a7, d0, i5, dCB, one, i7, i8, dIf, k9, dOr, j8, l6, m9, m7, pIx, i6, k6, k0, j3, j5, l0, j9, l4, l5, dTr, m8, e0]),
  o0 (s1 := S5 (.val (.scr ns)) x2 x3 x4 x5 x6 x7 x8 f') (by rw [Y0 (xs := [.int 6]) rfl r6]; exact e1),
  o0 (s1 := ⟨[.val (.scr ns), .val .feed, x2, x3, x4, x5, x6, x7, x8, y9, .no, .no, .no], some f'⟩) (by rw [a4g (s1 := S5 (.val (.scr ns)) x2 x3 x4 x5 x6 x7 x8 f') (ds := [.int 1, .int 2, .int 3, .int 8, .int 9, .int 10]) (by simp [c5, m6, e8, dOp, dUn, dC, dL, dV, c6, i4, dB, i3, a9, a6, a7, d0, i5, dCB, one, i7, i8, dIf, k9, dOr, j8, l6, m9, m7, pIx, i6, k6, k0, j3, j5, l0, j9, l4, l5, dTr, m8, s6])]; exact e2),
  o0 (s1 := ⟨[.val (.scr ns), .val .feed, x2, x3, x4, x5, x6, x7, x8, y9, .val C0, .val D8, .no], some f'⟩) (by simp [c5, m6, e8, dOp, dUn, dC, dL, dV, c6, i4, dB, i3, a9, a6, a7, d0, i5, dCB, one, i7, i8, dIf, k9, dOr, j8, l6, m9, m7, pIx, i6, k6, k0, j3, j5, l0, j9, l4, l5, dTr, m8, s3, sz2, C0, D8]),
  o0 (s1 := ⟨[.val (.scr ns), .val .feed, x2, x3, x4, x5, x6, x7, x8, y9, .val C0, .val D8, .own G6], some f'⟩) (by simp [c5, m6, e8, dOp, dUn, dC, dL, dV, c6, i4, dB, i3, a9, a6, a7, d0, i5, dCB, one, i7, i8, dIf, k9, dOr, j8, l6, m9, m7, pIx, i6, k6, k0, j3, j5, l0, j9, l4, l5, dTr, m8, D0, s1, sz2, s7, G6]),
  o0 (s1 := ⟨[.val (.scr ns), .val .feed, x2, x3, x4, x5, x6, y7, x8, y9, .val C0, .val D8, .val (.lst G6)], some f'⟩) (by rw [a3N (s1 := ⟨[.val (.scr ns), .val .feed, x2, x3, x4, x5, x6, x7, x8, y9, .val C0, .val D8, .val (.lst G6)], some f'⟩) (ds := G6) (by simp [dV])]; exact e3)]
 generalize C0 = o1 at *
 generalize D8 = o2 at *
 generalize G6 = L at *
 refine D9 ?_
 simp [c5, m6, e8, dOp, dUn, dC, dL, dV, c6, i4, dB, i3, a9, a6, a7, d0, i5, dCB, one, i7, i8, dIf, k9, dOr, j8, l6, m9, m7, pIx, i6, k6, k0, j3, j5, l0, j9, l4, l5, dTr, m8, s3, sz2, p1, p2, a08]
theorem math (ns : List Int) (hl : ns.length ≤ 63) : ∃ fs', a1i FLn LR5 L4 (LBt 64) u9 LHw LPl LLn Q3 [.scr ns] none = some (.bl true, fs') := by
 obtain ⟨s', e, x2, x3, x4, x5, x6, x7, x8, f', rfl, hf⟩ := W0 (t := c6 2) (b := E3) (fun i s => ∃ x2 x3 x4 x5 x6 x7 x8 f, s = S5 (.val (.scr ns)) x2 x3 x4 x5 x6 x7 x8 f ∧ Fd (700 * i) f) (ups 0 6) 0
  (S5 (.val (.scr ns)) .no .no .no .no .no .no .no ⟨ns, 0, 0, 0, 0⟩) ⟨_, _, _, _, _, _, _, _, rfl, Fd.zero ns⟩ (by
   rintro i d s hd ⟨x2, x3, x4, x5, x6, x7, x8, f, rfl, hf⟩
   obtain ⟨rfl, hi⟩ := a0h hd
   rw [Int.zero_add]
   obtain ⟨y3, y4, y5, y6, y7, y8, f', e, h'⟩ := t3 i hf (by omega) (.val (.scr ns)) x3 x4 x5 x6 x7 x8
   exact ⟨_, _, rfl, .inl e, _, _, _, _, _, _, _, f', rfl, h'.mono (by omega)⟩)
 obtain ⟨y9, e2⟩ := b13 (LBt 64) u9 LHw LPl LLn Q3 FLn (.val (.scr ns)) (.val .feed) x2 x3 x4 x5 x6 x7 x8 .no .no .no .no (some f')
 obtain ⟨y7, e3⟩ := b1S LR5 L4 (LBt 64) u9 LHw LPl LLn Q3 (.val (.scr ns)) (.val .feed) x2 x3 x4 x5 x6 x7 x8 y9 (.val C0) (.val D8) (.val (.lst G6)) (some f')
 have p1 := a0j _ (some f') (th3 false) (by decide) (by decide)
 have p2 := a0j _ (some f') (th3 true) (by decide) (by decide)
 have v1 : B6 (.tup [.bl false, .tup [C0, D8, C0]]) = true := by decide +kernel
 have v2 : B6 (.tup [.bl true, .tup [C0, D8, C0]]) = false := by decide +kernel
 rw [v1] at p1
 rw [v2] at p2
 exact ⟨_, a8Z _ _ _ _ _ _ _ _ _ ns f' x2 x3 x4 x5 x6 x7 x8 y7 y9 (b1u ns hl) e e2 e3 p1 p2⟩
end T

namespace T
open PySem PySem.Spec L2 DL
noncomputable def top (i : Nat) : Stmt := PySem.Challenge.pw_widelines_k05_lines_of_any_thing.main.body.getD i (.Pass ⟨0, 0, 0, 0⟩)
noncomputable abbrev a3r : Stmt := top 20
theorem sc_law_feed : FnScope ["_law_script"] ["_law_script"] (t9 a3r) := ⟨rfl, rfl, rfl, by decide +kernel, rfl, by decide +kernel, by decide +kernel⟩
set_option maxHeartbeats 4000000 in
section
variable {P : Program} {w : World} {K : PySem.W.Frag} {mg : Str → Option Value} {base : Heap}
theorem a9w {f : Addr} {fd : FuncData} (B : Blt mg) (F : GF K mg "_law_feed" a3r f fd) : Cal P w K mg base 1 "_law_feed" ["_law_script"] (Q3) :=
 w9 F (fun _ _ _ _ _ _ => on1 fun _ => rfl) sc_law_feed fun cdv A outer s H E g hr =>
  have nd := sc_law_feed.nd
  (o6 (t0 (b3X (pv 0))))
noncomputable abbrev a2Q : Stmt := top 2
theorem sc_divisor_of_two : FnScope ["one", "other", "greater", "rest", "left_over"] ["one", "other"] (t9 a2Q) := ⟨rfl, rfl, rfl, by decide +kernel, rfl, by decide +kernel, by decide +kernel⟩
set_option maxHeartbeats 4000000 in
theorem b1r {f : Addr} {fd : FuncData} (B : Blt mg) (F : GF K mg "divisor_of_two" a2Q f fd) : Cal P w K mg base 1 "divisor_of_two" ["one", "other"] (J5) :=
 w9 F (fun _ _ _ _ _ _ => on2 fun _ _ => rfl) sc_divisor_of_two fun cdv A outer s H E g hr =>
  have nd := sc_divisor_of_two.nd
  (n8 (u4 (i := 2) nd rfl (by first | exact Or.inl rfl | exact Or.inr rfl) (C8 a1n a1t (by rfl) B.abs a1V (bc (c7 (pv 0)) A2))) (n8 (u4 (i := 3) nd rfl (by first | exact Or.inl rfl | exact Or.inr rfl) (C8 a1n a1t (by rfl) B.abs a1V (bc (c7 (pv 1)) A2))) (n8 (a6P PassesOwn.never (A7 (N4 (u64 hr)) O6 (c7 (pv 3)) (EO.b a8) (v0 _)) (n8 (u4 (i := 4) nd rfl (by first | exact Or.inl rfl | exact Or.inr rfl) (n9 K3 K2 (c7 (pv 2)) (c7 (pv 3)))) (n8 (u4 (i := 2) nd rfl (by first | exact Or.inl rfl | exact Or.inr rfl) (i9 (pv 3))) (o6 (u4 (i := 3) nd rfl (by first | exact Or.inl rfl | exact Or.inr rfl) (i9 (pv 4))))))) (o6 (t0 (i9 (pv 2)))))))
noncomputable abbrev a3T : Stmt := top 3
theorem sc_divisor : FnScope ["parts", "shared", "part"] ["parts"] (t9 a3T) := ⟨rfl, rfl, rfl, by decide +kernel, rfl, by decide +kernel, by decide +kernel⟩
set_option maxHeartbeats 4000000 in
theorem b00 {m_divisor_of_two : DFn} (C_divisor_of_two : Cal P w K mg base 1 "divisor_of_two" ["one", "other"] m_divisor_of_two) {f : Addr} {fd : FuncData} (B : Blt mg) (F : GF K mg "divisor" a3T f fd) : Cal P w K mg base 2 "divisor" ["parts"] (S8 m_divisor_of_two) :=
 w9 F (fun _ _ _ _ _ _ => on1 fun _ => rfl) sc_divisor fun cdv A outer s H E g hr =>
  have nd := sc_divisor.nd
  (n8 (u4 (i := 1) nd rfl (by first | exact Or.inl rfl | exact Or.inr rfl) a8) (n8 (Z8 PassesOwn.never rfl (i9 (pv 0)) (B9 (A3 (i := 2) nd rfl (by first | exact Or.inl rfl | exact Or.inr rfl))) (o6 (u4 (i := 1) nd rfl (by first | exact Or.inl rfl | exact Or.inr rfl) (l7 C_divisor_of_two _ hr (by decide) (by rfl) (ac (i9 (pv 1)) (ac (i9 (pv 2)) c8)) (c9 (c9 l8)))))) (o6 (t0 (i9 (pv 1))))))
noncomputable abbrev a3P : Stmt := top 1
theorem sc_is_whole : FnScope ["thing"] ["thing"] (t9 a3P) := ⟨rfl, rfl, rfl, by decide +kernel, rfl, by decide +kernel, by decide +kernel⟩
set_option maxHeartbeats 4000000 in
theorem a8t {f : Addr} {fd : FuncData} (B : Blt mg) (F : GF K mg "is_whole" a3P f fd) : Cal P w K mg base 1 "is_whole" ["thing"] (R9) :=
 w9 F (fun _ _ _ _ _ _ => on1 fun _ => rfl) sc_is_whole fun cdv A outer s H E g hr =>
  have nd := sc_is_whole.nd
  (o6 (t0 (O8 (F5 a2d (by rfl) B.isinstance (by rfl) B.int a0f (c7 (pv 0))) (T0 (a6B (F5 a0b (by rfl) B.isinstance (by rfl) B.bool a0G (c7 (pv 0))))))))
noncomputable abbrev a3v : Stmt := top 4
theorem sc_is_lowest : FnScope ["thing", "size"] ["thing", "size"] (t9 a3v) := ⟨rfl, rfl, rfl, by decide +kernel, rfl, by decide +kernel, by decide +kernel⟩
set_option maxHeartbeats 4000000 in
theorem b21 {m_divisor : DFn} {m_is_whole : DFn} (C_divisor : Cal P w K mg base 2 "divisor" ["parts"] m_divisor) (C_is_whole : Cal P w K mg base 1 "is_whole" ["thing"] m_is_whole) {f : Addr} {fd : FuncData} (B : Blt mg) (F : GF K mg "is_lowest" a3v f fd) : Cal P w K mg base 3 "is_lowest" ["thing", "size"] (a1I m_divisor m_is_whole) :=
 w9 F (fun _ _ _ _ _ _ => on2 fun _ _ => rfl) sc_is_lowest fun cdv A outer s H E g hr =>
  have nd := sc_is_lowest.nd
  (n8 (A1 (WO.t (K6 (F2 (B2 (EO.b (F5 S9 (by rfl) B.isinstance (by rfl) B.tuple K5 (c7 (pv 0)))))) (M0 (A7 (N4 (u64 hr)) O6 (EO.b (C8 J4 K0 (by rfl) B.len J9 (bc (c7 (pv 0)) A2))) (c7 (pv 1)) (v0 _))))) (o6 (t0 w4)) A0) (n8 (A1 (F2 (B2 (EO.b (C8 (a37 rfl) a4f (by rfl) B.all a2H (bc (EO.b (FO.v (U6 (N' := ["part"]) (idx := []) rfl (V6 (by rfl) .nil (by decide +kernel) rfl (by decide +kernel) (by rfl) .nil) (X9 (i9 (pv 0))) (fun _ _ _ _ => A3 (i := 0) (show List.Nodup (["part"] : List Str) by decide +kernel) rfl (Or.inl rfl)) (fun _ _ _ _ _ => T1) (fun _ _ _ _ _ => (l7 C_is_whole _ hr (by decide) (by rfl) (ac (i9 (pv 0)) c8) (c9 l8)))))) A2))))) (o6 (t0 w4)) A0) (o6 (t0 (O8 (F3 a4j (D6 (fun i j => decide (j ≤ i))) (EO.b (j4 j6 j7 (c7 (pv 0)) (EO.b (M2 M3 L9 (EO.b a8))) (fun _ _ => rfl))) (EO.b a8) (v0 _)) (T0 (F3 (G1 (u64 hr)) F9 (EO.b (l7 C_divisor _ hr (by decide) (by rfl) (ac (i9 (pv 0)) c8) (c9 l8))) (EO.b a8) (v0 _))))))))
noncomputable abbrev a2z : Stmt := top 6
theorem sc_is_place : FnScope ["thing"] ["thing"] (t9 a2z) := ⟨rfl, rfl, rfl, by decide +kernel, rfl, by decide +kernel, by decide +kernel⟩
set_option maxHeartbeats 4000000 in
theorem b0S {m_is_lowest : DFn} (C_is_lowest : Cal P w K mg base 3 "is_lowest" ["thing", "size"] m_is_lowest) {f : Addr} {fd : FuncData} (B : Blt mg) (F : GF K mg "is_place" a2z f fd) : Cal P w K mg base 4 "is_place" ["thing"] (a05 m_is_lowest) :=
 w9 F (fun _ _ _ _ _ _ => on1 fun _ => rfl) sc_is_place fun cdv A outer s H E g hr =>
  have nd := sc_is_place.nd
  (o6 (t0 (l7 C_is_lowest _ hr (by decide) (by rfl) (ac (i9 (pv 0)) (ac a8 c8)) (c9 (c9 l8)))))
noncomputable abbrev a2B : Stmt := top 15
theorem sc_are_places : FnScope ["thing", "fewest", "most"] ["thing"] (t9 a2B) := ⟨rfl, rfl, rfl, by decide +kernel, rfl, by decide +kernel, by decide +kernel⟩
set_option maxHeartbeats 4000000 in
theorem b0C {m_is_place : DFn} (C_is_place : Cal P w K mg base 4 "is_place" ["thing"] m_is_place) {f : Addr} {fd : FuncData} (B : Blt mg) (F : GF K mg "are_places" a2B f fd) : Cal P w K mg base 5 "are_places" ["thing"] (a1R m_is_place) :=
 w9 F (fun _ _ _ _ _ _ => on1 fun _ => rfl) sc_are_places fun cdv A outer s H E g hr =>
  have nd := sc_are_places.nd
  (n8 (A1 (F2 (B2 (EO.b (F5 S9 (by rfl) B.isinstance (by rfl) B.tuple K5 (EO.b (j4 j6 j7 (c7 (pv 0)) (EO.b a8) (fun _ _ => rfl))))))) (o6 (t0 w4)) A0) (n8 (u4 (i := 1) nd rfl (by first | exact Or.inl rfl | exact Or.inr rfl) (a0a (B2 (EO.b (j4 j6 j7 (c7 (pv 0)) (EO.b a8) (fun _ _ => rfl)))) a8 a8)) (n8 (u4 (i := 2) nd rfl (by first | exact Or.inl rfl | exact Or.inr rfl) (a0a (B2 (EO.b (j4 j6 j7 (c7 (pv 0)) (EO.b a8) (fun _ _ => rfl)))) a8 a8)) (n8 (A1 (WO.t (K6 (A7 X7 (D6 (fun i j => decide (i < j))) (EO.b (C8 J4 K0 (by rfl) B.len J9 (bc (EO.b (j4 j6 j7 (c7 (pv 0)) (EO.b a8) (fun _ _ => rfl))) A2))) (c7 (pv 1)) (v0 _)) (M0 (A7 Q9 (D6 (fun i j => decide (j < i))) (EO.b (C8 J4 K0 (by rfl) B.len J9 (bc (EO.b (j4 j6 j7 (c7 (pv 0)) (EO.b a8) (fun _ _ => rfl))) A2))) (c7 (pv 2)) (v0 _))))) (o6 (t0 w4)) A0) (o6 (t0 (C8 (a37 rfl) a4f (by rfl) B.all a2H (bc (EO.b (FO.v (U6 (N' := ["one"]) (idx := []) rfl (V6 (by rfl) .nil (by decide +kernel) rfl (by decide +kernel) (by rfl) .nil) (X9 (j4 j6 j7 (c7 (pv 0)) (EO.b a8) (fun _ _ => rfl))) (fun _ _ _ _ => A3 (i := 0) (show List.Nodup (["one"] : List Str) by decide +kernel) rfl (Or.inl rfl)) (fun _ _ _ _ _ => T1) (fun _ _ _ _ _ => (l7 C_is_place _ hr (by decide) (by rfl) (ac (i9 (pv 0)) c8) (c9 l8)))))) A2))))))))
noncomputable abbrev a4i : Stmt := top 11
theorem sc_neighbours : FnScope ["row", "closed"] ["row", "closed"] (t9 a4i) := ⟨rfl, rfl, rfl, by decide +kernel, rfl, by decide +kernel, by decide +kernel⟩
set_option maxHeartbeats 4000000 in
theorem a8g {f : Addr} {fd : FuncData} (B : Blt mg) (F : GF K mg "neighbours" a4i f fd) : Cal P w K mg base 1 "neighbours" ["row", "closed"] (G3) :=
 w9 F (fun _ _ _ _ _ _ => on2 fun _ _ => rfl) sc_neighbours fun cdv A outer s H E g hr =>
  have nd := sc_neighbours.nd
  (n8 (A1 (B2 (c7 (pv 1))) (o6 (t0 (FO.v (a6E rfl (by rfl) B.list (by rfl) B.zip (bc (c7 (pv 0)) (bc (EO.b (n9 C6 C3 (EO.b (N6 (c7 (pv 0)) (N5 (EO.b a8)) N0)) (EO.b (N6 (c7 (pv 0)) N0 (N5 (EO.b a8)))))) A2)))))) A0) (o6 (t0 (FO.v (a6E rfl (by rfl) B.list (by rfl) B.zip (bc (c7 (pv 0)) (bc (EO.b (N6 (c7 (pv 0)) (N5 (EO.b a8)) N0)) A2)))))))
noncomputable abbrev a2n : Stmt := top 18
theorem sc_pieces : FnScope ["line"] ["line"] (t9 a2n) := ⟨rfl, rfl, rfl, by decide +kernel, rfl, by decide +kernel, by decide +kernel⟩
set_option maxHeartbeats 4000000 in
theorem b17 {m_neighbours : DFn} (C_neighbours : Cal P w K mg base 1 "neighbours" ["row", "closed"] m_neighbours) {f : Addr} {fd : FuncData} (B : Blt mg) (F : GF K mg "pieces" a2n f fd) : Cal P w K mg base 2 "pieces" ["line"] (X2 m_neighbours) :=
 w9 F (fun _ _ _ _ _ _ => on1 fun _ => rfl) sc_pieces fun cdv A outer s H E g hr =>
  have nd := sc_pieces.nd
  (o6 (t0 (T2 a0O a0B (by rfl) B.tuple K5 (bc (EO.b (l7 C_neighbours _ hr (by decide) (by rfl) (ac (j4 j6 j7 (c7 (pv 0)) (EO.b a8) (fun _ _ => rfl)) (ac (j4 j6 j7 (c7 (pv 0)) (EO.b a8) (fun _ _ => rfl)) c8)) (c9 (c9 l8)))) A2))))
noncomputable abbrev a3a : Stmt := top 16
theorem sc_goes_somewhere : FnScope ["line"] ["line"] (t9 a3a) := ⟨rfl, rfl, rfl, by decide +kernel, rfl, by decide +kernel, by decide +kernel⟩
set_option maxHeartbeats 4000000 in
theorem b1F {m_pieces : DFn} (C_pieces : Cal P w K mg base 2 "pieces" ["line"] m_pieces) {f : Addr} {fd : FuncData} (B : Blt mg) (F : GF K mg "goes_somewhere" a3a f fd) : Cal P w K mg base 3 "goes_somewhere" ["line"] (a1o m_pieces) :=
 w9 F (fun _ _ _ _ _ _ => on1 fun _ => rfl) sc_goes_somewhere fun cdv A outer s H E g hr =>
  have nd := sc_goes_somewhere.nd
  (o6 (t0 (C8 (a37 rfl) a4f (by rfl) B.all a2H (bc (EO.b (FO.v (b2p (caps := []) (idx := []) rfl (a90 (by rfl) .nil (by decide +kernel) rfl (by decide +kernel) (by rfl) .nil) (X9 (l7 C_pieces _ hr (by decide) (by rfl) (ac (i9 (pv 0)) c8) (c9 l8))) (show List.Nodup (["a", "b"] : List Str) by decide +kernel) (fun _ _ _ _ => rfl) (fun _ _ _ _ => rfl) (fun _ _ _ _ _ => T1) (fun _ _ _ _ _ => (F3 (N4 (u64 hr)) O6 (c7 (pv 0)) (c7 (pv 1)) (v0 _)))))) A2))))
noncomputable abbrev a2q : Stmt := top 8
theorem sc_sign : FnScope ["number"] ["number"] (t9 a2q) := ⟨rfl, rfl, rfl, by decide +kernel, rfl, by decide +kernel, by decide +kernel⟩
set_option maxHeartbeats 4000000 in
theorem a92 {f : Addr} {fd : FuncData} (B : Blt mg) (F : GF K mg "sign" a2q f fd) : Cal P w K mg base 1 "sign" ["number"] (Y1) :=
 w9 F (fun _ _ _ _ _ _ => on1 fun _ => rfl) sc_sign fun cdv A outer s H E g hr =>
  have nd := sc_sign.nd
  (n8 (A1 (A7 Q9 (D6 (fun i j => decide (j < i))) (c7 (pv 0)) (EO.b a8) (v0 _)) (o6 (t0 a8)) A0) (n8 (A1 (A7 X7 (D6 (fun i j => decide (i < j))) (c7 (pv 0)) (EO.b a8) (v0 _)) (o6 (t0 (M2 M3 L9 (EO.b a8)))) A0) (o6 (t0 a8))))
noncomputable abbrev a10 : Stmt := top 9
theorem sc_turn : FnScope ["a", "b", "c", "spread"] ["a", "b", "c"] (t9 a10) := ⟨rfl, rfl, rfl, by decide +kernel, rfl, by decide +kernel, by decide +kernel⟩
set_option maxHeartbeats 4000000 in
theorem a8A {m_sign : DFn} (C_sign : Cal P w K mg base 1 "sign" ["number"] m_sign) {f : Addr} {fd : FuncData} (B : Blt mg) (F : GF K mg "turn" a10 f fd) : Cal P w K mg base 2 "turn" ["a", "b", "c"] (a1d m_sign) :=
 w9 F (fun _ _ _ _ _ _ => on3 fun _ _ _ => rfl) sc_turn fun cdv A outer s H E g hr =>
  have nd := sc_turn.nd
  (n8 (u4 (i := 3) nd rfl (by first | exact Or.inl rfl | exact Or.inr rfl) (n9 v5 v4 (EO.b (j4 j6 j7 (c7 (pv 0)) (EO.b a8) (fun _ _ => rfl))) (EO.b (n9 G8 J0 (EO.b (n9 v5 v4 (EO.b (j4 j6 j7 (c7 (pv 1)) (EO.b a8) (fun _ _ => rfl))) (EO.b (j4 j6 j7 (c7 (pv 2)) (EO.b a8) (fun _ _ => rfl))))) (EO.b (n9 v5 v4 (EO.b (j4 j6 j7 (c7 (pv 2)) (EO.b a8) (fun _ _ => rfl))) (EO.b (j4 j6 j7 (c7 (pv 1)) (EO.b a8) (fun _ _ => rfl))))))))) (n8 (u4 (i := 3) nd rfl (by first | exact Or.inl rfl | exact Or.inr rfl) (n9 G8 J0 (c7 (pv 3)) (EO.b (n9 v5 v4 (EO.b (j4 j6 j7 (c7 (pv 0)) (EO.b a8) (fun _ _ => rfl))) (EO.b (n9 G8 J0 (EO.b (n9 v5 v4 (EO.b (j4 j6 j7 (c7 (pv 1)) (EO.b a8) (fun _ _ => rfl))) (EO.b (j4 j6 j7 (c7 (pv 2)) (EO.b a8) (fun _ _ => rfl))))) (EO.b (n9 v5 v4 (EO.b (j4 j6 j7 (c7 (pv 2)) (EO.b a8) (fun _ _ => rfl))) (EO.b (j4 j6 j7 (c7 (pv 1)) (EO.b a8) (fun _ _ => rfl))))))))))) (n8 (u4 (i := 3) nd rfl (by first | exact Or.inl rfl | exact Or.inr rfl) (n9 C6 C3 (c7 (pv 3)) (EO.b (n9 v5 v4 (EO.b (j4 j6 j7 (c7 (pv 0)) (EO.b a8) (fun _ _ => rfl))) (EO.b (n9 G8 J0 (EO.b (n9 v5 v4 (EO.b (j4 j6 j7 (c7 (pv 1)) (EO.b a8) (fun _ _ => rfl))) (EO.b (j4 j6 j7 (c7 (pv 2)) (EO.b a8) (fun _ _ => rfl))))) (EO.b (n9 v5 v4 (EO.b (j4 j6 j7 (c7 (pv 2)) (EO.b a8) (fun _ _ => rfl))) (EO.b (j4 j6 j7 (c7 (pv 1)) (EO.b a8) (fun _ _ => rfl))))))))))) (o6 (t0 (l7 C_sign _ hr (by decide) (by rfl) (ac (i9 (pv 3)) c8) (c9 l8)))))))
noncomputable abbrev a2D : Stmt := top 7
theorem sc_is_lesser : FnScope ["one", "other", "here", "there"] ["one", "other"] (t9 a2D) := ⟨rfl, rfl, rfl, by decide +kernel, rfl, by decide +kernel, by decide +kernel⟩
set_option maxHeartbeats 4000000 in
theorem b2X {f : Addr} {fd : FuncData} (B : Blt mg) (F : GF K mg "is_lesser" a2D f fd) : Cal P w K mg base 1 "is_lesser" ["one", "other"] (X5) :=
 w9 F (fun _ _ _ _ _ _ => on2 fun _ _ => rfl) sc_is_lesser fun cdv A outer s H E g hr =>
  have nd := sc_is_lesser.nd
  (n8 (u4 (i := 2) nd rfl (by first | exact Or.inl rfl | exact Or.inr rfl) (n9 v5 v4 (EO.b (j4 j6 j7 (c7 (pv 0)) (EO.b a8) (fun _ _ => rfl))) (EO.b (j4 j6 j7 (c7 (pv 1)) (EO.b a8) (fun _ _ => rfl))))) (n8 (u4 (i := 3) nd rfl (by first | exact Or.inl rfl | exact Or.inr rfl) (n9 v5 v4 (EO.b (j4 j6 j7 (c7 (pv 1)) (EO.b a8) (fun _ _ => rfl))) (EO.b (j4 j6 j7 (c7 (pv 0)) (EO.b a8) (fun _ _ => rfl))))) (n8 (A1 (A7 (N4 (u64 hr)) O6 (c7 (pv 2)) (c7 (pv 3)) (v0 _)) (o6 (t0 (F3 X7 (D6 (fun i j => decide (i < j))) (c7 (pv 2)) (c7 (pv 3)) (v0 _)))) A0) (o6 (t0 (F3 X7 (D6 (fun i j => decide (i < j))) (EO.b (n9 v5 v4 (EO.b (j4 j6 j7 (c7 (pv 0)) (EO.b a8) (fun _ _ => rfl))) (EO.b (j4 j6 j7 (c7 (pv 1)) (EO.b a8) (fun _ _ => rfl))))) (EO.b (n9 v5 v4 (EO.b (j4 j6 j7 (c7 (pv 1)) (EO.b a8) (fun _ _ => rfl))) (EO.b (j4 j6 j7 (c7 (pv 0)) (EO.b a8) (fun _ _ => rfl))))) (v0 _)))))))
noncomputable abbrev a2V : Stmt := top 12
theorem sc_goes_on : FnScope ["a", "b", "c"] ["a", "b", "c"] (t9 a2V) := ⟨rfl, rfl, rfl, by decide +kernel, rfl, by decide +kernel, by decide +kernel⟩
set_option maxHeartbeats 4000000 in
theorem a9v {m_is_lesser : DFn} {m_turn : DFn} (C_is_lesser : Cal P w K mg base 1 "is_lesser" ["one", "other"] m_is_lesser) (C_turn : Cal P w K mg base 2 "turn" ["a", "b", "c"] m_turn) {f : Addr} {fd : FuncData} (B : Blt mg) (F : GF K mg "goes_on" a2V f fd) : Cal P w K mg base 3 "goes_on" ["a", "b", "c"] (a1v m_is_lesser m_turn) :=
 w9 F (fun _ _ _ _ _ _ => on3 fun _ _ _ => rfl) sc_goes_on fun cdv A outer s H E g hr =>
  have nd := sc_goes_on.nd
  (o6 (t0 (O8 (F3 (G1 (u64 hr)) F9 (EO.b (l7 C_turn _ hr (by decide) (by rfl) (ac (i9 (pv 0)) (ac (i9 (pv 1)) (ac (i9 (pv 2)) c8))) (c9 (c9 (c9 l8))))) (EO.b a8) (v0 _)) (T0 (F3 (G1 (u64 hr)) F9 (EO.b (l7 C_is_lesser _ hr (by decide) (by rfl) (ac (i9 (pv 0)) (ac (i9 (pv 1)) c8)) (c9 (c9 l8)))) (EO.b (l7 C_is_lesser _ hr (by decide) (by rfl) (ac (i9 (pv 1)) (ac (i9 (pv 2)) c8)) (c9 (c9 l8)))) (v0 _))))))
noncomputable abbrev a3H : Stmt := top 17
theorem sc_turns_everywhere : FnScope ["line", "one", "other"] ["line"] (t9 a3H) := ⟨rfl, rfl, rfl, by decide +kernel, rfl, by decide +kernel, by decide +kernel⟩
set_option maxHeartbeats 4000000 in
theorem b3F {m_goes_on : DFn} {m_neighbours : DFn} {m_pieces : DFn} (C_goes_on : Cal P w K mg base 3 "goes_on" ["a", "b", "c"] m_goes_on) (C_neighbours : Cal P w K mg base 1 "neighbours" ["row", "closed"] m_neighbours) (C_pieces : Cal P w K mg base 2 "pieces" ["line"] m_pieces) {f : Addr} {fd : FuncData} (B : Blt mg) (F : GF K mg "turns_everywhere" a3H f fd) : Cal P w K mg base 4 "turns_everywhere" ["line"] (a1z m_goes_on m_neighbours m_pieces) :=
 w9 F (fun _ _ _ _ _ _ => on1 fun _ => rfl) sc_turns_everywhere fun cdv A outer s H E g hr =>
  have nd := sc_turns_everywhere.nd
  (n8 (Z8 PassesOwn.never rfl (l7 C_neighbours _ hr (by decide) (by rfl) (ac (l7 C_pieces _ hr (by decide) (by rfl) (ac (i9 (pv 0)) c8) (c9 l8)) (ac (j4 j6 j7 (c7 (pv 0)) (EO.b a8) (fun _ _ => rfl)) c8)) (c9 (c9 l8))) (R6 rfl (F4 (B9 (A3 (i := 1) nd rfl (by first | exact Or.inl rfl | exact Or.inr rfl))) (F4 (B9 (A3 (i := 2) nd rfl (by first | exact Or.inl rfl | exact Or.inr rfl))) T8))) (o6 (A1 (B2 (EO.b (l7 C_goes_on _ hr (by decide) (by rfl) (ac (j4 j6 j7 (c7 (pv 1)) (EO.b a8) (fun _ _ => rfl)) (ac (j4 j6 j7 (c7 (pv 1)) (EO.b a8) (fun _ _ => rfl)) (ac (j4 j6 j7 (c7 (pv 2)) (EO.b a8) (fun _ _ => rfl)) c8))) (c9 (c9 (c9 l8)))))) (o6 (t0 w4)) A0))) (o6 (t0 w4)))
noncomputable abbrev a2K : Stmt := top 14
theorem sc_is_line : FnScope ["thing"] ["thing"] (t9 a2K) := ⟨rfl, rfl, rfl, by decide +kernel, rfl, by decide +kernel, by decide +kernel⟩
set_option maxHeartbeats 4000000 in
theorem b0o {m_turns_everywhere : DFn} {m_goes_somewhere : DFn} {m_are_places : DFn} (C_turns_everywhere : Cal P w K mg base 4 "turns_everywhere" ["line"] m_turns_everywhere) (C_goes_somewhere : Cal P w K mg base 3 "goes_somewhere" ["line"] m_goes_somewhere) (C_are_places : Cal P w K mg base 5 "are_places" ["thing"] m_are_places) {f : Addr} {fd : FuncData} (B : Blt mg) (F : GF K mg "is_line" a2K f fd) : Cal P w K mg base 6 "is_line" ["thing"] (a0Z m_turns_everywhere m_goes_somewhere m_are_places) :=
 w9 F (fun _ _ _ _ _ _ => on1 fun _ => rfl) sc_is_line fun cdv A outer s H E g hr =>
  have nd := sc_is_line.nd
  (n8 (A1 (WO.t (K6 (F2 (B2 (EO.b (F5 S9 (by rfl) B.isinstance (by rfl) B.tuple K5 (c7 (pv 0)))))) (K6 (A7 (N4 (u64 hr)) O6 (EO.b (C8 J4 K0 (by rfl) B.len J9 (bc (c7 (pv 0)) A2))) (EO.b a8) (v0 _)) (M0 (F2 (B2 (EO.b (F5 a0b (by rfl) B.isinstance (by rfl) B.bool a0G (EO.b (j4 j6 j7 (c7 (pv 0)) (EO.b a8) (fun _ _ => rfl))))))))))) (o6 (t0 w4)) A0) (o6 (t0 (O8 (l7 C_are_places _ hr (by decide) (by rfl) (ac (i9 (pv 0)) c8) (c9 l8)) (O8 (l7 C_goes_somewhere _ hr (by decide) (by rfl) (ac (i9 (pv 0)) c8) (c9 l8)) (T0 (l7 C_turns_everywhere _ hr (by decide) (by rfl) (ac (i9 (pv 0)) c8) (c9 l8))))))))
noncomputable abbrev a26 : Stmt := top 42
theorem sc_law_ways : FnScope ["_law_line_here", "_law_found", "_law_some", "_law_k", "_law_one", "_law_other"] ["_law_line_here"] (t9 a26) := ⟨rfl, rfl, rfl, by decide +kernel, rfl, by decide +kernel, by decide +kernel⟩
set_option maxHeartbeats 4000000 in
theorem a8B {f : Addr} {fd : FuncData} (B : Blt mg) (F : GF K mg "_law_ways" a26 f fd) : Cal P w K mg base 1 "_law_ways" ["_law_line_here"] (V7) :=
 w9 F (fun _ _ _ _ _ _ => on1 fun _ => rfl) sc_law_ways fun cdv A outer s H E g hr =>
  have nd := sc_law_ways.nd
  (n8 (M7 (i := 1) nd rfl (by first | exact Or.inl rfl | exact Or.inr rfl) (B8 c8)) (n8 (u4 (i := 2) nd rfl (by first | exact Or.inl rfl | exact Or.inr rfl) (j4 j6 j7 (c7 (pv 0)) (EO.b a8) (fun _ _ => rfl))) (n8 (W5 PassesOwn.never rfl (by rfl) B.range (n9 C6 C3 (EO.b (n9 G8 J0 (EO.b (C8 J4 K0 (by rfl) B.len J9 (bc (c7 (pv 2)) A2))) (EO.b a8))) (EO.b (T2 a5R a66 (by rfl) B.int a0f (bc (EO.b (j4 j6 j7 (c7 (pv 0)) (EO.b a8) (fun _ _ => rfl))) A2)))) (B9 (A3 (i := 3) nd rfl (by first | exact Or.inl rfl | exact Or.inr rfl))) (n8 (Y7 (i := 4) (j := 5) rfl nd rfl rfl (by decide) rfl rfl (ac (j4 j6 j7 (c7 (pv 2)) (c7 (pv 3)) (fun _ _ => rfl)) (ac (j4 j6 j7 (c7 (pv 2)) (EO.b (n9 K3 K2 (EO.b (n9 C6 C3 (c7 (pv 3)) (EO.b a8))) (EO.b (C8 J4 K0 (by rfl) B.len J9 (bc (c7 (pv 2)) A2))))) (fun _ _ => rfl)) c8)) rfl) (o6 (a3z (pv 1) (t7 (ac (n9 G8 J0 (EO.b (n9 v5 v4 (EO.b (j4 j6 j7 (c7 (pv 5)) (EO.b a8) (fun _ _ => rfl))) (EO.b (j4 j6 j7 (c7 (pv 4)) (EO.b a8) (fun _ _ => rfl))))) (EO.b (n9 v5 v4 (EO.b (j4 j6 j7 (c7 (pv 4)) (EO.b a8) (fun _ _ => rfl))) (EO.b (j4 j6 j7 (c7 (pv 5)) (EO.b a8) (fun _ _ => rfl)))))) (ac (n9 G8 J0 (EO.b (n9 v5 v4 (EO.b (j4 j6 j7 (c7 (pv 5)) (EO.b a8) (fun _ _ => rfl))) (EO.b (j4 j6 j7 (c7 (pv 4)) (EO.b a8) (fun _ _ => rfl))))) (EO.b (n9 v5 v4 (EO.b (j4 j6 j7 (c7 (pv 4)) (EO.b a8) (fun _ _ => rfl))) (EO.b (j4 j6 j7 (c7 (pv 5)) (EO.b a8) (fun _ _ => rfl)))))) c8))))))) (o6 (t0 (i9 (pv 1)))))))
noncomputable abbrev a31 : Stmt := top 22
theorem sc_law_fraction : FnScope ["_law_top", "_law_bottom", "_law_one", "_law_other"] ["_law_top", "_law_bottom"] (t9 a31) := ⟨rfl, rfl, rfl, by decide +kernel, rfl, by decide +kernel, by decide +kernel⟩
set_option maxHeartbeats 4000000 in
theorem a98 {f : Addr} {fd : FuncData} (B : Blt mg) (F : GF K mg "_law_fraction" a31 f fd) : Cal P w K mg base 1 "_law_fraction" ["_law_top", "_law_bottom"] (B5) :=
 w9 F (fun _ _ _ _ _ _ => on2 fun _ _ => rfl) sc_law_fraction fun cdv A outer s H E g hr =>
  have nd := sc_law_fraction.nd
  (n8 (u4 (i := 2) nd rfl (by first | exact Or.inl rfl | exact Or.inr rfl) (C8 a1n a1t (by rfl) B.abs a1V (bc (c7 (pv 0)) A2))) (n8 (u4 (i := 3) nd rfl (by first | exact Or.inl rfl | exact Or.inr rfl) (C8 a1n a1t (by rfl) B.abs a1V (bc (c7 (pv 1)) A2))) (n8 (a6P PassesOwn.never (A7 Q9 (D6 (fun i j => decide (j < i))) (c7 (pv 3)) (EO.b a8) (v0 _)) (o6 (Y7 (i := 2) (j := 3) rfl nd rfl rfl (by decide) rfl rfl (ac (i9 (pv 3)) (ac (n9 K3 K2 (c7 (pv 2)) (c7 (pv 3))) c8)) rfl))) (n8 (A1 (A7 X7 (D6 (fun i j => decide (i < j))) (c7 (pv 1)) (EO.b a8) (v0 _)) (o6 (u4 (i := 2) nd rfl (by first | exact Or.inl rfl | exact Or.inr rfl) (n9 G8 J0 (EO.b a8) (c7 (pv 2))))) A0) (o6 (t0 (t7 (ac (n9 N2 M6 (c7 (pv 0)) (c7 (pv 2))) (ac (n9 N2 M6 (c7 (pv 1)) (c7 (pv 2))) c8)))))))))
noncomputable abbrev a3k : Stmt := top 26
theorem sc_law_at : FnScope ["_law_x", "_law_y", "_law_bottom", "_law_top", "_law_other", "_law_part_of_both"] ["_law_x", "_law_y"] (t9 a3k) := ⟨rfl, rfl, rfl, by decide +kernel, rfl, by decide +kernel, by decide +kernel⟩
set_option maxHeartbeats 4000000 in
theorem a9V {m_law_fraction : DFn} (C_law_fraction : Cal P w K mg base 1 "_law_fraction" ["_law_top", "_law_bottom"] m_law_fraction) {f : Addr} {fd : FuncData} (B : Blt mg) (F : GF K mg "_law_at" a3k f fd) : Cal P w K mg base 2 "_law_at" ["_law_x", "_law_y"] (Q0 m_law_fraction) :=
 w9 F (fun _ _ _ _ _ _ => on2 fun _ _ => rfl) sc_law_at fun cdv A outer s H E g hr =>
  have nd := sc_law_at.nd
  (n8 (u4 (i := 2) nd rfl (by first | exact Or.inl rfl | exact Or.inr rfl) (n9 v5 v4 (EO.b (j4 j6 j7 (c7 (pv 0)) (EO.b a8) (fun _ _ => rfl))) (EO.b (j4 j6 j7 (c7 (pv 1)) (EO.b a8) (fun _ _ => rfl))))) (n8 (u4 (i := 3) nd rfl (by first | exact Or.inl rfl | exact Or.inr rfl) (l7 C_law_fraction _ hr (by decide) (by rfl) (ac (n9 v5 v4 (EO.b (j4 j6 j7 (c7 (pv 0)) (EO.b a8) (fun _ _ => rfl))) (EO.b (j4 j6 j7 (c7 (pv 1)) (EO.b a8) (fun _ _ => rfl)))) (ac (i9 (pv 2)) c8)) (c9 (c9 l8)))) (n8 (u4 (i := 4) nd rfl (by first | exact Or.inl rfl | exact Or.inr rfl) (l7 C_law_fraction _ hr (by decide) (by rfl) (ac (n9 v5 v4 (EO.b (j4 j6 j7 (c7 (pv 1)) (EO.b a8) (fun _ _ => rfl))) (EO.b (j4 j6 j7 (c7 (pv 0)) (EO.b a8) (fun _ _ => rfl)))) (ac (i9 (pv 2)) c8)) (c9 (c9 l8)))) (n8 (u4 (i := 5) nd rfl (by first | exact Or.inl rfl | exact Or.inr rfl) (l7 C_law_fraction _ hr (by decide) (by rfl) (ac (j4 j6 j7 (c7 (pv 3)) (EO.b a8) (fun _ _ => rfl)) (ac (j4 j6 j7 (c7 (pv 4)) (EO.b a8) (fun _ _ => rfl)) c8)) (c9 (c9 l8)))) (n8 (u4 (i := 2) nd rfl (by first | exact Or.inl rfl | exact Or.inr rfl) (n9 v5 v4 (EO.b (j4 j6 j7 (c7 (pv 3)) (EO.b a8) (fun _ _ => rfl))) (EO.b (j4 j6 j7 (c7 (pv 5)) (EO.b a8) (fun _ _ => rfl))))) (o6 (t0 (t7 (ac (n9 v5 v4 (EO.b (j4 j6 j7 (c7 (pv 3)) (EO.b a8) (fun _ _ => rfl))) (EO.b (n9 N2 M6 (c7 (pv 2)) (EO.b (j4 j6 j7 (c7 (pv 3)) (EO.b a8) (fun _ _ => rfl)))))) (ac (n9 v5 v4 (EO.b (j4 j6 j7 (c7 (pv 4)) (EO.b a8) (fun _ _ => rfl))) (EO.b (n9 N2 M6 (c7 (pv 2)) (EO.b (j4 j6 j7 (c7 (pv 4)) (EO.b a8) (fun _ _ => rfl)))))) (ac (i9 (pv 2)) c8)))))))))))
noncomputable abbrev a2M : Stmt := top 41
theorem sc_law_is_place : FnScope ["_law_thing", "_law_one"] ["_law_thing"] (t9 a2M) := ⟨rfl, rfl, rfl, by decide +kernel, rfl, by decide +kernel, by decide +kernel⟩
set_option maxHeartbeats 4000000 in
theorem a9Y {m_law_at : DFn} {m_law_fraction : DFn} (C_law_at : Cal P w K mg base 2 "_law_at" ["_law_x", "_law_y"] m_law_at) (C_law_fraction : Cal P w K mg base 1 "_law_fraction" ["_law_top", "_law_bottom"] m_law_fraction) {f : Addr} {fd : FuncData} (B : Blt mg) (F : GF K mg "_law_is_place" a2M f fd) : Cal P w K mg base 3 "_law_is_place" ["_law_thing"] (a2L m_law_at m_law_fraction) :=
 w9 F (fun _ _ _ _ _ _ => on1 fun _ => rfl) sc_law_is_place fun cdv A outer s H E g hr =>
  have nd := sc_law_is_place.nd
  (n8 (A1 (WO.t (K6 (F2 (B2 (EO.b (F5 S9 (by rfl) B.isinstance (by rfl) B.tuple K5 (c7 (pv 0)))))) (M0 (A7 (N4 (u64 hr)) O6 (EO.b (C8 J4 K0 (by rfl) B.len J9 (bc (c7 (pv 0)) A2))) (EO.b a8) (v0 _))))) (o6 (t0 w4)) A0) (n8 (Z8 PassesOwn.never rfl (i9 (pv 0)) (B9 (A3 (i := 1) nd rfl (by first | exact Or.inl rfl | exact Or.inr rfl))) (o6 (A1 (WO.t (K6 (F2 (B2 (EO.b (F5 a2d (by rfl) B.isinstance (by rfl) B.int a0f (c7 (pv 1)))))) (M0 (B2 (EO.b (F5 a0b (by rfl) B.isinstance (by rfl) B.bool a0G (c7 (pv 1)))))))) (o6 (t0 w4)) A0))) (n8 (A1 (A7 X7 (D6 (fun i j => decide (i < j))) (EO.b (j4 j6 j7 (c7 (pv 0)) (EO.b a8) (fun _ _ => rfl))) (EO.b a8) (v0 _)) (o6 (t0 w4)) A0) (o6 (t0 (F3 (G1 (u64 hr)) F9 (EO.b (l7 C_law_at _ hr (by decide) (by rfl) (ac (l7 C_law_fraction _ hr (by decide) (by rfl) (ac (j4 j6 j7 (c7 (pv 0)) (EO.b a8) (fun _ _ => rfl)) (ac (j4 j6 j7 (c7 (pv 0)) (EO.b a8) (fun _ _ => rfl)) c8)) (c9 (c9 l8))) (ac (l7 C_law_fraction _ hr (by decide) (by rfl) (ac (j4 j6 j7 (c7 (pv 0)) (EO.b a8) (fun _ _ => rfl)) (ac (j4 j6 j7 (c7 (pv 0)) (EO.b a8) (fun _ _ => rfl)) c8)) (c9 (c9 l8))) c8)) (c9 (c9 l8)))) (c7 (pv 0)) (v0 _)))))))
noncomputable abbrev a13 : Stmt := top 43
theorem sc_law_due : FnScope ["_law_thing", "_law_least", "_law_most", "_law_ways_here", "_law_k", "_law_one", "_law_other", "_law_straight"] ["_law_thing"] (t9 a13) := ⟨rfl, rfl, rfl, by decide +kernel, rfl, by decide +kernel, by decide +kernel⟩
set_option maxHeartbeats 4000000 in
theorem a8W {m_law_ways : DFn} {m_law_is_place : DFn} (C_law_ways : Cal P w K mg base 1 "_law_ways" ["_law_line_here"] m_law_ways) (C_law_is_place : Cal P w K mg base 3 "_law_is_place" ["_law_thing"] m_law_is_place) {f : Addr} {fd : FuncData} (B : Blt mg) (F : GF K mg "_law_due" a13 f fd) : Cal P w K mg base 4 "_law_due" ["_law_thing"] (a2P m_law_ways m_law_is_place) :=
 w9 F (fun _ _ _ _ _ _ => on1 fun _ => rfl) sc_law_due fun cdv A outer s H E g hr =>
  have nd := sc_law_due.nd
  (n8 (A1 (WO.t (K6 (F2 (B2 (EO.b (F5 S9 (by rfl) B.isinstance (by rfl) B.tuple K5 (c7 (pv 0)))))) (K6 (A7 (N4 (u64 hr)) O6 (EO.b (C8 J4 K0 (by rfl) B.len J9 (bc (c7 (pv 0)) A2))) (EO.b a8) (v0 _)) (M0 (F2 (B2 (EO.b (F5 a0b (by rfl) B.isinstance (by rfl) B.bool a0G (EO.b (j4 j6 j7 (c7 (pv 0)) (EO.b a8) (fun _ _ => rfl))))))))))) (o6 (t0 w4)) A0) (n8 (U7 (a0a (B2 (EO.b (j4 j6 j7 (c7 (pv 0)) (EO.b a8) (fun _ _ => rfl)))) (t7 (ac a8 (ac a8 c8))) (t7 (ac a8 (ac a8 c8)))) (R6 rfl (F4 (B9 (A3 (i := 1) nd rfl (by first | exact Or.inl rfl | exact Or.inr rfl))) (F4 (B9 (A3 (i := 2) nd rfl (by first | exact Or.inl rfl | exact Or.inr rfl))) T8)))) (n8 (A1 (WO.t (K6 (F2 (B2 (EO.b (F5 S9 (by rfl) B.isinstance (by rfl) B.tuple K5 (EO.b (j4 j6 j7 (c7 (pv 0)) (EO.b a8) (fun _ _ => rfl))))))) (M0 (F2 (a80 a2A (D6 (fun i j => decide (i ≤ j))) a2A (D6 (fun i j => decide (i ≤ j))) (c7 (pv 1)) (EO.b (C8 J4 K0 (by rfl) B.len J9 (bc (EO.b (j4 j6 j7 (c7 (pv 0)) (EO.b a8) (fun _ _ => rfl))) A2))) (c7 (pv 2))))))) (o6 (t0 w4)) A0) (n8 (A1 (A7 (a8v (u64 hr)) a8i (EO.b w4) (EO.b (FO.v (U6 (N' := ["_law_one"]) (idx := []) rfl (V6 (by rfl) .nil (by decide +kernel) rfl (by decide +kernel) (by rfl) .nil) (X9 (j4 j6 j7 (c7 (pv 0)) (EO.b a8) (fun _ _ => rfl))) (fun _ _ _ _ => A3 (i := 0) (show List.Nodup (["_law_one"] : List Str) by decide +kernel) rfl (Or.inl rfl)) (fun _ _ _ _ _ => T1) (fun _ _ _ _ _ => (l7 C_law_is_place _ hr (by decide) (by rfl) (ac (i9 (pv 0)) c8) (c9 l8)))))) (by rfl)) (o6 (t0 w4)) A0) (n8 (u4 (i := 3) nd rfl (by first | exact Or.inl rfl | exact Or.inr rfl) (l7 C_law_ways _ hr (by decide) (by rfl) (ac (i9 (pv 0)) c8) (c9 l8))) (n8 (W5 PassesOwn.never rfl (by rfl) B.range (C8 J4 K0 (by rfl) B.len J9 (bc (c7 (pv 3)) A2)) (B9 (A3 (i := 4) nd rfl (by first | exact Or.inl rfl | exact Or.inr rfl))) (n8 (Y7 (i := 5) (j := 6) rfl nd rfl rfl (by decide) rfl rfl (ac (j4 j6 j7 (c7 (pv 3)) (EO.b (n9 G8 J0 (c7 (pv 4)) (EO.b a8))) (fun _ _ => rfl)) (ac (j4 j6 j7 (c7 (pv 3)) (c7 (pv 4)) (fun _ _ => rfl)) c8)) rfl) (n8 (A1 (A7 (G1 (u64 hr)) F9 (c7 (pv 6)) (EO.b (t7 (ac a8 (ac a8 c8)))) (v0 _)) (o6 (t0 w4)) A0) (n8 (u4 (i := 7) nd rfl (by first | exact Or.inl rfl | exact Or.inr rfl) (O8 (F3 (G1 (u64 hr)) F9 (EO.b (n9 v5 v4 (EO.b (j4 j6 j7 (c7 (pv 5)) (EO.b a8) (fun _ _ => rfl))) (EO.b (j4 j6 j7 (c7 (pv 6)) (EO.b a8) (fun _ _ => rfl))))) (EO.b (n9 v5 v4 (EO.b (j4 j6 j7 (c7 (pv 5)) (EO.b a8) (fun _ _ => rfl))) (EO.b (j4 j6 j7 (c7 (pv 6)) (EO.b a8) (fun _ _ => rfl))))) (v0 _)) (T0 (F3 Q9 (D6 (fun i j => decide (j < i))) (EO.b (n9 C6 C3 (EO.b (n9 v5 v4 (EO.b (j4 j6 j7 (c7 (pv 5)) (EO.b a8) (fun _ _ => rfl))) (EO.b (j4 j6 j7 (c7 (pv 6)) (EO.b a8) (fun _ _ => rfl))))) (EO.b (n9 v5 v4 (EO.b (j4 j6 j7 (c7 (pv 5)) (EO.b a8) (fun _ _ => rfl))) (EO.b (j4 j6 j7 (c7 (pv 6)) (EO.b a8) (fun _ _ => rfl))))))) (EO.b a8) (v0 _))))) (o6 (A1 (WO.t (X0 (WO.t (K6 (A7 Q9 (D6 (fun i j => decide (j < i))) (c7 (pv 4)) (EO.b a8) (v0 _)) (M0 (B2 (EO.b (j4 j6 j7 (c7 (pv 0)) (EO.b a8) (fun _ _ => rfl))))))) (a0c (B2 (c7 (pv 7)))))) (o6 (t0 w4)) A0)))))) (o6 (t0 w4))))))))
noncomputable abbrev a2c : Stmt := top 44
theorem sc_law_right : FnScope ["_law_thing", "_law_kept"] ["_law_thing"] (t9 a2c) := ⟨rfl, rfl, rfl, by decide +kernel, rfl, by decide +kernel, by decide +kernel⟩
set_option maxHeartbeats 4000000 in
theorem b22 {m_is_line : DFn} {m_law_due : DFn} (C_is_line : Cal P w K mg base 6 "is_line" ["thing"] m_is_line) (C_law_due : Cal P w K mg base 4 "_law_due" ["_law_thing"] m_law_due) {f : Addr} {fd : FuncData} (B : Blt mg) (F : GF K mg "_law_right" a2c f fd) : Cal P w K mg base 7 "_law_right" ["_law_thing"] (a3E m_is_line m_law_due) :=
 w9 F (fun _ _ _ _ _ _ => on1 fun _ => rfl) sc_law_right fun cdv A outer s H E g hr =>
  have nd := sc_law_right.nd
  (n8 (u4 (i := 1) nd rfl (by first | exact Or.inl rfl | exact Or.inr rfl) (C8 (a1L (u66 hr) hr.gd) a0S (by rfl) B.repr a07 (bc (c7 (pv 0)) A2))) (o6 (t0 (O8 (F3 (G1 (u64 hr)) F9 (EO.b (C8 (a1L (u66 hr) hr.gd) a0S (by rfl) B.repr a07 (bc (EO.b (l7 C_is_line _ hr (by decide) (by rfl) (ac (i9 (pv 0)) c8) (c9 l8))) A2))) (EO.b (C8 (a1L (u66 hr) hr.gd) a0S (by rfl) B.repr a07 (bc (EO.b (l7 C_law_due _ hr (by decide) (by rfl) (ac (i9 (pv 0)) c8) (c9 l8))) A2))) (v0 _)) (T0 (F3 (G1 (u64 hr)) F9 (EO.b (C8 (a1L (u66 hr) hr.gd) a0S (by rfl) B.repr a07 (bc (c7 (pv 0)) A2))) (c7 (pv 1)) (v0 _)))))))
noncomputable abbrev a21 : Stmt := top 21
theorem sc_law_draw : FnScope ["_law_feed_here", "_law_many", "_law_count", "_law_digit", "_law_cells", "_law_cell", "_law_mixed"] ["_law_feed_here", "_law_many"] (t9 a21) := ⟨rfl, rfl, rfl, by decide +kernel, rfl, by decide +kernel, by decide +kernel⟩
set_option maxHeartbeats 4000000 in
theorem b2t {f : Addr} {fd : FuncData} (B : Blt mg) (F : GF K mg "_law_draw" a21 f fd) : Cal P w K mg base 1 "_law_draw" ["_law_feed_here", "_law_many"] (u9) :=
 w9 F (fun _ _ _ _ _ _ => on2 fun _ _ => rfl) sc_law_draw fun cdv A outer s H E g hr =>
  have nd := sc_law_draw.nd
  (n8 (u4 (i := 2) nd rfl (by first | exact Or.inl rfl | exact Or.inr rfl) (n9 C6 C3 (EO.b (U0 (L8 hr) (pv 0))) (EO.b a8))) (n8 (a1D (L8 hr) (pv 0) (i9 (pv 2))) (n8 (A1 (A7 Q9 (D6 (fun i j => decide (j < i))) (EO.b (U0 (L8 hr) (pv 0))) (EO.b a8) (v0 _)) (n8 (u4 (i := 3) nd rfl (by first | exact Or.inl rfl | exact Or.inr rfl) (n9 K3 K2 (EO.b (U0 (L8 hr) (pv 0))) (c7 (pv 1)))) (n8 (a1D (L8 hr) (pv 0) (n9 N2 M6 (EO.b (U0 (L8 hr) (pv 0))) (c7 (pv 1)))) (o6 (t0 (i9 (pv 3)))))) A0) (n8 (u4 (i := 4) nd rfl (by first | exact Or.inl rfl | exact Or.inr rfl) (U0 (L8 hr) (pv 0))) (n8 (u4 (i := 5) nd rfl (by first | exact Or.inl rfl | exact Or.inr rfl) (a0a (A7 Q9 (D6 (fun i j => decide (j < i))) (EO.b (C8 J4 K0 (by rfl) B.len J9 (bc (c7 (pv 4)) A2))) (EO.b a8) (v0 _)) (j4 j6 j7 (c7 (pv 4)) (EO.b (n9 K3 K2 (EO.b (U0 (L8 hr) (pv 0))) (EO.b (C8 J4 K0 (by rfl) B.len J9 (bc (c7 (pv 4)) A2))))) (fun _ _ => rfl)) a8)) (n8 (a1D (L8 hr) (pv 0) (n9 C6 C3 (EO.b (U0 (L8 hr) (pv 0))) (EO.b a8))) (n8 (A1 (WO.t (X0 (A7 a4j (D6 (fun i j => decide (j ≤ i))) (c7 (pv 5)) (EO.b (n9 a6W a50 (EO.b a8) (EO.b a8))) (v0 _)) (a0c (A7 a2A (D6 (fun i j => decide (i ≤ j))) (EO.b (U0 (L8 hr) (pv 0))) (EO.b (C8 J4 K0 (by rfl) B.len J9 (bc (c7 (pv 4)) A2))) (v0 _))))) (n8 (a1D (L8 hr) (pv 0) (n9 N2 M6 (c7 (pv 5)) (c7 (pv 1)))) (o6 (t0 (n9 K3 K2 (c7 (pv 5)) (c7 (pv 1)))))) A0) (n8 (u4 (i := 6) nd rfl (by first | exact Or.inl rfl | exact Or.inr rfl) (n9 K3 K2 (EO.b (n9 v5 v4 (EO.b (n9 C6 C3 (EO.b (n9 C6 C3 (EO.b (n9 C6 C3 (EO.b (n9 K3 K2 (c7 (pv 5)) (EO.b a8))) (EO.b (n9 v5 v4 (EO.b (n9 v5 v4 (EO.b a8) (c7 (pv 2)))) (c7 (pv 2)))))) (EO.b (n9 v5 v4 (EO.b a8) (c7 (pv 2)))))) (EO.b a8))) (EO.b a8))) (EO.b a8))) (n8 (u4 (i := 6) nd rfl (by first | exact Or.inl rfl | exact Or.inr rfl) (n9 K3 K2 (EO.b (n9 C6 C3 (EO.b (n9 v5 v4 (EO.b (n9 N2 M6 (c7 (pv 6)) (EO.b a8))) (EO.b a8))) (EO.b (n9 v5 v4 (EO.b a8) (c7 (pv 2)))))) (EO.b a8))) (o6 (t0 (n9 K3 K2 (EO.b (n9 N2 M6 (c7 (pv 6)) (EO.b a8))) (c7 (pv 1))))))))))))))
noncomputable abbrev a3Y : Stmt := top 39
theorem sc_law_odd : FnScope ["_law_feed_here", "_law_some"] ["_law_feed_here"] (t9 a3Y) := ⟨rfl, rfl, rfl, by decide +kernel, rfl, by decide +kernel, by decide +kernel⟩
set_option maxHeartbeats 4000000 in
theorem b01 {m_law_draw : DFn} (C_law_draw : Cal P w K mg base 1 "_law_draw" ["_law_feed_here", "_law_many"] m_law_draw) {f : Addr} {fd : FuncData} (B : Blt mg) (F : GF K mg "_law_odd" a3Y f fd) : Cal P w K mg base 2 "_law_odd" ["_law_feed_here"] (a36 m_law_draw) :=
 w9 F (fun _ _ _ _ _ _ => on1 fun _ => rfl) sc_law_odd fun cdv A outer s H E g hr =>
  have nd := sc_law_odd.nd
  (n8 (M7 (i := 1) nd rfl (by first | exact Or.inl rfl | exact Or.inr rfl) (B8 (ac a69 (ac w4 (ac w4 (ac (M2 M3 L9 (EO.b a8)) (ac a8 (ac a8 (ac a8 (ac a8 (ac (n9 a6W a50 (EO.b a8) (EO.b a8)) (ac (K7 (by decide +kernel)) (ac (K7 (by decide +kernel)) (ac (K7 (by decide +kernel)) (ac (K7 (by decide +kernel)) (ac (K7 (by decide +kernel)) (ac (t7 c8) (ac (FO.v (B8 c8)) c8)))))))))))))))))) (o6 (t0 (j4 j6 j7 (EO.b (FO.v (a58 a3g a7i (c7 (pv 1)) (EO.b (FO.v (B8 (ac (FO.v (B8 (ac a8 (ac a8 c8)))) (ac (t7 (ac a8 (ac a8 c8))) (ac (t7 (ac a8 (ac a8 (ac a8 c8)))) c8))))))))) (EO.b (l7 C_law_draw _ hr (by decide) (by rfl) (ac (i9 (pv 0)) (ac a8 c8)) (c9 (c9 l8)))) (fun _ _ => rfl)))))
noncomputable abbrev a2W : Stmt := top 40
theorem sc_law_bent : FnScope ["_law_feed_here", "_law_thing", "_law_at_here", "_law_some"] ["_law_feed_here", "_law_thing"] (t9 a2W) := ⟨rfl, rfl, rfl, by decide +kernel, rfl, by decide +kernel, by decide +kernel⟩
set_option maxHeartbeats 4000000 in
theorem a6K {m_law_odd : DFn} {m_law_draw : DFn} (C_law_odd : Cal P w K mg base 2 "_law_odd" ["_law_feed_here"] m_law_odd) (C_law_draw : Cal P w K mg base 1 "_law_draw" ["_law_feed_here", "_law_many"] m_law_draw) {f : Addr} {fd : FuncData} (B : Blt mg) (F : GF K mg "_law_bent" a2W f fd) : ∀ n : Nat, Cal P w K mg base (2 + n) "_law_bent" ["_law_feed_here", "_law_thing"] (a0U m_law_odd m_law_draw n)
 | 0 => ⟨f, fd, b3G, F.m, F.F.kp, F.F.binds (fun _ _ _ _ _ _ => on2 fun _ _ => rfl)⟩
 | n + 1 =>
  have C_law_bent := a6K C_law_odd C_law_draw B F n
  w9 F (fun _ _ _ _ _ _ => on2 fun _ _ => rfl) sc_law_bent fun cdv A outer s H E g hr =>
  have nd := sc_law_bent.nd
  (n8 (A1 (WO.t (X0 (B2 (EO.b (F5 S9 (by rfl) B.isinstance (by rfl) B.tuple K5 (c7 (pv 1))))) (X0 (A7 (N4 (u64 hr)) O6 (c7 (pv 1)) (EO.b (t7 c8)) (v0 _)) (a0c (A7 Q9 (D6 (fun i j => decide (j < i))) (EO.b (l7 C_law_draw _ hr (Nat.le_trans (by decide) (Nat.le_add_right 2 _)) (by rfl) (ac (i9 (pv 0)) (ac a8 c8)) (c9 (c9 l8)))) (EO.b a8) (v0 _)))))) (n8 (u4 (i := 2) nd rfl (by first | exact Or.inl rfl | exact Or.inr rfl) (l7 C_law_draw _ hr (Nat.le_trans (by decide) (Nat.le_add_right 2 _)) (by rfl) (ac (i9 (pv 0)) (ac (C8 J4 K0 (by rfl) B.len J9 (bc (c7 (pv 1)) A2)) c8)) (c9 (c9 l8)))) (o6 (t0 (n9 C6 C3 (EO.b (n9 C6 C3 (EO.b (N6 (c7 (pv 1)) N0 (N5 (c7 (pv 2))))) (EO.b (t7 (ac (l7 C_law_bent _ hr (Nat.le_refl _) (by rfl) (ac (i9 (pv 0)) (ac (j4 j6 j7 (c7 (pv 1)) (c7 (pv 2)) (fun _ _ => rfl)) c8)) (c9 (c9 l8))) c8))))) (EO.b (N6 (c7 (pv 1)) (N5 (EO.b (n9 C6 C3 (c7 (pv 2)) (EO.b a8)))) N0)))))) A0) (n8 (A1 (B2 (EO.b (F5 S9 (by rfl) B.isinstance (by rfl) B.tuple K5 (c7 (pv 1))))) (n8 (M7 (i := 3) nd rfl (by first | exact Or.inl rfl | exact Or.inr rfl) (B8 (ac (FO.v (a7y a8f b3M (by rfl) B.list b0Q (bc (c7 (pv 1)) A2))) (ac (N6 (c7 (pv 1)) (N5 (EO.b a8)) N0) (ac (n9 C6 C3 (c7 (pv 1)) (EO.b (N6 (c7 (pv 1)) (N5 (EO.b (M2 M3 L9 (EO.b a8)))) N0))) (ac (b14 (c7 (pv 1)) (EO.b (M2 M3 L9 (EO.b a8)))) (ac (n9 C6 C3 (c7 (pv 1)) (EO.b (t7 (ac a8 c8)))) (ac (t7 c8) (ac (t7 (ac (i9 (pv 1)) c8)) (ac (l7 C_law_odd _ hr (Nat.le_trans (by decide) (Nat.le_add_right 2 _)) (by rfl) (ac (i9 (pv 0)) c8) (c9 l8)) c8)))))))))) (o6 (t0 (j4 j6 j7 (c7 (pv 3)) (EO.b (l7 C_law_draw _ hr (Nat.le_trans (by decide) (Nat.le_add_right 2 _)) (by rfl) (ac (i9 (pv 0)) (ac a8 c8)) (c9 (c9 l8)))) (fun _ _ => rfl))))) A0) (n8 (A1 (B2 (EO.b (F5 a0b (by rfl) B.isinstance (by rfl) B.bool a0G (c7 (pv 1))))) (o6 (t0 (j4 j6 j7 (EO.b (FO.v (B8 (ac (a6B (i9 (pv 1))) (ac (T2 a5R a66 (by rfl) B.int a0f (bc (c7 (pv 1)) A2)) (ac (l7 C_law_odd _ hr (Nat.le_trans (by decide) (Nat.le_add_right 2 _)) (by rfl) (ac (i9 (pv 0)) c8) (c9 l8)) c8)))))) (EO.b (l7 C_law_draw _ hr (Nat.le_trans (by decide) (Nat.le_add_right 2 _)) (by rfl) (ac (i9 (pv 0)) (ac a8 c8)) (c9 (c9 l8)))) (fun _ _ => rfl)))) A0) (n8 (A1 (B2 (EO.b (F5 a2d (by rfl) B.isinstance (by rfl) B.int a0f (c7 (pv 1))))) (n8 (M7 (i := 3) nd rfl (by first | exact Or.inl rfl | exact Or.inr rfl) (B8 (ac (n9 C6 C3 (c7 (pv 1)) (EO.b a8)) (ac (n9 G8 J0 (c7 (pv 1)) (EO.b a8)) (ac (n9 v5 v4 (EO.b a8) (c7 (pv 1))) (ac (M2 M3 L9 (c7 (pv 1))) (ac (F3 (G1 (u64 hr)) F9 (c7 (pv 1)) (EO.b a8) (v0 _)) (ac (T2 a9m a7x (by rfl) B.str a4F (bc (c7 (pv 1)) A2)) (ac a8 (ac (l7 C_law_odd _ hr (Nat.le_trans (by decide) (Nat.le_add_right 2 _)) (by rfl) (ac (i9 (pv 0)) c8) (c9 l8)) c8)))))))))) (o6 (t0 (j4 j6 j7 (c7 (pv 3)) (EO.b (l7 C_law_draw _ hr (Nat.le_trans (by decide) (Nat.le_add_right 2 _)) (by rfl) (ac (i9 (pv 0)) (ac a8 c8)) (c9 (c9 l8)))) (fun _ _ => rfl))))) A0) (n8 (A1 (B2 (EO.b (F5 b0U (by rfl) B.isinstance (by rfl) B.str a4F (c7 (pv 1))))) (n8 (M7 (i := 3) nd rfl (by first | exact Or.inl rfl | exact Or.inr rfl) (B8 (ac (K7 (by decide +kernel)) (ac (K7 (by decide +kernel)) (ac (K7 (by decide +kernel)) (ac (K7 (by decide +kernel)) (ac (K7 (by decide +kernel)) (ac (K7 (by decide +kernel)) (ac (K7 (by decide +kernel)) (ac (n9 C6 C3 (c7 (pv 1)) (EO.b (K7 (by decide +kernel)))) (ac (a9t (c7 (pv 1))) c8))))))))))) (o6 (t0 (j4 j6 j7 (EO.b (FO.v (a58 a3g a7i (c7 (pv 3)) (EO.b (FO.v (B8 (ac (l7 C_law_odd _ hr (Nat.le_trans (by decide) (Nat.le_add_right 2 _)) (by rfl) (ac (i9 (pv 0)) c8) (c9 l8)) c8))))))) (EO.b (l7 C_law_draw _ hr (Nat.le_trans (by decide) (Nat.le_add_right 2 _)) (by rfl) (ac (i9 (pv 0)) (ac a8 c8)) (c9 (c9 l8)))) (fun _ _ => rfl))))) A0) (o6 (t0 (l7 C_law_odd _ hr (Nat.le_trans (by decide) (Nat.le_add_right 2 _)) (by rfl) (ac (i9 (pv 0)) c8) (c9 l8)))))))))
noncomputable abbrev a3f : Stmt := top 24
theorem sc_law_product : FnScope ["_law_one", "_law_other"] ["_law_one", "_law_other"] (t9 a3f) := ⟨rfl, rfl, rfl, by decide +kernel, rfl, by decide +kernel, by decide +kernel⟩
set_option maxHeartbeats 4000000 in
theorem b2h {m_law_fraction : DFn} (C_law_fraction : Cal P w K mg base 1 "_law_fraction" ["_law_top", "_law_bottom"] m_law_fraction) {f : Addr} {fd : FuncData} (B : Blt mg) (F : GF K mg "_law_product" a3f f fd) : Cal P w K mg base 2 "_law_product" ["_law_one", "_law_other"] (U4 m_law_fraction) :=
 w9 F (fun _ _ _ _ _ _ => on2 fun _ _ => rfl) sc_law_product fun cdv A outer s H E g hr =>
  have nd := sc_law_product.nd
  (o6 (t0 (l7 C_law_fraction _ hr (by decide) (by rfl) (ac (n9 v5 v4 (EO.b (j4 j6 j7 (c7 (pv 0)) (EO.b a8) (fun _ _ => rfl))) (EO.b (j4 j6 j7 (c7 (pv 1)) (EO.b a8) (fun _ _ => rfl)))) (ac (n9 v5 v4 (EO.b (j4 j6 j7 (c7 (pv 0)) (EO.b a8) (fun _ _ => rfl))) (EO.b (j4 j6 j7 (c7 (pv 1)) (EO.b a8) (fun _ _ => rfl)))) c8)) (c9 (c9 l8)))))
noncomputable abbrev a33 : Stmt := top 33
theorem sc_law_way : FnScope ["_law_feed_here", "_law_p", "_law_q", "_law_h", "_law_share"] ["_law_feed_here"] (t9 a33) := ⟨rfl, rfl, rfl, by decide +kernel, rfl, by decide +kernel, by decide +kernel⟩
set_option maxHeartbeats 4000000 in
theorem a9C {m_law_product : DFn} {m_law_fraction : DFn} {m_law_draw : DFn} (C_law_product : Cal P w K mg base 2 "_law_product" ["_law_one", "_law_other"] m_law_product) (C_law_fraction : Cal P w K mg base 1 "_law_fraction" ["_law_top", "_law_bottom"] m_law_fraction) (C_law_draw : Cal P w K mg base 1 "_law_draw" ["_law_feed_here", "_law_many"] m_law_draw) {f : Addr} {fd : FuncData} (B : Blt mg) (F : GF K mg "_law_way" a33 f fd) : Cal P w K mg base 3 "_law_way" ["_law_feed_here"] (a0i m_law_product m_law_fraction m_law_draw) :=
 w9 F (fun _ _ _ _ _ _ => on1 fun _ => rfl) sc_law_way fun cdv A outer s H E g hr =>
  have nd := sc_law_way.nd
  (n8 (U7 (j4 j6 j7 (EO.b (FO.v (B8 (ac (t7 (ac a8 (ac a8 (ac a8 c8)))) (ac (t7 (ac a8 (ac a8 (ac a8 c8)))) (ac (t7 (ac a8 (ac a8 (ac a8 c8)))) (ac (t7 (ac a8 (ac a8 (ac a8 c8)))) (ac (t7 (ac a8 (ac a8 (ac a8 c8)))) (ac (t7 (ac a8 (ac a8 (ac a8 c8)))) c8))))))))) (EO.b (l7 C_law_draw _ hr (by decide) (by rfl) (ac (i9 (pv 0)) (ac a8 c8)) (c9 (c9 l8)))) (fun _ _ => rfl)) (R6 rfl (F4 (B9 (A3 (i := 1) nd rfl (by first | exact Or.inl rfl | exact Or.inr rfl))) (F4 (B9 (A3 (i := 2) nd rfl (by first | exact Or.inl rfl | exact Or.inr rfl))) (F4 (B9 (A3 (i := 3) nd rfl (by first | exact Or.inl rfl | exact Or.inr rfl))) T8))))) (n8 (A1 (A7 (G1 (u64 hr)) F9 (EO.b (l7 C_law_draw _ hr (by decide) (by rfl) (ac (i9 (pv 0)) (ac a8 c8)) (c9 (c9 l8)))) (EO.b a8) (v0 _)) (o6 (Y7 (i := 1) (j := 2) rfl nd rfl rfl (by decide) rfl rfl (ac (i9 (pv 2)) (ac (i9 (pv 1)) c8)) rfl)) A0) (n8 (u4 (i := 1) nd rfl (by first | exact Or.inl rfl | exact Or.inr rfl) (n9 v5 v4 (c7 (pv 1)) (EO.b (n9 G8 J0 (EO.b a8) (EO.b (n9 v5 v4 (EO.b a8) (EO.b (l7 C_law_draw _ hr (by decide) (by rfl) (ac (i9 (pv 0)) (ac a8 c8)) (c9 (c9 l8)))))))))) (n8 (u4 (i := 2) nd rfl (by first | exact Or.inl rfl | exact Or.inr rfl) (n9 v5 v4 (c7 (pv 2)) (EO.b (n9 G8 J0 (EO.b a8) (EO.b (n9 v5 v4 (EO.b a8) (EO.b (l7 C_law_draw _ hr (by decide) (by rfl) (ac (i9 (pv 0)) (ac a8 c8)) (c9 (c9 l8)))))))))) (n8 (u4 (i := 4) nd rfl (by first | exact Or.inl rfl | exact Or.inr rfl) (n9 v5 v4 (EO.b (j4 j6 j7 (EO.b (FO.v (B8 (ac a8 (ac a8 (ac a8 (ac a8 (ac a8 c8)))))))) (EO.b (l7 C_law_draw _ hr (by decide) (by rfl) (ac (i9 (pv 0)) (ac a8 c8)) (c9 (c9 l8)))) (fun _ _ => rfl))) (EO.b (j4 j6 j7 (EO.b (FO.v (B8 (ac a8 (ac (i9 (pv 3)) c8))))) (EO.b (l7 C_law_draw _ hr (by decide) (by rfl) (ac (i9 (pv 0)) (ac a8 c8)) (c9 (c9 l8)))) (fun _ _ => rfl))))) (n8 (u4 (i := 4) nd rfl (by first | exact Or.inl rfl | exact Or.inr rfl) (l7 C_law_fraction _ hr (by decide) (by rfl) (ac (i9 (pv 4)) (ac (j4 j6 j7 (EO.b (FO.v (B8 (ac a8 (ac (i9 (pv 3)) (ac (n9 v5 v4 (EO.b a8) (c7 (pv 3))) c8)))))) (EO.b (l7 C_law_draw _ hr (by decide) (by rfl) (ac (i9 (pv 0)) (ac a8 c8)) (c9 (c9 l8)))) (fun _ _ => rfl)) c8)) (c9 (c9 l8)))) (o6 (t0 (FO.v (U6 (N' := ["_law_one", "_law_share"]) (idx := [4]) rfl (V6 (by rfl) (.cons rfl .nil) (by decide +kernel) rfl (by decide +kernel) (by rfl) (.cons rfl (by first | exact Or.inl rfl | exact Or.inr rfl) (by first | exact Or.inl rfl | exact Or.inr rfl) .nil)) (X9 (t7 (ac (i9 (pv 1)) (ac (i9 (pv 2)) (ac (i9 (pv 3)) c8))))) (fun _ _ _ _ => A3 (i := 0) (show List.Nodup (["_law_one", "_law_share"] : List Str) by decide +kernel) rfl (Or.inl rfl)) (fun _ _ _ _ _ => T1) (fun _ _ _ _ _ => (l7 C_law_product _ hr (by decide) (by rfl) (ac (t7 (ac (i9 (pv 0)) (ac a8 c8))) (ac (i9 (pv 1)) c8)) (c9 (c9 l8))))))))))))))
noncomputable abbrev a2N : Stmt := top 31
theorem sc_law_number : FnScope ["_law_feed_here", "_law_top", "_law_bottom"] ["_law_feed_here"] (t9 a2N) := ⟨rfl, rfl, rfl, by decide +kernel, rfl, by decide +kernel, by decide +kernel⟩
set_option maxHeartbeats 4000000 in
theorem a8k {m_law_fraction : DFn} {m_law_draw : DFn} (C_law_fraction : Cal P w K mg base 1 "_law_fraction" ["_law_top", "_law_bottom"] m_law_fraction) (C_law_draw : Cal P w K mg base 1 "_law_draw" ["_law_feed_here", "_law_many"] m_law_draw) {f : Addr} {fd : FuncData} (B : Blt mg) (F : GF K mg "_law_number" a2N f fd) : Cal P w K mg base 2 "_law_number" ["_law_feed_here"] (a0F m_law_fraction m_law_draw) :=
 w9 F (fun _ _ _ _ _ _ => on1 fun _ => rfl) sc_law_number fun cdv A outer s H E g hr =>
  have nd := sc_law_number.nd
  (n8 (u4 (i := 1) nd rfl (by first | exact Or.inl rfl | exact Or.inr rfl) (l7 C_law_draw _ hr (by decide) (by rfl) (ac (i9 (pv 0)) (ac (j4 j6 j7 (EO.b (FO.v (B8 (ac a8 (ac a8 (ac a8 c8)))))) (EO.b (l7 C_law_draw _ hr (by decide) (by rfl) (ac (i9 (pv 0)) (ac a8 c8)) (c9 (c9 l8)))) (fun _ _ => rfl)) c8)) (c9 (c9 l8)))) (n8 (u4 (i := 2) nd rfl (by first | exact Or.inl rfl | exact Or.inr rfl) (j4 j6 j7 (EO.b (FO.v (B8 (ac a8 (ac a8 (ac a8 (ac a8 (ac a8 (ac a8 c8))))))))) (EO.b (l7 C_law_draw _ hr (by decide) (by rfl) (ac (i9 (pv 0)) (ac a8 c8)) (c9 (c9 l8)))) (fun _ _ => rfl))) (o6 (t0 (l7 C_law_fraction _ hr (by decide) (by rfl) (ac (n9 v5 v4 (c7 (pv 1)) (EO.b (n9 G8 J0 (EO.b a8) (EO.b (n9 v5 v4 (EO.b a8) (EO.b (l7 C_law_draw _ hr (by decide) (by rfl) (ac (i9 (pv 0)) (ac a8 c8)) (c9 (c9 l8))))))))) (ac (i9 (pv 2)) c8)) (c9 (c9 l8)))))))
noncomputable abbrev a2r : Stmt := top 32
theorem sc_law_place : FnScope ["_law_feed_here"] ["_law_feed_here"] (t9 a2r) := ⟨rfl, rfl, rfl, by decide +kernel, rfl, by decide +kernel, by decide +kernel⟩
set_option maxHeartbeats 4000000 in
theorem b3c {m_law_at : DFn} {m_law_number : DFn} (C_law_at : Cal P w K mg base 2 "_law_at" ["_law_x", "_law_y"] m_law_at) (C_law_number : Cal P w K mg base 2 "_law_number" ["_law_feed_here"] m_law_number) {f : Addr} {fd : FuncData} (B : Blt mg) (F : GF K mg "_law_place" a2r f fd) : Cal P w K mg base 3 "_law_place" ["_law_feed_here"] (a0K m_law_at m_law_number) :=
 w9 F (fun _ _ _ _ _ _ => on1 fun _ => rfl) sc_law_place fun cdv A outer s H E g hr =>
  have nd := sc_law_place.nd
  (o6 (t0 (l7 C_law_at _ hr (by decide) (by rfl) (ac (l7 C_law_number _ hr (by decide) (by rfl) (ac (i9 (pv 0)) c8) (c9 l8)) (ac (l7 C_law_number _ hr (by decide) (by rfl) (ac (i9 (pv 0)) c8) (c9 l8)) c8)) (c9 (c9 l8)))))
noncomputable abbrev a3u : Stmt := top 27
theorem sc_law_xy : FnScope ["_law_one"] ["_law_one"] (t9 a3u) := ⟨rfl, rfl, rfl, by decide +kernel, rfl, by decide +kernel, by decide +kernel⟩
set_option maxHeartbeats 4000000 in
theorem a9U {m_law_fraction : DFn} (C_law_fraction : Cal P w K mg base 1 "_law_fraction" ["_law_top", "_law_bottom"] m_law_fraction) {f : Addr} {fd : FuncData} (B : Blt mg) (F : GF K mg "_law_xy" a3u f fd) : Cal P w K mg base 2 "_law_xy" ["_law_one"] (a0w m_law_fraction) :=
 w9 F (fun _ _ _ _ _ _ => on1 fun _ => rfl) sc_law_xy fun cdv A outer s H E g hr =>
  have nd := sc_law_xy.nd
  (o6 (t0 (t7 (ac (l7 C_law_fraction _ hr (by decide) (by rfl) (ac (j4 j6 j7 (c7 (pv 0)) (EO.b a8) (fun _ _ => rfl)) (ac (j4 j6 j7 (c7 (pv 0)) (EO.b a8) (fun _ _ => rfl)) c8)) (c9 (c9 l8))) (ac (l7 C_law_fraction _ hr (by decide) (by rfl) (ac (j4 j6 j7 (c7 (pv 0)) (EO.b a8) (fun _ _ => rfl)) (ac (j4 j6 j7 (c7 (pv 0)) (EO.b a8) (fun _ _ => rfl)) c8)) (c9 (c9 l8))) c8)))))
noncomputable abbrev a1X : Stmt := top 23
theorem sc_law_sum : FnScope ["_law_one", "_law_other", "_law_top"] ["_law_one", "_law_other"] (t9 a1X) := ⟨rfl, rfl, rfl, by decide +kernel, rfl, by decide +kernel, by decide +kernel⟩
set_option maxHeartbeats 4000000 in
theorem b3W {m_law_fraction : DFn} (C_law_fraction : Cal P w K mg base 1 "_law_fraction" ["_law_top", "_law_bottom"] m_law_fraction) {f : Addr} {fd : FuncData} (B : Blt mg) (F : GF K mg "_law_sum" a1X f fd) : Cal P w K mg base 2 "_law_sum" ["_law_one", "_law_other"] (X4 m_law_fraction) :=
 w9 F (fun _ _ _ _ _ _ => on2 fun _ _ => rfl) sc_law_sum fun cdv A outer s H E g hr =>
  have nd := sc_law_sum.nd
  (n8 (u4 (i := 2) nd rfl (by first | exact Or.inl rfl | exact Or.inr rfl) (n9 C6 C3 (EO.b (n9 v5 v4 (EO.b (j4 j6 j7 (c7 (pv 0)) (EO.b a8) (fun _ _ => rfl))) (EO.b (j4 j6 j7 (c7 (pv 1)) (EO.b a8) (fun _ _ => rfl))))) (EO.b (n9 v5 v4 (EO.b (j4 j6 j7 (c7 (pv 1)) (EO.b a8) (fun _ _ => rfl))) (EO.b (j4 j6 j7 (c7 (pv 0)) (EO.b a8) (fun _ _ => rfl))))))) (o6 (t0 (l7 C_law_fraction _ hr (by decide) (by rfl) (ac (i9 (pv 2)) (ac (n9 v5 v4 (EO.b (j4 j6 j7 (c7 (pv 0)) (EO.b a8) (fun _ _ => rfl))) (EO.b (j4 j6 j7 (c7 (pv 1)) (EO.b a8) (fun _ _ => rfl)))) c8)) (c9 (c9 l8))))))
noncomputable abbrev a3S : Stmt := top 28
theorem sc_law_gone : FnScope ["_law_one", "_law_x", "_law_y", "_law_first", "_law_second"] ["_law_one", "_law_x", "_law_y"] (t9 a3S) := ⟨rfl, rfl, rfl, by decide +kernel, rfl, by decide +kernel, by decide +kernel⟩
set_option maxHeartbeats 4000000 in
theorem b1o {m_law_at : DFn} {m_law_sum : DFn} {m_law_xy : DFn} (C_law_at : Cal P w K mg base 2 "_law_at" ["_law_x", "_law_y"] m_law_at) (C_law_sum : Cal P w K mg base 2 "_law_sum" ["_law_one", "_law_other"] m_law_sum) (C_law_xy : Cal P w K mg base 2 "_law_xy" ["_law_one"] m_law_xy) {f : Addr} {fd : FuncData} (B : Blt mg) (F : GF K mg "_law_gone" a3S f fd) : Cal P w K mg base 3 "_law_gone" ["_law_one", "_law_x", "_law_y"] (a0P m_law_at m_law_sum m_law_xy) :=
 w9 F (fun _ _ _ _ _ _ => on3 fun _ _ _ => rfl) sc_law_gone fun cdv A outer s H E g hr =>
  have nd := sc_law_gone.nd
  (n8 (U7 (l7 C_law_xy _ hr (by decide) (by rfl) (ac (i9 (pv 0)) c8) (c9 l8)) (R6 rfl (F4 (B9 (A3 (i := 3) nd rfl (by first | exact Or.inl rfl | exact Or.inr rfl))) (F4 (B9 (A3 (i := 4) nd rfl (by first | exact Or.inl rfl | exact Or.inr rfl))) T8)))) (o6 (t0 (l7 C_law_at _ hr (by decide) (by rfl) (ac (l7 C_law_sum _ hr (by decide) (by rfl) (ac (i9 (pv 3)) (ac (i9 (pv 1)) c8)) (c9 (c9 l8))) (ac (l7 C_law_sum _ hr (by decide) (by rfl) (ac (i9 (pv 4)) (ac (i9 (pv 2)) c8)) (c9 (c9 l8))) c8)) (c9 (c9 l8))))))
noncomputable abbrev a3p : Stmt := top 36
theorem sc_law_closed_line : FnScope ["_law_feed_here", "_law_first", "_law_start", "_law_second", "_law_knee", "_law_last", "_law_side", "_law_three", "_law_four", "_law_some", "_law_order"] ["_law_feed_here"] (t9 a3p) := ⟨rfl, rfl, rfl, by decide +kernel, rfl, by decide +kernel, by decide +kernel⟩
set_option maxHeartbeats 4000000 in
theorem a8p {m_law_draw : DFn} {m_law_gone : DFn} {m_law_product : DFn} {m_law_fraction : DFn} {m_law_way : DFn} {m_law_place : DFn} (C_law_draw : Cal P w K mg base 1 "_law_draw" ["_law_feed_here", "_law_many"] m_law_draw) (C_law_gone : Cal P w K mg base 3 "_law_gone" ["_law_one", "_law_x", "_law_y"] m_law_gone) (C_law_product : Cal P w K mg base 2 "_law_product" ["_law_one", "_law_other"] m_law_product) (C_law_fraction : Cal P w K mg base 1 "_law_fraction" ["_law_top", "_law_bottom"] m_law_fraction) (C_law_way : Cal P w K mg base 3 "_law_way" ["_law_feed_here"] m_law_way) (C_law_place : Cal P w K mg base 3 "_law_place" ["_law_feed_here"] m_law_place) {f : Addr} {fd : FuncData} (B : Blt mg) (F : GF K mg "_law_closed_line" a3p f fd) : Cal P w K mg base 4 "_law_closed_line" ["_law_feed_here"] (a2m m_law_draw m_law_gone m_law_product m_law_fraction m_law_way m_law_place) :=
 w9 F (fun _ _ _ _ _ _ => on1 fun _ => rfl) sc_law_closed_line fun cdv A outer s H E g hr =>
  have nd := sc_law_closed_line.nd
  (n8 (u4 (i := 1) nd rfl (by first | exact Or.inl rfl | exact Or.inr rfl) (l7 C_law_way _ hr (by decide) (by rfl) (ac (i9 (pv 0)) c8) (c9 l8))) (n8 (u4 (i := 2) nd rfl (by first | exact Or.inl rfl | exact Or.inr rfl) (l7 C_law_place _ hr (by decide) (by rfl) (ac (i9 (pv 0)) c8) (c9 l8))) (n8 (A1 (A7 (G1 (u64 hr)) F9 (EO.b (l7 C_law_draw _ hr (by decide) (by rfl) (ac (i9 (pv 0)) (ac a8 c8)) (c9 (c9 l8)))) (EO.b a8) (v0 _)) (n8 (u4 (i := 3) nd rfl (by first | exact Or.inl rfl | exact Or.inr rfl) (l7 C_law_way _ hr (by decide) (by rfl) (ac (i9 (pv 0)) c8) (c9 l8))) (o6 (A1 (A7 (N4 (u64 hr)) O6 (EO.b (l7 C_law_product _ hr (by decide) (by rfl) (ac (j4 j6 j7 (c7 (pv 1)) (EO.b a8) (fun _ _ => rfl)) (ac (j4 j6 j7 (c7 (pv 3)) (EO.b a8) (fun _ _ => rfl)) c8)) (c9 (c9 l8)))) (EO.b (l7 C_law_product _ hr (by decide) (by rfl) (ac (j4 j6 j7 (c7 (pv 1)) (EO.b a8) (fun _ _ => rfl)) (ac (j4 j6 j7 (c7 (pv 3)) (EO.b a8) (fun _ _ => rfl)) c8)) (c9 (c9 l8)))) (v0 _)) (n8 (u4 (i := 4) nd rfl (by first | exact Or.inl rfl | exact Or.inr rfl) (l7 C_law_gone _ hr (by decide) (by rfl) (ac (i9 (pv 2)) (ac (j4 j6 j7 (c7 (pv 1)) (EO.b a8) (fun _ _ => rfl)) (ac (j4 j6 j7 (c7 (pv 1)) (EO.b a8) (fun _ _ => rfl)) c8))) (c9 (c9 (c9 l8))))) (n8 (u4 (i := 5) nd rfl (by first | exact Or.inl rfl | exact Or.inr rfl) (l7 C_law_gone _ hr (by decide) (by rfl) (ac (i9 (pv 2)) (ac (j4 j6 j7 (c7 (pv 3)) (EO.b a8) (fun _ _ => rfl)) (ac (j4 j6 j7 (c7 (pv 3)) (EO.b a8) (fun _ _ => rfl)) c8))) (c9 (c9 (c9 l8))))) (o6 (t0 (t7 (ac w4 (ac (t7 (ac (i9 (pv 2)) (ac (i9 (pv 4)) (ac (l7 C_law_gone _ hr (by decide) (by rfl) (ac (i9 (pv 4)) (ac (j4 j6 j7 (c7 (pv 3)) (EO.b a8) (fun _ _ => rfl)) (ac (j4 j6 j7 (c7 (pv 3)) (EO.b a8) (fun _ _ => rfl)) c8))) (c9 (c9 (c9 l8)))) (ac (i9 (pv 5)) c8))))) c8))))))) A0))) A0) (n8 (u4 (i := 6) nd rfl (by first | exact Or.inl rfl | exact Or.inr rfl) (l7 C_law_fraction _ hr (by decide) (by rfl) (ac (n9 C6 C3 (EO.b a8) (EO.b (l7 C_law_draw _ hr (by decide) (by rfl) (ac (i9 (pv 0)) (ac a8 c8)) (c9 (c9 l8))))) (ac (n9 C6 C3 (EO.b a8) (EO.b (l7 C_law_draw _ hr (by decide) (by rfl) (ac (i9 (pv 0)) (ac a8 c8)) (c9 (c9 l8))))) c8)) (c9 (c9 l8)))) (n8 (Y7 (i := 7) (j := 8) rfl nd rfl rfl (by decide) rfl rfl (ac (l7 C_law_product _ hr (by decide) (by rfl) (ac (i9 (pv 6)) (ac (t7 (ac a8 (ac a8 c8))) c8)) (c9 (c9 l8))) (ac (l7 C_law_product _ hr (by decide) (by rfl) (ac (i9 (pv 6)) (ac (t7 (ac a8 (ac a8 c8))) c8)) (c9 (c9 l8))) c8)) rfl) (n8 (M7 (i := 9) nd rfl (by first | exact Or.inl rfl | exact Or.inr rfl) (B8 (ac (i9 (pv 2)) (ac (l7 C_law_gone _ hr (by decide) (by rfl) (ac (i9 (pv 2)) (ac (i9 (pv 7)) (ac (t7 (ac a8 (ac a8 c8))) c8))) (c9 (c9 (c9 l8)))) (ac (l7 C_law_gone _ hr (by decide) (by rfl) (ac (i9 (pv 2)) (ac (i9 (pv 7)) (ac (i9 (pv 8)) c8))) (c9 (c9 (c9 l8)))) (ac (l7 C_law_gone _ hr (by decide) (by rfl) (ac (i9 (pv 2)) (ac (t7 (ac a8 (ac a8 c8))) (ac (i9 (pv 8)) c8))) (c9 (c9 (c9 l8)))) c8)))))) (n8 (u4 (i := 10) nd rfl (by first | exact Or.inl rfl | exact Or.inr rfl) (j4 j6 j7 (EO.b (FO.v (B8 (ac (t7 (ac a8 (ac a8 (ac a8 c8)))) (ac (t7 (ac a8 (ac a8 (ac a8 c8)))) (ac (t7 (ac a8 (ac a8 (ac a8 (ac a8 c8))))) (ac (t7 (ac a8 (ac a8 (ac a8 (ac a8 c8))))) (ac (t7 (ac a8 (ac a8 (ac a8 c8)))) c8)))))))) (EO.b (l7 C_law_draw _ hr (by decide) (by rfl) (ac (i9 (pv 0)) (ac a8 c8)) (c9 (c9 l8)))) (fun _ _ => rfl))) (o6 (t0 (t7 (ac w4 (ac (T2 a0O a0B (by rfl) B.tuple K5 (bc (EO.b (FO.v (a9F [9] (U6 (N' := ["_law_at_here", "_law_some"]) (idx := [9]) rfl (V6 (by rfl) (.cons rfl .nil) (by decide +kernel) rfl (by decide +kernel) (by rfl) (.cons rfl (by first | exact Or.inl rfl | exact Or.inr rfl) (by first | exact Or.inl rfl | exact Or.inr rfl) .nil)) (X9 (i9 (pv 10))) (fun _ _ _ _ => A3 (i := 0) (show List.Nodup (["_law_at_here", "_law_some"] : List Str) by decide +kernel) rfl (Or.inl rfl)) (fun _ _ _ _ _ => T1) (fun _ _ _ _ _ => (j4 j6 j7 (c7 (pv 1)) (c7 (pv 0)) (fun _ _ => rfl))))))) A2)) c8))))))))))))
noncomputable abbrev a15 : Stmt := top 25
theorem sc_law_minus : FnScope ["_law_one"] ["_law_one"] (t9 a15) := ⟨rfl, rfl, rfl, by decide +kernel, rfl, by decide +kernel, by decide +kernel⟩
set_option maxHeartbeats 4000000 in
theorem b0e {f : Addr} {fd : FuncData} (B : Blt mg) (F : GF K mg "_law_minus" a15 f fd) : Cal P w K mg base 1 "_law_minus" ["_law_one"] (R4) :=
 w9 F (fun _ _ _ _ _ _ => on1 fun _ => rfl) sc_law_minus fun cdv A outer s H E g hr =>
  have nd := sc_law_minus.nd
  (o6 (t0 (t7 (ac (n9 G8 J0 (EO.b a8) (EO.b (j4 j6 j7 (c7 (pv 0)) (EO.b a8) (fun _ _ => rfl)))) (ac (j4 j6 j7 (c7 (pv 0)) (EO.b a8) (fun _ _ => rfl)) c8)))))
noncomputable abbrev a14 : Stmt := top 34
theorem sc_law_goes_on : FnScope ["_law_first", "_law_second", "_law_one", "_law_other", "_law_with_it"] ["_law_first", "_law_second"] (t9 a14) := ⟨rfl, rfl, rfl, by decide +kernel, rfl, by decide +kernel, by decide +kernel⟩
set_option maxHeartbeats 4000000 in
theorem b3s {m_law_sum : DFn} {m_law_product : DFn} (C_law_sum : Cal P w K mg base 2 "_law_sum" ["_law_one", "_law_other"] m_law_sum) (C_law_product : Cal P w K mg base 2 "_law_product" ["_law_one", "_law_other"] m_law_product) {f : Addr} {fd : FuncData} (B : Blt mg) (F : GF K mg "_law_goes_on" a14 f fd) : Cal P w K mg base 3 "_law_goes_on" ["_law_first", "_law_second"] (a3Z m_law_sum m_law_product) :=
 w9 F (fun _ _ _ _ _ _ => on2 fun _ _ => rfl) sc_law_goes_on fun cdv A outer s H E g hr =>
  have nd := sc_law_goes_on.nd
  (n8 (u4 (i := 2) nd rfl (by first | exact Or.inl rfl | exact Or.inr rfl) (l7 C_law_product _ hr (by decide) (by rfl) (ac (j4 j6 j7 (c7 (pv 0)) (EO.b a8) (fun _ _ => rfl)) (ac (j4 j6 j7 (c7 (pv 1)) (EO.b a8) (fun _ _ => rfl)) c8)) (c9 (c9 l8)))) (n8 (u4 (i := 3) nd rfl (by first | exact Or.inl rfl | exact Or.inr rfl) (l7 C_law_product _ hr (by decide) (by rfl) (ac (j4 j6 j7 (c7 (pv 0)) (EO.b a8) (fun _ _ => rfl)) (ac (j4 j6 j7 (c7 (pv 1)) (EO.b a8) (fun _ _ => rfl)) c8)) (c9 (c9 l8)))) (n8 (u4 (i := 4) nd rfl (by first | exact Or.inl rfl | exact Or.inr rfl) (l7 C_law_sum _ hr (by decide) (by rfl) (ac (l7 C_law_product _ hr (by decide) (by rfl) (ac (j4 j6 j7 (c7 (pv 0)) (EO.b a8) (fun _ _ => rfl)) (ac (j4 j6 j7 (c7 (pv 1)) (EO.b a8) (fun _ _ => rfl)) c8)) (c9 (c9 l8))) (ac (l7 C_law_product _ hr (by decide) (by rfl) (ac (j4 j6 j7 (c7 (pv 0)) (EO.b a8) (fun _ _ => rfl)) (ac (j4 j6 j7 (c7 (pv 1)) (EO.b a8) (fun _ _ => rfl)) c8)) (c9 (c9 l8))) c8)) (c9 (c9 l8)))) (o6 (t0 (O8 (F3 (G1 (u64 hr)) F9 (c7 (pv 2)) (c7 (pv 3)) (v0 _)) (T0 (F3 Q9 (D6 (fun i j => decide (j < i))) (EO.b (j4 j6 j7 (c7 (pv 4)) (EO.b a8) (fun _ _ => rfl))) (EO.b a8) (v0 _)))))))))
noncomputable abbrev a3w : Stmt := top 35
theorem sc_law_open_line : FnScope ["_law_feed_here", "_law_most", "_law_found", "_law_ways_here", "_law_k", "_law_way_here"] ["_law_feed_here", "_law_most"] (t9 a3w) := ⟨rfl, rfl, rfl, by decide +kernel, rfl, by decide +kernel, by decide +kernel⟩
set_option maxHeartbeats 4000000 in
theorem b0D {m_law_goes_on : DFn} {m_law_gone : DFn} {m_law_draw : DFn} {m_law_minus : DFn} {m_law_way : DFn} {m_law_place : DFn} (C_law_goes_on : Cal P w K mg base 3 "_law_goes_on" ["_law_first", "_law_second"] m_law_goes_on) (C_law_gone : Cal P w K mg base 3 "_law_gone" ["_law_one", "_law_x", "_law_y"] m_law_gone) (C_law_draw : Cal P w K mg base 1 "_law_draw" ["_law_feed_here", "_law_many"] m_law_draw) (C_law_minus : Cal P w K mg base 1 "_law_minus" ["_law_one"] m_law_minus) (C_law_way : Cal P w K mg base 3 "_law_way" ["_law_feed_here"] m_law_way) (C_law_place : Cal P w K mg base 3 "_law_place" ["_law_feed_here"] m_law_place) {f : Addr} {fd : FuncData} (B : Blt mg) (F : GF K mg "_law_open_line" a3w f fd) : Cal P w K mg base 4 "_law_open_line" ["_law_feed_here", "_law_most"] (a28 m_law_goes_on m_law_gone m_law_draw m_law_minus m_law_way m_law_place) :=
 w9 F (fun _ _ _ _ _ _ => on2 fun _ _ => rfl) sc_law_open_line fun cdv A outer s H E g hr =>
  have nd := sc_law_open_line.nd
  (n8 (M7 (i := 2) nd rfl (by first | exact Or.inl rfl | exact Or.inr rfl) (B8 (ac (l7 C_law_place _ hr (by decide) (by rfl) (ac (i9 (pv 0)) c8) (c9 l8)) c8))) (n8 (M7 (i := 3) nd rfl (by first | exact Or.inl rfl | exact Or.inr rfl) (B8 c8)) (n8 (W5 PassesOwn.never rfl (by rfl) B.range (n9 C6 C3 (EO.b a8) (EO.b (l7 C_law_draw _ hr (by decide) (by rfl) (ac (i9 (pv 0)) (ac (n9 G8 J0 (c7 (pv 1)) (EO.b a8)) c8)) (c9 (c9 l8))))) (B9 (A3 (i := 4) nd rfl (by first | exact Or.inl rfl | exact Or.inr rfl))) (n8 (u4 (i := 5) nd rfl (by first | exact Or.inl rfl | exact Or.inr rfl) (l7 C_law_way _ hr (by decide) (by rfl) (ac (i9 (pv 0)) c8) (c9 l8))) (n8 (A1 (WO.t (X0 (A7 (N4 (u64 hr)) O6 (c7 (pv 3)) (EO.b (FO.v (B8 c8))) (v0 _)) (a0c (A7 (G1 (u64 hr)) F9 (EO.b (l7 C_law_draw _ hr (by decide) (by rfl) (ac (i9 (pv 0)) (ac a8 c8)) (c9 (c9 l8)))) (EO.b a8) (v0 _))))) (o6 (M7 (i := 5) nd rfl (by first | exact Or.inl rfl | exact Or.inr rfl) (B8 (ac (l7 C_law_minus _ hr (by decide) (by rfl) (ac (j4 j6 j7 (EO.b (j4 j6 j7 (c7 (pv 3)) (EO.b (M2 M3 L9 (EO.b a8))) (fun _ _ => rfl))) (EO.b a8) (fun _ _ => rfl)) c8) (c9 l8)) (ac (l7 C_law_minus _ hr (by decide) (by rfl) (ac (j4 j6 j7 (EO.b (j4 j6 j7 (c7 (pv 3)) (EO.b (M2 M3 L9 (EO.b a8))) (fun _ _ => rfl))) (EO.b a8) (fun _ _ => rfl)) c8) (c9 l8)) (ac (j4 j6 j7 (EO.b (j4 j6 j7 (c7 (pv 3)) (EO.b (M2 M3 L9 (EO.b a8))) (fun _ _ => rfl))) (EO.b a8) (fun _ _ => rfl)) c8)))))) A0) (o6 (A1 (WO.t (K6 (A7 (G1 (u64 hr)) F9 (c7 (pv 3)) (EO.b (FO.v (B8 c8))) (v0 _)) (M0 (F2 (B2 (EO.b (l7 C_law_goes_on _ hr (by decide) (by rfl) (ac (j4 j6 j7 (c7 (pv 3)) (EO.b (M2 M3 L9 (EO.b a8))) (fun _ _ => rfl)) (ac (i9 (pv 5)) c8)) (c9 (c9 l8))))))))) (n8 (a3z (pv 3) (i9 (pv 5))) (o6 (a3z (pv 2) (l7 C_law_gone _ hr (by decide) (by rfl) (ac (j4 j6 j7 (c7 (pv 2)) (EO.b (M2 M3 L9 (EO.b a8))) (fun _ _ => rfl)) (ac (j4 j6 j7 (c7 (pv 5)) (EO.b a8) (fun _ _ => rfl)) (ac (j4 j6 j7 (c7 (pv 5)) (EO.b a8) (fun _ _ => rfl)) c8))) (c9 (c9 (c9 l8))))))) A0))))) (o6 (t0 (t7 (ac w4 (ac (T2 a0O a0B (by rfl) B.tuple K5 (bc (c7 (pv 2)) A2)) c8))))))))
noncomputable abbrev a3M : Stmt := top 37
theorem sc_law_line : FnScope ["_law_feed_here", "_law_most"] ["_law_feed_here", "_law_most"] (t9 a3M) := ⟨rfl, rfl, rfl, by decide +kernel, rfl, by decide +kernel, by decide +kernel⟩
set_option maxHeartbeats 4000000 in
theorem a7p {m_law_draw : DFn} {m_law_closed_line : DFn} {m_law_open_line : DFn} (C_law_draw : Cal P w K mg base 1 "_law_draw" ["_law_feed_here", "_law_many"] m_law_draw) (C_law_closed_line : Cal P w K mg base 4 "_law_closed_line" ["_law_feed_here"] m_law_closed_line) (C_law_open_line : Cal P w K mg base 4 "_law_open_line" ["_law_feed_here", "_law_most"] m_law_open_line) {f : Addr} {fd : FuncData} (B : Blt mg) (F : GF K mg "_law_line" a3M f fd) : Cal P w K mg base 5 "_law_line" ["_law_feed_here", "_law_most"] (a2X m_law_draw m_law_closed_line m_law_open_line) :=
 w9 F (fun _ _ _ _ _ _ => on2 fun _ _ => rfl) sc_law_line fun cdv A outer s H E g hr =>
  have nd := sc_law_line.nd
  (o6 (t0 (a0a (A7 (G1 (u64 hr)) F9 (EO.b (l7 C_law_draw _ hr (by decide) (by rfl) (ac (i9 (pv 0)) (ac a8 c8)) (c9 (c9 l8)))) (EO.b a8) (v0 _)) (l7 C_law_closed_line _ hr (by decide) (by rfl) (ac (i9 (pv 0)) c8) (c9 l8)) (l7 C_law_open_line _ hr (by decide) (by rfl) (ac (i9 (pv 0)) (ac (i9 (pv 1)) c8)) (c9 (c9 l8))))))
noncomputable abbrev a3A : Stmt := top 45
theorem sc_law_stepped : FnScope ["_law_many"] ["_law_many"] (t9 a3A) := ⟨rfl, rfl, rfl, by decide +kernel, rfl, by decide +kernel, by decide +kernel⟩
set_option maxHeartbeats 4000000 in
theorem b1W {f : Addr} {fd : FuncData} (B : Blt mg) (F : GF K mg "_law_stepped" a3A f fd) : Cal P w K mg base 1 "_law_stepped" ["_law_many"] (L4) :=
 w9 F (fun _ _ _ _ _ _ => on1 fun _ => rfl) sc_law_stepped fun cdv A outer s H E g hr =>
  have nd := sc_law_stepped.nd
  (o6 (t0 (T2 a0O a0B (by rfl) B.tuple K5 (bc (EO.b (FO.v (U6 (N' := ["_law_k"]) (idx := []) rfl (V6 (by rfl) .nil (by decide +kernel) rfl (by decide +kernel) (by rfl) .nil) (a4p (by rfl) B.range (i9 (pv 0))) (fun _ _ _ _ => A3 (i := 0) (show List.Nodup (["_law_k"] : List Str) by decide +kernel) rfl (Or.inl rfl)) (fun _ _ _ _ _ => T1) (fun _ _ _ _ _ => (t7 (ac (n9 C6 C3 (EO.b (n9 N2 M6 (c7 (pv 0)) (EO.b a8))) (EO.b (n9 K3 K2 (c7 (pv 0)) (EO.b a8)))) (ac (n9 N2 M6 (c7 (pv 0)) (EO.b a8)) (ac a8 c8)))))))) A2))))
noncomputable abbrev a3j : Stmt := top 29
theorem sc_law_half_way : FnScope ["_law_a", "_law_b", "_law_x", "_law_y", "_law_far_x", "_law_far_y"] ["_law_a", "_law_b"] (t9 a3j) := ⟨rfl, rfl, rfl, by decide +kernel, rfl, by decide +kernel, by decide +kernel⟩
set_option maxHeartbeats 4000000 in
theorem a86 {m_law_at : DFn} {m_law_product : DFn} {m_law_sum : DFn} {m_law_xy : DFn} (C_law_at : Cal P w K mg base 2 "_law_at" ["_law_x", "_law_y"] m_law_at) (C_law_product : Cal P w K mg base 2 "_law_product" ["_law_one", "_law_other"] m_law_product) (C_law_sum : Cal P w K mg base 2 "_law_sum" ["_law_one", "_law_other"] m_law_sum) (C_law_xy : Cal P w K mg base 2 "_law_xy" ["_law_one"] m_law_xy) {f : Addr} {fd : FuncData} (B : Blt mg) (F : GF K mg "_law_half_way" a3j f fd) : Cal P w K mg base 3 "_law_half_way" ["_law_a", "_law_b"] (a2O m_law_at m_law_product m_law_sum m_law_xy) :=
 w9 F (fun _ _ _ _ _ _ => on2 fun _ _ => rfl) sc_law_half_way fun cdv A outer s H E g hr =>
  have nd := sc_law_half_way.nd
  (n8 (U7 (l7 C_law_xy _ hr (by decide) (by rfl) (ac (i9 (pv 0)) c8) (c9 l8)) (R6 rfl (F4 (B9 (A3 (i := 2) nd rfl (by first | exact Or.inl rfl | exact Or.inr rfl))) (F4 (B9 (A3 (i := 3) nd rfl (by first | exact Or.inl rfl | exact Or.inr rfl))) T8)))) (n8 (U7 (l7 C_law_xy _ hr (by decide) (by rfl) (ac (i9 (pv 1)) c8) (c9 l8)) (R6 rfl (F4 (B9 (A3 (i := 4) nd rfl (by first | exact Or.inl rfl | exact Or.inr rfl))) (F4 (B9 (A3 (i := 5) nd rfl (by first | exact Or.inl rfl | exact Or.inr rfl))) T8)))) (n8 (Y7 (i := 2) (j := 3) rfl nd rfl rfl (by decide) rfl rfl (ac (l7 C_law_sum _ hr (by decide) (by rfl) (ac (i9 (pv 2)) (ac (i9 (pv 4)) c8)) (c9 (c9 l8))) (ac (l7 C_law_sum _ hr (by decide) (by rfl) (ac (i9 (pv 3)) (ac (i9 (pv 5)) c8)) (c9 (c9 l8))) c8)) rfl) (o6 (t0 (l7 C_law_at _ hr (by decide) (by rfl) (ac (l7 C_law_product _ hr (by decide) (by rfl) (ac (i9 (pv 2)) (ac (t7 (ac a8 (ac a8 c8))) c8)) (c9 (c9 l8))) (ac (l7 C_law_product _ hr (by decide) (by rfl) (ac (i9 (pv 3)) (ac (t7 (ac a8 (ac a8 c8))) c8)) (c9 (c9 l8))) c8)) (c9 (c9 l8))))))))
noncomputable abbrev a3x : Stmt := top 46
theorem sc_law : FnScope ["_law_script", "_law_feed_here", "_law_k", "_law_good", "_law_a", "_law_b", "_law_turn_here", "_law_thing", "_law_more", "_law_many", "_law_one", "_law_other", "_law_some"] ["_law_script"] (t9 a3x) := ⟨rfl, rfl, rfl, by decide +kernel, rfl, by decide +kernel, by decide +kernel⟩
set_option maxHeartbeats 4000000 in
theorem b3i {m_is_line : DFn} {m_law_right : DFn} {m_law_stepped : DFn} {m_law_bent : DFn} {m_law_draw : DFn} {m_law_half_way : DFn} {m_law_place : DFn} {m_law_line : DFn} {m_law_feed : DFn} (C_is_line : Cal P w K mg base 6 "is_line" ["thing"] m_is_line) (C_law_right : Cal P w K mg base 7 "_law_right" ["_law_thing"] m_law_right) (C_law_stepped : Cal P w K mg base 1 "_law_stepped" ["_law_many"] m_law_stepped) (C_law_bent : Cal P w K mg base 66 "_law_bent" ["_law_feed_here", "_law_thing"] m_law_bent) (C_law_draw : Cal P w K mg base 1 "_law_draw" ["_law_feed_here", "_law_many"] m_law_draw) (C_law_half_way : Cal P w K mg base 3 "_law_half_way" ["_law_a", "_law_b"] m_law_half_way) (C_law_place : Cal P w K mg base 3 "_law_place" ["_law_feed_here"] m_law_place) (C_law_line : Cal P w K mg base 5 "_law_line" ["_law_feed_here", "_law_most"] m_law_line) (C_law_feed : Cal P w K mg base 1 "_law_feed" ["_law_script"] m_law_feed) {f : Addr} {fd : FuncData} (B : Blt mg) (F : Fun K "law" "law" a3x f fd) : FnD P w K mg base 67 f fd ["_law_script"] (a1i m_is_line m_law_right m_law_stepped m_law_bent m_law_draw m_law_half_way m_law_place m_law_line m_law_feed) :=
 a6F F sc_law fun cdv A outer s H E g hr =>
  have nd := sc_law.nd
  (n8 (u4 (i := 1) nd rfl (by first | exact Or.inl rfl | exact Or.inr rfl) (l7 C_law_feed _ hr (by decide) (by rfl) (ac (i9 (pv 0)) c8) (c9 l8))) (n8 (W5 PassesOwn.never rfl (by rfl) B.range a8 (B9 (A3 (i := 2) nd rfl (by first | exact Or.inl rfl | exact Or.inr rfl))) (n8 (u4 (i := 3) nd rfl (by first | exact Or.inl rfl | exact Or.inr rfl) (j4 j6 j7 (EO.b (FO.v (B8 (ac (l7 C_law_line _ hr (by decide) (by rfl) (ac (i9 (pv 1)) (ac a8 c8)) (c9 (c9 l8))) (ac (t7 (ac w4 (ac (T2 a0O a0B (by rfl) B.tuple K5 (bc (EO.b (FO.v (U6 (N' := ["_law_j", "_law_feed_here"]) (idx := [1]) rfl (V6 (by rfl) (.cons rfl .nil) (by decide +kernel) rfl (by decide +kernel) (by rfl) (.cons rfl (by first | exact Or.inl rfl | exact Or.inr rfl) (by first | exact Or.inl rfl | exact Or.inr rfl) .nil)) (a4p (by rfl) B.range (n9 C6 C3 (EO.b a8) (EO.b (l7 C_law_draw _ hr (by decide) (by rfl) (ac (i9 (pv 1)) (ac a8 c8)) (c9 (c9 l8)))))) (fun _ _ _ _ => A3 (i := 0) (show List.Nodup (["_law_j", "_law_feed_here"] : List Str) by decide +kernel) rfl (Or.inl rfl)) (fun _ _ _ _ _ => T1) (fun _ _ _ _ _ => (l7 C_law_place _ hr (by decide) (by rfl) (ac (i9 (pv 1)) c8) (c9 l8)))))) A2)) c8))) c8))))) (EO.b (n9 K3 K2 (c7 (pv 2)) (EO.b a8))) (fun _ _ => rfl))) (n8 (A1 (WO.t (K6 (F2 (B2 (EO.b (l7 C_law_right _ hr (by decide) (by rfl) (ac (i9 (pv 3)) c8) (c9 l8))))) (M0 (WO.t (X0 (A7 (G1 (u64 hr)) F9 (EO.b (n9 K3 K2 (c7 (pv 2)) (EO.b a8))) (EO.b a8) (v0 _)) (a0c (A7 a5A a5V (EO.b (l7 C_is_line _ hr (by decide) (by rfl) (ac (i9 (pv 3)) c8) (c9 l8))) (EO.b w4) (v0 _)))))))) (o6 (t0 w4)) A0) (n8 (U7 (N6 (EO.b (j4 j6 j7 (c7 (pv 3)) (EO.b a8) (fun _ _ => rfl))) N0 (N5 (EO.b a8))) (R6 rfl (F4 (B9 (A3 (i := 4) nd rfl (by first | exact Or.inl rfl | exact Or.inr rfl))) (F4 (B9 (A3 (i := 5) nd rfl (by first | exact Or.inl rfl | exact Or.inr rfl))) T8)))) (n8 (A1 (F2 (B2 (EO.b (l7 C_law_right _ hr (by decide) (by rfl) (ac (t7 (ac (j4 j6 j7 (c7 (pv 3)) (EO.b a8) (fun _ _ => rfl)) (ac (n9 C6 C3 (EO.b (n9 C6 C3 (EO.b (N6 (EO.b (j4 j6 j7 (c7 (pv 3)) (EO.b a8) (fun _ _ => rfl))) N0 (N5 (EO.b a8)))) (EO.b (t7 (ac (l7 C_law_half_way _ hr (by decide) (by rfl) (ac (i9 (pv 4)) (ac (i9 (pv 5)) c8)) (c9 (c9 l8))) c8))))) (EO.b (N6 (EO.b (j4 j6 j7 (c7 (pv 3)) (EO.b a8) (fun _ _ => rfl))) (N5 (EO.b a8)) N0))) c8))) c8) (c9 l8))))) (o6 (t0 w4)) A0) (o6 (W5 PassesOwn.never rfl (by rfl) B.range a8 (B9 (A3 (i := 6) nd rfl (by first | exact Or.inl rfl | exact Or.inr rfl))) (n8 (u4 (i := 7) nd rfl (by first | exact Or.inl rfl | exact Or.inr rfl) (l7 C_law_bent _ hr (by decide) (by rfl) (ac (i9 (pv 1)) (ac (i9 (pv 3)) c8)) (c9 (c9 l8)))) (n8 (W5 PassesOwn.never rfl (by rfl) B.range (j4 j6 j7 (EO.b (FO.v (B8 (ac a8 (ac a8 (ac a8 (ac a8 c8))))))) (EO.b (l7 C_law_draw _ hr (by decide) (by rfl) (ac (i9 (pv 1)) (ac a8 c8)) (c9 (c9 l8)))) (fun _ _ => rfl)) (B9 (A3 (i := 8) nd rfl (by first | exact Or.inl rfl | exact Or.inr rfl))) (o6 (u4 (i := 7) nd rfl (by first | exact Or.inl rfl | exact Or.inr rfl) (l7 C_law_bent _ hr (by decide) (by rfl) (ac (i9 (pv 1)) (ac (i9 (pv 7)) c8)) (c9 (c9 l8)))))) (o6 (A1 (F2 (B2 (EO.b (l7 C_law_right _ hr (by decide) (by rfl) (ac (i9 (pv 7)) c8) (c9 l8))))) (o6 (t0 w4)) A0))))))))))) (n8 (Z8 PassesOwn.never rfl (t7 (ac a8 (ac a8 (ac a8 (ac a8 (ac a8 (ac a8 c8))))))) (B9 (A3 (i := 9) nd rfl (by first | exact Or.inl rfl | exact Or.inr rfl))) (o6 (A1 (WO.t (K6 (F2 (B2 (EO.b (l7 C_law_right _ hr (by decide) (by rfl) (ac (t7 (ac w4 (ac (l7 C_law_stepped _ hr (by decide) (by rfl) (ac (i9 (pv 9)) c8) (c9 l8)) c8))) c8) (c9 l8))))) (M0 (F2 (B2 (EO.b (l7 C_law_right _ hr (by decide) (by rfl) (ac (t7 (ac w4 (ac (l7 C_law_stepped _ hr (by decide) (by rfl) (ac (i9 (pv 9)) c8) (c9 l8)) c8))) c8) (c9 l8)))))))) (o6 (t0 w4)) A0))) (n8 (U7 (t7 (ac (t7 (ac a8 (ac a8 (ac a8 c8)))) (ac (t7 (ac a8 (ac a8 (ac a8 c8)))) c8))) (R6 rfl (F4 (B9 (A3 (i := 10) nd rfl (by first | exact Or.inl rfl | exact Or.inr rfl))) (F4 (B9 (A3 (i := 11) nd rfl (by first | exact Or.inl rfl | exact Or.inr rfl))) T8)))) (n8 (M7 (i := 12) nd rfl (by first | exact Or.inl rfl | exact Or.inr rfl) (B8 (ac (t7 (ac w4 (ac (FO.v (B8 (ac (i9 (pv 10)) (ac (i9 (pv 11)) c8)))) c8))) (ac (FO.v (B8 (ac w4 (ac (t7 (ac (i9 (pv 10)) (ac (i9 (pv 11)) c8))) c8)))) (ac (t7 (ac a8 (ac (t7 (ac (i9 (pv 10)) (ac (i9 (pv 11)) c8))) c8))) (ac (t7 (ac w4 (ac (t7 (ac (i9 (pv 10)) (ac (i9 (pv 10)) c8))) c8))) (ac a69 (ac (t7 c8) (ac (t7 (ac w4 c8)) c8))))))))) (n8 (Z8 PassesOwn.never rfl (i9 (pv 12)) (B9 (A3 (i := 7) nd rfl (by first | exact Or.inl rfl | exact Or.inr rfl))) (o6 (A1 (A7 a5A a5V (EO.b (l7 C_is_line _ hr (by decide) (by rfl) (ac (i9 (pv 7)) c8) (c9 l8))) (EO.b w4) (v0 _)) (o6 (t0 w4)) A0))) (o6 (t0 (O8 (F3 a5y a5L (EO.b (l7 C_is_line _ hr (by decide) (by rfl) (ac (t7 (ac w4 (ac (t7 (ac (i9 (pv 10)) (ac (i9 (pv 11)) (ac (i9 (pv 10)) c8)))) c8))) c8) (c9 l8))) (EO.b w4) (v0 _)) (T0 (F3 a5y a5L (EO.b (l7 C_is_line _ hr (by decide) (by rfl) (ac (t7 (ac w4 (ac (t7 (ac (i9 (pv 10)) (ac (i9 (pv 11)) (ac (i9 (pv 10)) c8)))) c8))) c8) (c9 l8))) (EO.b w4) (v0 _))))))))))))
end
end T

namespace T
open PySem PySem.Spec L2 DL
noncomputable abbrev whole : DFn := (a1i (a0Z (a1z (a1v X5 (a1d Y1)) G3 (X2 G3)) (a1o (X2 G3)) (a1R (a05 (a1I (S8 J5) R9)))) (a3E (a0Z (a1z (a1v X5 (a1d Y1)) G3 (X2 G3)) (a1o (X2 G3)) (a1R (a05 (a1I (S8 J5) R9)))) (a2P V7 (a2L (Q0 B5) B5))) L4 (a0U (a36 u9) u9 64) u9 (a2O (Q0 B5) (U4 B5) (X4 B5) (a0w B5)) (a0K (Q0 B5) (a0F B5 u9)) (a2X u9 (a2m u9 (a0P (Q0 B5) (X4 B5) (a0w B5)) (U4 B5) B5 (a0i (U4 B5) B5 u9) (a0K (Q0 B5) (a0F B5 u9))) (a28 (a3Z (X4 B5) (U4 B5)) (a0P (Q0 B5) (X4 B5) (a0w B5)) u9 R4 (a0i (U4 B5) B5 u9) (a0K (Q0 B5) (a0F B5 u9)))) Q3)
set_option maxHeartbeats 4000000 in
theorem all_mk {l : PySem.W.OpenLaw} {w : World} {K : PySem.W.Frag} {h : Heap} {mg : Str → Option Value} {fa : Addr} (X : K.In h) (G : h.Ns mainGlobals mg) (hfa : mg "law" = some (.ref fa)) {f1 f2 f3 f4 f5 f6 f7 f8 f9 f10 f11 f12 f13 f14 f15 f16 f17 f18 f19 f20 f21 f22 f23 f24 f25 f26 f27 f28 f29 f30 f31 f32 f33 f34 f35 f36 f37 f38 f39 f40 : Addr} {d1 d2 d3 d4 d5 d6 d7 d8 d9 d10 d11 d12 d13 d14 d15 d16 d17 d18 d19 d20 d21 d22 d23 d24 d25 d26 d27 d28 d29 d30 d31 d32 d33 d34 d35 d36 d37 d38 d39 d40 : FuncData} 
  (g1 : GF K mg "_law_feed" a3r f1 d1)
  (g2 : GF K mg "divisor_of_two" a2Q f2 d2)
  (g3 : GF K mg "divisor" a3T f3 d3)
  (g4 : GF K mg "is_whole" a3P f4 d4)
  (g5 : GF K mg "is_lowest" a3v f5 d5)
  (g6 : GF K mg "is_place" a2z f6 d6)
  (g7 : GF K mg "are_places" a2B f7 d7)
  (g8 : GF K mg "neighbours" a4i f8 d8)
  (g9 : GF K mg "pieces" a2n f9 d9)
  (g10 : GF K mg "goes_somewhere" a3a f10 d10)
  (g11 : GF K mg "sign" a2q f11 d11)
  (g12 : GF K mg "turn" a10 f12 d12)
  (g13 : GF K mg "is_lesser" a2D f13 d13)
  (g14 : GF K mg "goes_on" a2V f14 d14)
  (g15 : GF K mg "turns_everywhere" a3H f15 d15)
  (g16 : GF K mg "is_line" a2K f16 d16)
  (g17 : GF K mg "_law_ways" a26 f17 d17)
  (g18 : GF K mg "_law_fraction" a31 f18 d18)
  (g19 : GF K mg "_law_at" a3k f19 d19)
  (g20 : GF K mg "_law_is_place" a2M f20 d20)
  (g21 : GF K mg "_law_due" a13 f21 d21)
  (g22 : GF K mg "_law_right" a2c f22 d22)
  (g23 : GF K mg "_law_draw" a21 f23 d23)
  (g24 : GF K mg "_law_odd" a3Y f24 d24)
  (g25 : GF K mg "_law_bent" a2W f25 d25)
  (g26 : GF K mg "_law_product" a3f f26 d26)
  (g27 : GF K mg "_law_way" a33 f27 d27)
  (g28 : GF K mg "_law_number" a2N f28 d28)
  (g29 : GF K mg "_law_place" a2r f29 d29)
  (g30 : GF K mg "_law_xy" a3u f30 d30)
  (g31 : GF K mg "_law_sum" a1X f31 d31)
  (g32 : GF K mg "_law_gone" a3S f32 d32)
  (g33 : GF K mg "_law_closed_line" a3p f33 d33)
  (g34 : GF K mg "_law_minus" a15 f34 d34)
  (g35 : GF K mg "_law_goes_on" a14 f35 d35)
  (g36 : GF K mg "_law_open_line" a3w f36 d36)
  (g37 : GF K mg "_law_line" a3M f37 d37)
  (g38 : GF K mg "_law_stepped" a3A f38 d38)
  (g39 : GF K mg "_law_half_way" a3j f39 d39)
  (g40 : GF K mg "law" a3x f40 d40)
  (B : Blt mg) :
  ∃ fd : FuncData, (∀ (s : Shared) (v : Value), BindsTo s fd ⟨[v], []⟩ [("_law_script", v)]) ∧ ∀ base : Heap, K.In base → base.Ns mainGlobals mg → FnOk l.prog w K mg base CX0 67 fa fd ["_law_script"] (spD K 1 whole) := by
 have e := hfa.symm.trans g40.m
 cases e
 refine ⟨d40, a9E g40.F fun _ _ _ _ _ _ _ _ => .of_eq rfl, fun base _ _ => ?_⟩
 have C_law_feed := a9w (P := l.prog) (w := w) (base := base) B g1
 have C_divisor_of_two := b1r (P := l.prog) (w := w) (base := base) B g2
 have C_divisor := b00 C_divisor_of_two B g3
 have C_is_whole := a8t (P := l.prog) (w := w) (base := base) B g4
 have C_is_lowest := b21 C_divisor C_is_whole B g5
 have C_is_place := b0S C_is_lowest B g6
 have C_are_places := b0C C_is_place B g7
 have C_neighbours := a8g (P := l.prog) (w := w) (base := base) B g8
 have C_pieces := b17 C_neighbours B g9
 have C_goes_somewhere := b1F C_pieces B g10
 have C_sign := a92 (P := l.prog) (w := w) (base := base) B g11
 have C_turn := a8A C_sign B g12
 have C_is_lesser := b2X (P := l.prog) (w := w) (base := base) B g13
 have C_goes_on := a9v C_is_lesser C_turn B g14
 have C_turns_everywhere := b3F C_goes_on C_neighbours C_pieces B g15
 have C_is_line := b0o C_turns_everywhere C_goes_somewhere C_are_places B g16
 have C_law_ways := a8B (P := l.prog) (w := w) (base := base) B g17
 have C_law_fraction := a98 (P := l.prog) (w := w) (base := base) B g18
 have C_law_at := a9V C_law_fraction B g19
 have C_law_is_place := a9Y C_law_at C_law_fraction B g20
 have C_law_due := a8W C_law_ways C_law_is_place B g21
 have C_law_right := b22 C_is_line C_law_due B g22
 have C_law_draw := b2t (P := l.prog) (w := w) (base := base) B g23
 have C_law_odd := b01 C_law_draw B g24
 have C_law_bent := a6K C_law_odd C_law_draw B g25 64
 have C_law_product := b2h C_law_fraction B g26
 have C_law_way := a9C C_law_product C_law_fraction C_law_draw B g27
 have C_law_number := a8k C_law_fraction C_law_draw B g28
 have C_law_place := b3c C_law_at C_law_number B g29
 have C_law_xy := a9U C_law_fraction B g30
 have C_law_sum := b3W C_law_fraction B g31
 have C_law_gone := b1o C_law_at C_law_sum C_law_xy B g32
 have C_law_closed_line := a8p C_law_draw C_law_gone C_law_product C_law_fraction C_law_way C_law_place B g33
 have C_law_minus := b0e (P := l.prog) (w := w) (base := base) B g34
 have C_law_goes_on := b3s C_law_sum C_law_product B g35
 have C_law_open_line := b0D C_law_goes_on C_law_gone C_law_draw C_law_minus C_law_way C_law_place B g36
 have C_law_line := a7p C_law_draw C_law_closed_line C_law_open_line B g37
 have C_law_stepped := b1W (P := l.prog) (w := w) (base := base) B g38
 have C_law_half_way := a86 C_law_at C_law_product C_law_sum C_law_xy B g39
 exact b3i C_is_line C_law_right C_law_stepped C_law_bent C_law_draw C_law_half_way C_law_place C_law_line C_law_feed B g40.F
end T
open PySem PySem.W PyProof.Rows
set_option maxRecDepth 100000 in
set_option maxHeartbeats 0 in
theorem PySem.Challenge.cw_widelines_k05_lines_of_any_thing_holds : PySem.Challenge.rw_widelines_k05_lines_of_any_thing.Holds := by
 w_on; o_law; k_head; (case hw => w_witness2)
 k_fill
 refine DL.walkD (l := PySem.Challenge.rw_widelines_k05_lines_of_any_thing) (m := T.whole) (k := 67) rfl rfl ⟨rfl, by decide, by decide, rfl⟩ (fun w h Y => PySem.W.kIn_of Y) ?F T.math
 case F =>
  intro w mg fa h KX G hmg
  refine' T.all_mk KX G hmg (DL.gf_mk KX G ?_ ?_ ?_ ?_) (DL.gf_mk KX G ?_ ?_ ?_ ?_) (DL.gf_mk KX G ?_ ?_ ?_ ?_) (DL.gf_mk KX G ?_ ?_ ?_ ?_) (DL.gf_mk KX G ?_ ?_ ?_ ?_) (DL.gf_mk KX G ?_ ?_ ?_ ?_) (DL.gf_mk KX G ?_ ?_ ?_ ?_) (DL.gf_mk KX G ?_ ?_ ?_ ?_) (DL.gf_mk KX G ?_ ?_ ?_ ?_) (DL.gf_mk KX G ?_ ?_ ?_ ?_) (DL.gf_mk KX G ?_ ?_ ?_ ?_) (DL.gf_mk KX G ?_ ?_ ?_ ?_) (DL.gf_mk KX G ?_ ?_ ?_ ?_) (DL.gf_mk KX G ?_ ?_ ?_ ?_) (DL.gf_mk KX G ?_ ?_ ?_ ?_) (DL.gf_mk KX G ?_ ?_ ?_ ?_) (DL.gf_mk KX G ?_ ?_ ?_ ?_) (DL.gf_mk KX G ?_ ?_ ?_ ?_) (DL.gf_mk KX G ?_ ?_ ?_ ?_) (DL.gf_mk KX G ?_ ?_ ?_ ?_) (DL.gf_mk KX G ?_ ?_ ?_ ?_) (DL.gf_mk KX G ?_ ?_ ?_ ?_) (DL.gf_mk KX G ?_ ?_ ?_ ?_) (DL.gf_mk KX G ?_ ?_ ?_ ?_) (DL.gf_mk KX G ?_ ?_ ?_ ?_) (DL.gf_mk KX G ?_ ?_ ?_ ?_) (DL.gf_mk KX G ?_ ?_ ?_ ?_) (DL.gf_mk KX G ?_ ?_ ?_ ?_) (DL.gf_mk KX G ?_ ?_ ?_ ?_) (DL.gf_mk KX G ?_ ?_ ?_ ?_) (DL.gf_mk KX G ?_ ?_ ?_ ?_) (DL.gf_mk KX G ?_ ?_ ?_ ?_) (DL.gf_mk KX G ?_ ?_ ?_ ?_) (DL.gf_mk KX G ?_ ?_ ?_ ?_) (DL.gf_mk KX G ?_ ?_ ?_ ?_) (DL.gf_mk KX G ?_ ?_ ?_ ?_) (DL.gf_mk KX G ?_ ?_ ?_ ?_) (DL.gf_mk KX G ?_ ?_ ?_ ?_) (DL.gf_mk KX G ?_ ?_ ?_ ?_) (DL.gf_mk KX G ?_ ?_ ?_ ?_) (DL.blt_mk KX G ?_ ?_ ?_ ?_ ?_ ?_ ?_ ?_ ?_ ?_ ?_ ?_ ?_ ?_ ?_ ?_ ?_ ?_ ?_)
  all_goals try k_is




